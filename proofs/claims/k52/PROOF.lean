import PyProof.Rows.All
import Wide.All
import OpenK.AllK
import Wide.FinOn
import Lean
import PyProof.EqAt
import PyProof.EqKinds
import PyProof.TupleCall
import PySem.Challenge.RW_pollproof_k52_ways_and_cuts_show
set_option Elab.async false
set_option linter.all false
set_option maxRecDepth 100000
namespace Head
open PySem PySem.W PyProof.Rows
def runT (p : Program) (w : World) (n0 : Nat) (ann : Option Value) : Nat → SharedT → Thread → Option SharedT
  | 0, _, _ => none
  | n + 1, s, t => match through t with
    | true => some s
    | false => match stepOk n0 ann t with
      | false => none
      | true => match stepT (denote treeTable) p w s t with
        | some (s', t') => runT p w n0 ann n s' t'
        | none => none
theorem runT_of {p : Program} {w : World} {n0 : Nat} {ann : Option Value} : ∀ {n : Nat} {s s' : SharedT} {t : Thread}, runT p w n0 ann n s t = some s' → topRun treeTable p w n0 ann n s.abs t = some s'.abs
  | 0, _, _, _, h => by cases h
  | n + 1, s, s', t, h => by
    unfold runT at h
    unfold topRun
    cases he : through t with
    | true => rw [he] at h; cases h; rfl
    | false =>
      rw [he] at h
      cases hk : stepOk n0 ann t with
      | false => rw [hk] at h; cases h
      | true =>
        rw [hk] at h
        cases hs : stepT (denote treeTable) p w s t with
        | none => rw [hs] at h; cases h
        | some r => obtain ⟨s2, t2⟩ := r; rw [hs] at h; rw [stepT_spec hs]; exact runT_of h
def grow : List Obj → Nat → BT → Option BT
  | [], _, t => some t
  | o :: os, n, t => match ((t.ins n o).get n).isSome with
    | true => grow os (n + 1) (t.ins n o)
    | false => none
theorem grow_of {life : Life} : ∀ {os : List Obj} {n : Nat} {t t' : BT} {xs : List Obj}, (absHeap t n life) = ⟨xs.toArray, life⟩ → grow os n t = some t' → absHeap t' (n + os.length) life = ⟨(xs ++ os).toArray, life⟩
  | [], n, t, t', xs, a, h => by
    cases h
    rw [List.append_nil]
    exact a
  | o :: os, n, t, t', xs, a, h => by
    unfold grow at h
    cases g : ((t.ins n o).get n).isSome with
    | false => rw [g] at h; cases h
    | true =>
      rw [g] at h
      have b : absHeap (t.ins n o) (n + 1) life = ⟨(xs ++ [o]).toArray, life⟩ := by
        rw [absHeap_ins g, a]
        show (⟨xs.toArray.push o, life⟩ : Heap) = _
        rw [List.push_toArray]
      have c := grow_of b h
      rw [List.append_assoc] at c
      rw [List.length_cons, show n + (os.length + 1) = n + 1 + os.length by omega]
      exact c
theorem grow_all {H : Heap} {T : BT} (h : grow H.objs.toList 0 .nil = some T) : absHeap T H.objs.size H.life = H := by
  have c := grow_of (life := H.life) (n := 0) (t := .nil) (xs := []) rfl h
  rw [Nat.zero_add, Array.length_toList] at c
  rw [c]
  obtain ⟨a, l⟩ := H
  show (⟨([] ++ a.toList).toArray, l⟩ : Heap) = ⟨a, l⟩
  rw [List.nil_append, Array.toArray_toList]
theorem left {p q : Program} {loose : List PySem.Str} {Xt : Shared → Bool} {α : Type} {Yf : Shared → α} {Ya : World → α} {N : Nat} {g0 : Bool}
    (e : opening p = plainProg p.main.scope.names) (hN : Nat.ble 600 N = true) (f : ∀ s, fenceModules? p s = some s)
    (h : ∀ (w : World) (os : OsState), ((grow (boot_heap w.params).objs.toList 0 .nil).bind fun T => (runT p w (boot_heap w.params).objs.size ((boot_heap w.params).nsMap mainGlobals "__annotations__") N ⟨T, (boot_heap w.params).objs.size, (boot_heap w.params).life, Array.mk [], boot_drawn, boot_toks, os⟩ (topStub p)).map fun s =>
      (((boot_heap w.params).isNs mainGlobals, staticsOk (importedModules p.main.body) (boot_heap w.params) s.abs.heap && namesBound p s.abs.heap && gensDone s.abs && laidKept (boot_heap w.params) s.abs.heap), openSeen q loose (importedModules p.main.body) Xt g0 s.abs, Yf s.abs)) =
      some ((true, true), openGood q loose, Ya w)) : LeftO p q loose Xt Yf Ya N g0 := fun w => by
  obtain ⟨⟨hp, gs, d, k, os⟩, e1, e2⟩ := Option.map_eq_some_iff.mp (boot_open e hN f w)
  obtain ⟨rfl, rfl, rfl, rfl⟩ : hp = boot_heap w.params ∧ gs = Array.mk [] ∧ d = boot_drawn ∧ k = boot_toks := by simpa using e2
  have z := h w os
  cases gT : grow (boot_heap w.params).objs.toList 0 .nil with
  | none => rw [gT] at z; cases z
  | some T =>
    rw [gT] at z
    obtain ⟨s, r, y⟩ := Option.map_eq_some_iff.mp z
    have r' := runT_of r
    injection y with y1 y2
    injection y1 with y3 y4
    injection y2 with y5 y6
    have a : (⟨T, (boot_heap w.params).objs.size, (boot_heap w.params).life, Array.mk [], boot_drawn, boot_toks, os⟩ : SharedT).abs = ⟨boot_heap w.params, Array.mk [], boot_drawn, boot_toks, os⟩ := by
      unfold SharedT.abs
      rw [grow_all gT]
    rw [a] at r'
    unfold openEnds
    rw [e1]
    show (topFrom treeTable p w N _).map _ = _
    have t : topFrom treeTable p w N ⟨boot_heap w.params, Array.mk [], boot_drawn, boot_toks, os⟩ = some s.abs := by
      unfold topFrom
      dsimp only
      rw [y3, r']
      show (match staticsOk (importedModules p.main.body) (boot_heap w.params) s.abs.heap && namesBound p s.abs.heap && gensDone s.abs && laidKept (boot_heap w.params) s.abs.heap with | true => _ | false => _) = _
      rw [y4]
    rw [t]
    exact congrArg some (Prod.ext y5 y6)
end Head
namespace Head
open PySem PySem.W PyProof.Rows
abbrev q0 : Program := view PySem.Challenge.pw_pollproof_k52_ways_and_cuts_show [4, 19]
abbrev r0 : OpenRow := OpenLaw.row PySem.Challenge.rw_pollproof_k52_ways_and_cuts_show
local macro_rules | `(tactic| o_head $H) => do
  let (hl, hw, hc) := (Lean.mkIdent `hl, Lean.mkIdent `hw, Lean.mkIdent `hc)
  `(tactic| (
    refine holds_open (r := r0) (q := q0) (loose := [PySem.Str.ofString "with_one", PySem.Str.ofString "hands_of", PySem.Str.ofString "way_by", PySem.Str.ofString "cut_by", PySem.Str.ofString "strength", PySem.Str.ofString "way_between", PySem.Str.ofString "cut_between", PySem.Str.ofString "_law_whole", PySem.Str.ofString "_law_cell", PySem.Str.ofString "_law_mixed", PySem.Str.ofString "_law_table", PySem.Str.ofString "_law_way", PySem.Str.ofString "_law_cut", PySem.Str.ofString "_law_leads", PySem.Str.ofString "_law_pairs"]) (N := 100000)
      (Xt := fun s => xlAt q0 [] s && recOk (RowW.records (OpenRow.toRowW r0)) s)
      (XP := XL q0 []) (Yf := Hook.obs $H) (Ya := Hook.val $H) (YP := Hook.says $H)
      ?$hl (Hook.of $H) (Hook.keeps $H) (fun s e => xl_of s (Bool.and_eq_true_iff.mp e).1) XL.keeps
      (by rfl) (by rfl) (by rfl) (fun s e => recFacts_of (Bool.and_eq_true_iff.mp e).2) (by rfl) (by assumption)
      (by decide +kernel) ⟨rfl, rfl, rfl, rfl, rfl, by decide +kernel⟩ ?$hw ?$hc;
    (next => (exact left (by kernel_rfl) (by decide) (fun s => by kernel_rfl) (fun w os => by kernel_rfl)))))
set_option maxRecDepth 100000 in
set_option maxHeartbeats 0 in
open_top top for PySem.Challenge.rw_pollproof_k52_ways_and_cuts_show
end Head
namespace L2
open PySem PySem.Spec PyProof.Rows
abbrev Key := Sum Int Str
def keyIs : Key → Value → Bool
  | .inl k, v => Value.isInt k v
  | .inr x, v => Value.isStrOf x v
def keyH (w : World) : Key → Int
  | .inl k => hashInt k
  | .inr x => hashStr w x
theorem keyIs_shape : ∀ {k : Key} {v : Value}, keyIs k v = true → (∃ i t, k = Sum.inl i ∧ v = Value.int i t) ∨ (∃ x t, k = Sum.inr x ∧ v = Value.str x t)
  | .inl i, v, h => by
    obtain ⟨t, e⟩ := Value.isInt_shape (k := i) (v := v) h
    exact .inl ⟨i, t, rfl, e⟩
  | .inr x, v, h => by
    obtain ⟨t, e⟩ := Value.isStrOf_shape (x := x) (v := v) h
    exact .inr ⟨x, t, rfl, e⟩
theorem key_ll (a b : Int) : decide ((Sum.inl a : Key) = Sum.inl b) = (a == b) := by
  by_cases e : a = b
  · subst e; simp
  · have h : ¬ (Sum.inl a : Key) = Sum.inl b := fun q => e (Sum.inl.inj q)
    rw [decide_eq_false h]
    exact (beq_eq_false_iff_ne.mpr e).symm
theorem key_rr (a b : Str) : decide ((Sum.inr a : Key) = Sum.inr b) = decide (a = b) := by
  by_cases e : a = b
  · subst e; simp
  · have h : ¬ (Sum.inr a : Key) = Sum.inr b := fun q => e (Sum.inr.inj q)
    rw [decide_eq_false h, decide_eq_false e]
theorem key_lr (a : Int) (b : Str) : decide ((Sum.inl a : Key) = Sum.inr b) = false := decide_eq_false (fun q => nomatch q)
theorem key_rl (a : Str) (b : Int) : decide ((Sum.inr a : Key) = Sum.inl b) = false := decide_eq_false (fun q => nomatch q)
def mixKind (prog : Program) (w : World) : PySem.KeyKind prog w Key where
  is := keyIs
  hash := keyH w
  inj := fun v a b ha hb => by
    rcases keyIs_shape ha with ⟨i, t, rfl, rfl⟩ | ⟨x, t, rfl, rfl⟩
    · rcases keyIs_shape hb with ⟨j, u, rfl, e⟩ | ⟨y, u, rfl, e⟩
      · injection e with e1 _; rw [e1]
      · exact nomatch e
    · rcases keyIs_shape hb with ⟨j, u, rfl, e⟩ | ⟨y, u, rfl, e⟩
      · exact nomatch e
      · injection e with e1 _; rw [e1]
  byValue := fun k v h => by
    rcases keyIs_shape h with ⟨i, t, rfl, rfl⟩ | ⟨x, t, rfl, rfl⟩ <;> rfl
  pyHash := fun hv h => by
    rcases keyIs_shape hv with ⟨i, t, rfl, rfl⟩ | ⟨x, t, rfl, rfl⟩
    · exact wpAny_pyHash_int h
    · exact wpAny_pyHash_str h
  eqBool := fun hu hv h => by
    rcases keyIs_shape hu with ⟨i, t, rfl, rfl⟩ | ⟨x, t, rfl, rfl⟩
    · rcases keyIs_shape hv with ⟨j, u, rfl, rfl⟩ | ⟨y, u, rfl, rfl⟩
      · rw [key_ll] at h; exact wpAny_eqBool_int h
      · rw [key_lr] at h; exact SeqAt.EqAt.int_str i t y u _ _ _ _ h
    · rcases keyIs_shape hv with ⟨j, u, rfl, rfl⟩ | ⟨y, u, rfl, rfl⟩
      · rw [key_rl] at h; exact SeqAt.EqAt.str_int x t j u _ _ _ _ h
      · rw [key_rr] at h; exact wpAny_eqBool_str h
  «strs» := fun k x t v h => by
    rcases keyIs_shape h with ⟨i, u, rfl, e⟩ | ⟨y, u, rfl, e⟩
    · exact nomatch e
    · injection e with e1 _
      subst e1
      cases v <;> rfl
end L2
namespace L2
open PySem PySem.Spec PyProof.Rows
inductive V where
  | non | bl (b : Bool) | int (i : Int) | str (x : Str) | byt (b : Array UInt8) | flt (b : UInt64) | ref (a : Addr) | ty (n : String)
  deriving DecidableEq
def RelV : V → Value → Prop
  | .non, u => u = Value.none
  | .bl b, u => u = Value.bool b
  | .int i, u => ∃ t, u = Value.int i t
  | .str x, u => ∃ t, u = Value.str x t
  | .byt b, u => ∃ t, u = Value.bytes b t
  | .flt b, u => ∃ t, u = Value.float b t
  | .ref a, u => u = Value.ref a
  | .ty n, u => u = Value.type n
abbrev Vals : List V → List Value → Prop := Paired RelV
theorem Vals.length {xs : List V} {us : List Value} (r : Vals xs us) : xs.length = us.length := Paired.length r
theorem Vals.get : ∀ {xs : List V} {us : List Value} {i : Nat} {x : V}, Vals xs us → xs[i]? = some x → ∃ u, us[i]? = some u ∧ RelV x u
  | _, _, _, _, .nil, e => by simp at e
  | _, _, 0, _, .cons r _, e => by simp at e; subst e; exact ⟨_, rfl, r⟩
  | _, _, i + 1, x, .cons _ t, e => by
    obtain ⟨u, h1, h2⟩ := Vals.get (i := i) (x := x) t (by simpa using e)
    exact ⟨u, by simpa using h1, h2⟩
theorem Vals.set {x : V} {u : Value} (r : RelV x u) : ∀ {xs : List V} {us : List Value} (i : Nat), Vals xs us → Vals (xs.set i x) (us.set i u)
  | _, _, _, .nil => .nil
  | _, _, 0, .cons _ t => .cons r t
  | _, _, i + 1, .cons q t => .cons q (Vals.set r i t)
theorem Vals.append : ∀ {xs ys : List V} {us ws : List Value}, Vals xs us → Vals ys ws → Vals (xs ++ ys) (us ++ ws)
  | _, _, _, _, .nil, s => s
  | _, _, _, _, .cons r t, s => .cons r (Vals.append t s)
theorem Vals.take : ∀ {xs : List V} {us : List Value} (n : Nat), Vals xs us → Vals (xs.take n) (us.take n)
  | _, _, 0, _ => .nil
  | _, _, _ + 1, .nil => .nil
  | _, _, n + 1, .cons r t => .cons r (Vals.take n t)
theorem Vals.drop : ∀ {xs : List V} {us : List Value} (n : Nat), Vals xs us → Vals (xs.drop n) (us.drop n)
  | _, _, 0, r => r
  | _, _, _ + 1, .nil => .nil
  | _, _, n + 1, .cons _ t => Vals.drop n t
theorem Vals.none_of : ∀ {xs : List V} {us : List Value} {i : Nat}, Vals xs us → xs[i]? = none → us[i]? = none := fun {xs us i} r e => by
  have h1 := r.length
  have h2 : xs.length ≤ i := List.getElem?_eq_none_iff.mp e
  exact List.getElem?_eq_none_iff.mpr (by omega)
def RelO : Option V → Option Value → Prop
  | some v, some u => RelV v u
  | none, none => True
  | _, _ => False
def KV {κ : Type} : List (κ × V) → List (κ × Value) → Prop := Paired fun (p : κ × V) (q : κ × Value) => p.1 = q.1 ∧ RelV p.2 q.2
def kV : Key → V
  | .inl i => .int i
  | .inr x => .str x
inductive HO where
  | lst (xs : List V)
  | tup (xs : List V)
  | dK (kvs : List (Key × V)) | dT (kvs : List (List Key × V))
  | set (S : Int → Bool) (n : Nat)
  | ins (C dx : Addr) (fs : List (Str × V))
  | own (x : Addr)
  | xd (fs : List (Str × V))
  | met (f x : Addr)
  | rng (lo hi : Int)
  | frz (o : Obj) (u : HO)
  | tbl (ps : Array Value)
  | ext (φ : Heap → Prop)
abbrev Hp := Addr → Option HO
def upd (H : Hp) (a : Addr) (o : HO) : Hp := fun b => if b = a then some o else H b
theorem upd_same {H : Hp} {a : Addr} {o : HO} : upd H a o a = some o := by unfold upd; rw [if_pos rfl]
theorem upd_ne {H : Hp} {a b : Addr} {o : HO} (h : b ≠ a) : upd H a o b = H b := by unfold upd; rw [if_neg h]
theorem upd_upd {H : Hp} {a : Addr} {o u : HO} : upd (upd H a o) a u = upd H a u := by
  funext b; unfold upd; split <;> rfl
theorem ne_of_none {H : Hp} {a b : Addr} {o : HO} (h : H a = some o) (h' : H b = none) : a ≠ b := by
  intro e; subst e; rw [h] at h'; cases h'
section
variable (P : Program) (w : World)
def ObjOk (H : Hp) (h : Heap) (a : Addr) : HO → Prop
  | .lst xs => xs.length ≤ sizeLine ∧ ∃ (its : List Value) (n : Nat), Vals xs its ∧ h.get? a = some { cls := .type "list", data := .seq its.toArray n }
  | .tup xs => xs.length ≤ sizeLine ∧ ∃ its : List Value, Vals xs its ∧ IsTup h a its.toArray
  | .dK kvs => kvs.length ≤ sizeLine ∧ (a == sysModules) = false ∧ ∃ vs, KV kvs vs ∧ h.DictOf (mixKind P w) a vs
  | .dT kvs => kvs.length ≤ sizeLine ∧ (a == sysModules) = false ∧ ∃ xs : List (List Key × Addr × Value),
      Paired (fun (p : List Key × V) (q : List Key × Addr × Value) => p.1 = q.1 ∧ H q.2.1 = some (.tup (p.1.map kV)) ∧ RelV p.2 q.2.2) kvs xs ∧
      ∃ o es ep, h.get? a = some o ∧ o.ExactDict ∧ o.data = .dict es ep ∧ es.toList = xs.map (entryOfKey (tupleKind (mixKind P w))) ∧ (xs.map (·.1)).Nodup
  | .set S n => h.SetOf (intKind P w) a S n
  | .ins C dx fs => H dx = some (.own a) ∧ fs.length ≤ 1000 ∧ dx ≠ a ∧ h.get? a = some (PySem.W.instObj C dx) ∧
      ∃ mA, h.Ns1 dx mA ∧ (∀ f, RelO (fs.lookup f) (mA f)) ∧ PySem.Within mA (fs.map (·.1))
  | .own _ => ∃ o, h.get? a = some o
  | .xd fs => ∃ mA, h.Ns1 a mA ∧ ∀ f, RelO (fs.lookup f) (mA f)
  | .rng lo hi => ∃ t u v, h.get? a = some { cls := .type "range", data := .fields #[.int lo t, .int hi u, .int 1 v] }
  | .frz o u => h.get? a = some o ∧ ObjOk H h a u
  | .tbl ps => h.get? a = some { cls := .none, data := .fields ps }
  | .met f x => h.get? a = some (PySem.W.methodObj (.ref f) (.ref x))
  | .ext φ => φ h ∧ (∃ o, h.get? a = some o) ∧ ∀ h1 h2 : Heap, φ h1 → (∀ o, h1.get? a = some o → h2.get? a = some o) → φ h2
def HOk (H : Hp) (h : Heap) : Prop := ∀ a o, H a = some o → ObjOk P w H h a o
end
section
variable {P : Program} {w : World} {H H' : Hp} {h h' : Heap} {a : Addr} {o : HO}
theorem ObjOk.lt (x : ObjOk P w H h a o) : a < h.objs.size := by
  cases o with
  | lst xs => obtain ⟨_, _, _, _, e⟩ := x; exact Heap.lt_size e
  | tup xs => obtain ⟨_, _, _, p⟩ := x; exact p.lt
  | dK kvs => obtain ⟨_, _, _, _, o, _, _, e, _⟩ := x; exact Heap.lt_size e
  | dT kvs => obtain ⟨_, _, _, _, o, _, _, e, _⟩ := x; exact Heap.lt_size e
  | set S n => obtain ⟨o, _, _, _, e, _⟩ := x; exact Heap.lt_size e
  | ins C dx fs => obtain ⟨_, _, _, e, _⟩ := x; exact Heap.lt_size e
  | own y => obtain ⟨_, e⟩ := x; exact Heap.lt_size e
  | xd fs => obtain ⟨_, ⟨_, _, _, e, _⟩, _⟩ := x; exact Heap.lt_size e
  | rng lo hi => obtain ⟨_, _, _, e⟩ := x; exact Heap.lt_size e
  | frz ob u => obtain ⟨e, _⟩ := x; exact Heap.lt_size e
  | tbl ps => exact Heap.lt_size (show h.get? a = some _ from x)
  | met f y => exact Heap.lt_size (show h.get? a = some _ from x)
  | ext φ => obtain ⟨_, ⟨_, e⟩, _⟩ := x; exact Heap.lt_size e
theorem Paired.mapP {α β : Type} {F G : α → β → Prop} : ∀ {l₁ : List α} {l₂ : List β}, Paired F l₁ l₂ → (∀ a b, F a b → G a b) → Paired G l₁ l₂
  | _, _, .nil, _ => .nil
  | _, _, .cons r t, f => .cons (f _ _ r) (Paired.mapP t f)
theorem ObjOk.stay (x : ObjOk P w H h a o) (k : ∀ b u, (b = a ∨ H b = some (.own a)) → h.get? b = some u → h'.get? b = some u)
    (ho : ∀ b, H b = some (.own a) → H' b = some (.own a)) (ht : ∀ b xs, H b = some (.tup xs) → H' b = some (.tup xs)) : ObjOk P w H' h' a o := by
  induction o with
  | lst xs => obtain ⟨z, its, n, r, e⟩ := x; exact ⟨z, its, n, r, k _ _ (.inl rfl) e⟩
  | tup xs => obtain ⟨z, its, r, ob, e, c⟩ := x; exact ⟨z, its, r, ob, k _ _ (.inl rfl) e, c⟩
  | dK kvs => obtain ⟨z, y, vs, r, ob, es, ep, e, c⟩ := x; exact ⟨z, y, vs, r, ob, es, ep, k _ _ (.inl rfl) e, c⟩
  | dT kvs =>
    obtain ⟨z, y, xs, r, ob, es, ep, e, c⟩ := x
    exact ⟨z, y, xs, Paired.mapP r fun p q z => ⟨z.1, ht _ _ z.2.1, z.2.2⟩, ob, es, ep, k _ _ (.inl rfl) e, c⟩
  | set S n => obtain ⟨ob, es, ep, t, e, c⟩ := x; exact ⟨ob, es, ep, t, k _ _ (.inl rfl) e, c⟩
  | ins C dx fs =>
    obtain ⟨d, z, ne, e, mA, ⟨od, es, ep, e2, c⟩, r⟩ := x
    exact ⟨ho _ d, z, ne, k _ _ (.inl rfl) e, mA, ⟨od, es, ep, k _ _ (.inr d) e2, c⟩, r⟩
  | own y => obtain ⟨ob, e⟩ := x; exact ⟨ob, k _ _ (.inl rfl) e⟩
  | xd fs => obtain ⟨mA, ⟨od, es, ep, e, c⟩, r⟩ := x; exact ⟨mA, ⟨od, es, ep, k _ _ (.inl rfl) e, c⟩, r⟩
  | rng lo hi => obtain ⟨t, u, v, e⟩ := x; exact ⟨t, u, v, k _ _ (.inl rfl) e⟩
  | frz ob u ih => obtain ⟨e, q⟩ := x; exact ⟨k _ _ (.inl rfl) e, ih q⟩
  | tbl ps =>
    have e : h.get? a = some { cls := .none, data := .fields ps } := x
    show h'.get? a = some { cls := .none, data := .fields ps }
    exact k a _ (.inl rfl) e
  | met f y =>
    have e : h.get? a = some (PySem.W.methodObj (.ref f) (.ref y)) := x
    show h'.get? a = some (PySem.W.methodObj (.ref f) (.ref y))
    exact k a _ (.inl rfl) e
  | ext φ => obtain ⟨p, ⟨o, e⟩, st⟩ := x; exact ⟨st _ _ p fun o q => k _ _ (.inl rfl) q, ⟨o, k _ _ (.inl rfl) e⟩, st⟩
theorem HOk.lt (x : HOk P w H h) (e : H a = some o) : a < h.objs.size := (x a o e).lt
theorem HOk.fresh (x : HOk P w H h) (e : h.objs.size ≤ a) : H a = none := by
  cases q : H a with
  | none => rfl
  | some u => exact absurd (Nat.lt_of_lt_of_le (x.lt q) e) (Nat.lt_irrefl _)
theorem HOk.kept (x : HOk P w H h) (k : ∀ b u, h.get? b = some u → h'.get? b = some u) : HOk P w H h' := fun a o e =>
  (x a o e).stay (fun b u _ q => k b u q) (fun _ q => q) fun _ _ q => q
theorem HOk.laid (x : HOk P w H h) (k : ∀ b u, h.get? b = some u → h'.get? b = some u) (hp : h.objs.size ≤ a) (new : ObjOk P w (upd H a o) h' a o) : HOk P w (upd H a o) h' := fun b u e => by
  have hn := x.fresh hp
  by_cases hb : b = a
  · subst hb; rw [upd_same] at e; cases e; exact new
  · rw [upd_ne hb] at e
    exact (x b u e).stay (fun c v _ q => k c v q) (fun c q => by rw [upd_ne (ne_of_none q hn)]; exact q) fun c xs q => by rw [upd_ne (ne_of_none q hn)]; exact q
end
def Rd (H : Hp) (a : Addr) (u : HO) : Prop := H a = some u ∨ ∃ o, H a = some (.frz o u)
theorem Rd.of {H : Hp} {a : Addr} {u : HO} (h : H a = some u) : Rd H a u := .inl h
theorem Rd.ok {P : Program} {w : World} {H : Hp} {h : Heap} {a : Addr} {u : HO} (r : Rd H a u) (x : HOk P w H h) : ObjOk P w H h a u := by
  rcases r with r | ⟨o, r⟩
  · exact x a u r
  · obtain ⟨_, q⟩ := x a _ r
    exact q
def Mut : Option HO → Prop
  | some (.lst _) => True
  | some (.dK _) => True
  | some (.dT _) => True
  | some (.set _ _) => True
  | some (.ins _ _ _) => True
  | some (.ext _) => True
  | _ => False
section
variable {P : Program} {w : World} {H : Hp} {h h' : Heap} {x e : Addr} {o' : HO}
theorem HOk.write (ok : HOk P w H h) (mu : Mut (H x)) (he : e = x ∨ H e = some (.own x)) (k : ∀ b u, b ≠ e → h.get? b = some u → h'.get? b = some u) (heo : ∃ u, h'.get? e = some u)
    (new : ObjOk P w (upd H x o') h' x o') : HOk P w (upd H x o') h' := fun b u q => by
  have nown : ∀ c y, H c = some (.own y) → c ≠ x := fun c y r z => by subst z; rw [r] at mu; exact mu
  have ntup : ∀ c xs, H c = some (.tup xs) → c ≠ x := fun c xs r z => by subst z; rw [r] at mu; exact mu
  by_cases hb : b = x
  · subst hb; rw [upd_same] at q; cases q; exact new
  · rw [upd_ne hb] at q
    by_cases hbe : b = e
    · have q' : H b = some (.own x) := by
        rcases he with z | z
        · exact absurd (hbe.trans z) hb
        · rw [hbe]; exact z
      rw [q] at q'; cases q'
      obtain ⟨v, hv⟩ := heo
      exact ⟨v, by rw [hbe]; exact hv⟩
    · refine (ok b u q).stay (fun c v hc r => k c v ?_ r) (fun c r => by rw [upd_ne (nown c b r)]; exact r) fun c xs r => by rw [upd_ne (ntup c xs r)]; exact r
      rcases hc with rfl | hc
      · exact hbe
      · rintro rfl
        rcases he with z | z
        · exact nown c b hc z
        · rw [hc] at z; cases z; exact hb rfl
end
structure Un (fs ex : List Addr) (H H' : Hp) (h h' : Heap) : Prop where
  keep : ∀ b o, h.get? b = some o → H b = none → b ∉ fs → b ∉ ex → h'.get? b = some o
  slot : ∀ b o, h.get? b = some o → H b = none → b ∈ fs → b ∉ ex → ∃ sl, h'.get? b = some { o with slots := sl }
  free : ∀ b o, h.get? b = some o → H b = none → b ∉ ex → H' b = none
  there : ∀ b o, h.get? b = some o → b ∉ ex → ∃ o', h'.get? b = some o'
  tups : ∀ b xs, H b = some (.tup xs) → H' b = some (.tup xs)
  frzs : ∀ b o u, H b = some (.frz o u) → H' b = some (.frz o u)
  tbls : ∀ b ps, H b = some (.tbl ps) → ∃ more, H' b = some (.tbl (ps ++ more))
section
variable {fs fs' ex ex' : List Addr} {H H1 H2 : Hp} {h h1 h2 h' : Heap} {a x e : Addr} {o : HO}
theorem Un.any (u : Un fs ex H H1 h h1) {b : Addr} {ob : Obj} (q : h.get? b = some ob) (n : H b = none) (hx : b ∉ ex) : ∃ sl, h1.get? b = some { ob with slots := sl } := by
  by_cases hb : b ∈ fs
  · exact u.slot b ob q n hb hx
  · exact ⟨ob.slots, u.keep b ob q n hb hx⟩
theorem Un.trans (a : Un fs ex H H1 h h1) (b : Un fs ex H1 H2 h1 h2) : Un fs ex H H2 h h2 where
  keep := fun c ob q n hc hx => b.keep c ob (a.keep c ob q n hc hx) (a.free c ob q n hx) hc hx
  slot := fun c ob q n hc hx => by
    obtain ⟨sl, e1⟩ := a.slot c ob q n hc hx
    obtain ⟨sl', e2⟩ := b.slot c _ e1 (a.free c ob q n hx) hc hx
    exact ⟨sl', e2⟩
  free := fun c ob q n hx => by
    obtain ⟨o', e1⟩ := a.there c ob q hx
    exact b.free c o' e1 (a.free c ob q n hx) hx
  there := fun c ob q hx => by
    obtain ⟨o', e1⟩ := a.there c ob q hx
    exact b.there c o' e1 hx
  tups := fun c xs q => b.tups c xs (a.tups c xs q)
  frzs := fun c ob xs q => b.frzs c ob xs (a.frzs c ob xs q)
  tbls := fun c ps q => by
    obtain ⟨m1, e1⟩ := a.tbls c ps q
    obtain ⟨m2, e2⟩ := b.tbls c _ e1
    exact ⟨m1 ++ m2, by rw [e2, Array.append_assoc]⟩
theorem Un.kept (k : ∀ b u, h.get? b = some u → h'.get? b = some u) : Un fs ex H H h h' :=
  ⟨fun b ob q _ _ _ => k b ob q, fun b ob q _ _ _ => ⟨ob.slots, k b ob q⟩, fun _ _ _ n _ => n, fun b ob q _ => ⟨ob, k b ob q⟩, fun _ _ q => q, fun _ _ _ q => q, fun _ ps q => ⟨#[], by rw [q]; simp⟩⟩
theorem Un.refl : Un fs ex H H h h := Un.kept fun _ _ q => q
theorem Un.laid (k : ∀ b u, h.get? b = some u → h'.get? b = some u) (hp : h.objs.size ≤ a) (hn : H a = none) : Un fs ex H (upd H a o) h h' where
  keep := fun b u q _ _ _ => k b u q
  slot := fun b u q _ _ _ => ⟨u.slots, k b u q⟩
  free := fun b u q n _ => by rw [upd_ne (Nat.ne_of_lt (Nat.lt_of_lt_of_le (Heap.lt_size q) hp))]; exact n
  there := fun b u q _ => ⟨u, k b u q⟩
  tups := fun b xs q => by rw [upd_ne (ne_of_none q hn)]; exact q
  frzs := fun b u xs q => by rw [upd_ne (ne_of_none q hn)]; exact q
  tbls := fun b ps q => ⟨#[], by rw [upd_ne (ne_of_none q hn), q]; simp⟩
theorem Un.write (mu : Mut (H x)) (he : e = x ∨ H e = some (.own x)) (k : ∀ b u, b ≠ e → h.get? b = some u → h'.get? b = some u) (heo : ∃ u, h'.get? e = some u) : Un fs ex H (upd H x o) h h' := by
  have hx : ∀ b, H b = none → b ≠ x := fun b n z => by subst z; rw [n] at mu; exact mu
  have hb : ∀ b, H b = none → b ≠ e := fun b n z => by
    subst z
    rcases he with r | r
    · exact hx b n r
    · rw [n] at r; cases r
  have hm : ∀ b u, H b = some u → ¬ Mut (some u) → b ≠ x := fun b u q nm z => by subst z; rw [q] at mu; exact nm mu
  refine ⟨fun b u q n _ _ => k b u (hb b n) q, fun b u q n _ _ => ⟨u.slots, k b u (hb b n) q⟩, fun b u q n _ => by rw [upd_ne (hx b n)]; exact n, fun b u q _ => ?_,
    fun b xs q => by rw [upd_ne (hm b _ q fun z => z)]; exact q, fun b u xs q => by rw [upd_ne (hm b _ q fun z => z)]; exact q, fun b ps q => ⟨#[], by rw [upd_ne (hm b _ q fun z => z), q]; simp⟩⟩
  by_cases hbe : b = e
  · subst hbe; exact heo
  · exact ⟨u, k b u hbe q⟩
theorem Un.mono (u : Un fs ex H H1 h h1) (hs : ∀ b ∈ fs, b ∈ fs') (hx : ∀ b ∈ ex, b ∈ ex') : Un fs' ex' H H1 h h1 :=
  ⟨fun b ob q n hb he => u.keep b ob q n (fun z => hb (hs b z)) fun z => he (hx b z), fun _ _ q n _ he => u.any q n fun z => he (hx _ z), fun b ob q n he => u.free b ob q n fun z => he (hx b z), fun b ob q he => u.there b ob q fun z => he (hx b z), u.tups, u.frzs, u.tbls⟩
end
def trk (h : Heap) (H : Hp) : List Addr := (List.range h.objs.size).filter fun a => (H a).isSome
def hidT (h : Heap) (H : Hp) : Heap := PySem.W.hideAll h (trk h H)
theorem hidT_size (h : Heap) (H : Hp) : (hidT h H).objs.size = h.objs.size := PySem.W.hideAll_size _ _
theorem hidT_get {h : Heap} {H : Hp} {b : Addr} {o : Obj} (e : h.get? b = some o) (n : H b = none) : (hidT h H).get? b = some o :=
  PySem.W.hideAll_get _ e fun hm => by
    have q : (H b).isSome = true := (List.mem_filter.mp hm).2
    rw [n] at q; simp at q
theorem of_hidT {h : Heap} {H : Hp} {b : Addr} {o : Obj} (e : (hidT h H).get? b = some o) : h.get? b = some o ∧ H b = none := by
  have e' : h.get? b = some o := PySem.W.of_hideAll (trk h H) e
  refine ⟨e', ?_⟩
  cases q : H b with
  | none => rfl
  | some x =>
    have hm : b ∈ trk h H := List.mem_filter.mpr ⟨List.mem_range.mpr (Heap.lt_size e'), by simp [q]⟩
    have z : (hidT h H).get? b = none := PySem.W.hideAll_none (trk h H) hm
    rw [z] at e; cases e
def allNews (g h : Heap) (L : Addr) : List (Addr × Obj) := (List.range h.objs.size).filterMap fun a => if a = L ∨ (g.get? a).isSome = true then none else (h.get? a).map fun o => (a, o)
def rest (g h : Heap) (L d : Addr) : List (Addr × Obj) := (allNews g h L).filter fun p => decide (p.1 ≠ d)
end L2
namespace L2
open PySem PySem.Spec PyProof.Rows
structure Mod (K : PySem.W.Frag) (mg : Str → Option Value) (base : Heap) : Prop where
  kin : K.In base
  glob : base.Ns mainGlobals mg
  blt : ∃ mb, base.Ns builtinsNs mb ∧ ∀ x : Str, x ≠ "__name__" → mb x = bootBuiltins x
  nolimit : base.NoLimit
structure Cx where
  prog : Program
  w : World
  K : PySem.W.Frag
  mg : Str → Option Value
  base : Heap
  A : Around
  N : List Str
  s₀ : Shared
  H₀ : Hp
  env : Env
  outer : List Env
  stack : List Env
  ex : List Addr
  fn : Str → Bool
  calm : Bool
  pn : List (Addr × Obj)
  xe : Value → Shared → Prop
def frs (l : List Env) : List Addr := l.filterMap (·.frame)
abbrev Cx.fs (X : Cx) : List Addr := frs X.outer
def Vis (sc : Scope) (x : Str) : Prop := sc.names.lookup x = some .local ∨ sc.names.lookup x = some .cell ∨ sc.names.lookup x = some .free
def Loc (sc : Scope) (x : Str) : Prop := sc.names.lookup x = some .local ∨ sc.names.lookup x = some .cell
def Look (env : Env) (h : Heap) (m : Str → Option Value) (x : Str) (u : Value) : Prop :=
  (env.kindOf x = some .local ∧ m x = some u) ∨ ((env.kindOf x = some .cell ∨ env.kindOf x = some .free) ∧ ∃ c, env.cells.lookup x = some c ∧ h.IsCell c (some u))
structure Cx.Ok (X : Cx) : Prop where
  mod : Mod X.K X.mg X.base
  kind : X.env.scope.kind = .function
  glob : X.env.globals = mainGlobals
  blt : X.env.builtins = builtinsNs
  above : X.s₀.heap.objs.size ≤ X.env.locals
  inj : ∀ x y c, X.env.cells.lookup x = some c → X.env.cells.lookup y = some c → x = y
  has : ∀ x, (X.env.kindOf x = some .cell ∨ X.env.kindOf x = some .free) → ∃ c, X.env.cells.lookup x = some c
  cab : ∀ x c, X.fn x = true → X.env.cells.lookup x = some c → X.s₀.heap.objs.size ≤ c
  hd : X.calm = true → X.A.handled = none
  frames : X.A.frames = some X.stack
  stk : X.stack = X.outer ∨ (X.stack = X.env :: X.outer ∧ X.env.frame = some X.env.locals)
  exf : ∀ b ∈ X.ex, b ≠ X.env.locals ∧ ∀ x c, X.env.cells.lookup x = some c → c ≠ b
  bs : ∀ b o, X.base.get? b = some o → X.s₀.heap.get? b = some o ∧ X.H₀ b = none
  bsz : X.base.objs.size ≤ X.s₀.heap.objs.size
  noex : ∀ b o, X.base.get? b = some o → b ∉ X.ex
  exfs : ∀ b ∈ X.ex, b ∉ X.fs
  funs : X.s₀.heap.FunFrames X.base X.outer
  frf : ∀ b ∈ X.fs, X.H₀ b = none
structure Inv (X : Cx) (pins : List (Addr × Obj)) (σ : List (Option V)) (H : Hp) (s : Shared) : Prop where
  ok : X.Ok
  os : s.os = X.s₀.os
  bare : AllBare s.gens
  base : Un X.fs X.ex X.H₀ H X.s₀.heap s.heap
  loc : ∃ m, s.heap.Ns X.env.locals m ∧ ∀ (i : Nat) (x : Str) (v : V), X.N[i]? = some x → σ[i]? = some (some v) → Vis X.env.scope x → ∃ u, RelV v u ∧ Look X.env s.heap m x u
  cell : ∀ x c, X.env.cells.lookup x = some c → ∃ v, s.heap.IsCell c v
  free : H X.env.locals = none
  freeC : ∀ x c, X.env.cells.lookup x = some c → H c = none
  pin : ∀ p ∈ X.pn ++ pins, s.heap.get? p.1 = some p.2 ∧ H p.1 = none ∧ p.1 ≠ X.env.locals ∧ p.1 ∉ X.fs ∧ ∀ v, p.2.data ≠ .cell v
  hok : HOk X.prog X.w H s.heap
  len : σ.length = X.N.length
section
variable {X : Cx} {pins : List (Addr × Obj)} {σ : List (Option V)} {H H' : Hp} {s : Shared} {h' : Heap}
theorem Cx.Ok.nofr (ok : X.Ok) {b : Addr} {o : Obj} (e : X.base.get? b = some o) : b ∉ X.fs := fun hb => by
  have := (ok.funs.mem hb).1
  rw [e] at this; cases this
theorem Inv.bs (I : Inv X pins σ H s) : ∀ b o, X.base.get? b = some o → s.heap.get? b = some o ∧ H b = none := fun b o e =>
  ⟨I.base.keep b o (I.ok.bs b o e).1 (I.ok.bs b o e).2 (I.ok.nofr e) (I.ok.noex b o e), I.base.free b o (I.ok.bs b o e).1 (I.ok.bs b o e).2 (I.ok.noex b o e)⟩
theorem Inv.bk (I : Inv X pins σ H s) : ∀ b o, X.base.get? b = some o → s.heap.get? b = some o := fun b o e => (I.bs b o e).1
theorem Inv.mod (I : Inv X pins σ H s) : Mod X.K X.mg X.base := I.ok.mod
theorem Inv.kIn (I : Inv X pins σ H s) : X.K.In s.heap := I.ok.mod.kin.keeps I.bk
theorem Inv.nolimit (I : Inv X pins σ H s) : s.heap.NoLimit := I.ok.mod.nolimit.keeps I.bk
theorem Inv.fr (I : Inv X pins σ H s) : ∃ m, Fr X.base X.env.locals s.heap m :=
  let ⟨m, hn, _⟩ := I.loc
  ⟨m, hn, I.bk, Nat.le_trans I.ok.bsz I.ok.above⟩
theorem Inv.lt (I : Inv X pins σ H s) : X.env.locals < s.heap.objs.size := let ⟨_, hn, _⟩ := I.loc; hn.lt
theorem Inv.sz (I : Inv X pins σ H s) : X.s₀.heap.objs.size ≤ s.heap.objs.size := Nat.le_trans I.ok.above (Nat.le_of_lt I.lt)
theorem Inv.nofs (I : Inv X pins σ H s) {a : Addr} (h : s.heap.objs.size ≤ a) : a ∉ X.fs := fun hb => by
  obtain ⟨_, o, ho, _⟩ := I.ok.funs.mem hb
  exact absurd (Nat.lt_of_lt_of_le (Heap.lt_size ho) (Nat.le_trans I.sz h)) (Nat.lt_irrefl _)
theorem Inv.cne (I : Inv X pins σ H s) : ∀ x c, X.env.cells.lookup x = some c → c ≠ X.env.locals := fun x c e z => by
  obtain ⟨v, o, ho, hd⟩ := I.cell x c e
  obtain ⟨m, ⟨o', es, ep, ho', hd', _⟩, _⟩ := I.loc
  rw [z, ho'] at ho; cases ho; rw [hd'] at hd; cases hd
theorem Inv.funs (I : Inv X pins σ H s) : s.heap.FunFrames X.base X.outer := by
  have all : ∀ (l : List Env), (∀ b ∈ frs l, b ∈ X.fs) → X.s₀.heap.FunFrames X.base l → s.heap.FunFrames X.base l := by
    intro l
    induction l with
    | nil => intro _ _; trivial
    | cons env r ih =>
      intro hs hl
      obtain ⟨hk, ⟨L, o, hf, hn, ho, hd⟩, hr⟩ := hl
      have hL : L ∈ X.fs := hs L (by unfold frs; rw [List.filterMap_cons, hf]; exact List.mem_cons_self)
      obtain ⟨sl, e⟩ := I.base.slot L o ho (I.ok.frf L hL) hL fun z => I.ok.exfs L z hL
      exact ⟨hk, ⟨L, _, hf, hn, e, hd⟩, ih (fun b hb => hs b (by unfold frs; rw [List.filterMap_cons, hf]; exact List.mem_cons_of_mem _ hb)) hr⟩
  exact all X.outer (fun _ hb => hb) I.ok.funs
theorem Inv.stack (I : Inv X pins σ H s) : s.heap.FunFrames X.base X.stack := by
  rcases I.ok.stk with e | ⟨e, hf⟩
  · rw [e]; exact I.funs
  · rw [e]
    obtain ⟨m, hn, _⟩ := I.loc
    refine .cons (by rw [I.ok.kind]; decide) hf hn ?_ I.funs
    exact Heap.get?_none_of_le (Nat.le_trans I.ok.bsz I.ok.above)
theorem Inv.stkSub (I : Inv X pins σ H s) : ∀ b ∈ frs X.stack, b ∈ X.env.locals :: X.fs := fun b hb => by
  rcases I.ok.stk with e | ⟨e, hf⟩
  · rw [e] at hb; exact List.mem_cons_of_mem _ hb
  · rw [e] at hb
    unfold frs at hb
    rw [List.filterMap_cons, hf] at hb
    exact hb
theorem Inv.stkFree (I : Inv X pins σ H s) : ∀ b ∈ frs X.stack, H b = none := fun b hb => by
  rcases List.mem_cons.mp (I.stkSub b hb) with e | hb
  · rw [e]; exact I.free
  · obtain ⟨_, o, ho, _⟩ := I.ok.funs.mem hb
    exact I.base.free b o ho (I.ok.frf b hb) fun z => I.ok.exfs b z hb
theorem Inv.step {g' : Array GenState} {t' : Nat} {d' : Drawn} {ch : List Addr} (I : Inv X pins σ H s)
    (hch : ∀ b ∈ ch, (b ∈ X.ex ∨ X.s₀.heap.objs.size ≤ b) ∧ b ≠ X.env.locals ∧ (∀ x c, X.env.cells.lookup x = some c → c ≠ b) ∧ ∀ p ∈ X.pn ++ pins, p.1 ≠ b)
    (keep : ∀ b o, b ≠ X.env.locals → b ∉ X.fs → b ∉ ch → s.heap.get? b = some o → H b = none → h'.get? b = some o)
    (slot : ∀ b o, b ≠ X.env.locals → b ∈ X.fs → b ∉ ch → s.heap.get? b = some o → H b = none → ∃ sl, h'.get? b = some { o with slots := sl }) (free : ∀ b o, b ∉ ch → s.heap.get? b = some o → H b = none → H' b = none)
    (there : ∀ b o, b ∉ ch → s.heap.get? b = some o → ∃ o', h'.get? b = some o')
    (tups : ∀ b xs, H b = some (.tup xs) → H' b = some (.tup xs)) (frzs : ∀ b o u, H b = some (.frz o u) → H' b = some (.frz o u)) (tbls : ∀ b ps, H b = some (.tbl ps) → ∃ more, H' b = some (.tbl (ps ++ more)))
    (ns : ∀ m, s.heap.Ns X.env.locals m → h'.Ns X.env.locals m) (hok : HOk X.prog X.w H' h') (hg : AllBare g') :
    Inv X pins σ H' { s with heap := h', gens := g', drawn := d', toks := t' } := by
  have neL : ∀ b o, X.s₀.heap.get? b = some o → b ≠ X.env.locals := fun b o e => Nat.ne_of_lt (Nat.lt_of_lt_of_le (Heap.lt_size e) I.ok.above)
  have neC : ∀ b o, X.s₀.heap.get? b = some o → b ∉ X.ex → b ∉ ch := fun b o e hx hb => by
    rcases (hch b hb).1 with z | z
    · exact hx z
    · exact absurd (Nat.lt_of_lt_of_le (Heap.lt_size e) z) (Nat.lt_irrefl _)
  have cellK : ∀ x c, X.env.cells.lookup x = some c → ∀ v, s.heap.IsCell c v → h'.IsCell c v := fun x c e v ⟨o, ho, hd⟩ => by
    have nch : c ∉ ch := fun z => (hch c z).2.2.1 x c e rfl
    by_cases hc : c ∈ X.fs
    · obtain ⟨sl, q⟩ := slot c o (I.cne x c e) hc nch ho (I.freeC x c e)
      exact ⟨_, q, hd⟩
    · exact ⟨o, keep c o (I.cne x c e) hc nch ho (I.freeC x c e), hd⟩
  refine ⟨I.ok, I.os, hg, ⟨fun b o e n hb hx => ?_, fun b o e n hb hx => ?_, fun b o e n hx => ?_, fun b o e hx => ?_, fun b xs e => tups b xs (I.base.tups b xs e), fun b o xs e => frzs b o xs (I.base.frzs b o xs e), fun b ps e => ?_⟩, ?_, fun x c e => ?_, ?_, fun x c e => ?_, fun p hp => ?_, hok, I.len⟩
  · exact keep b o (neL b o e) hb (neC b o e hx) (I.base.keep b o e n hb hx) (I.base.free b o e n hx)
  · obtain ⟨sl, e1⟩ := I.base.slot b o e n hb hx
    obtain ⟨sl', e2⟩ := slot b _ (neL b o e) hb (neC b o e hx) e1 (I.base.free b o e n hx)
    exact ⟨sl', e2⟩
  · obtain ⟨o', e1⟩ := I.base.there b o e hx
    exact free b o' (neC b o e hx) e1 (I.base.free b o e n hx)
  · obtain ⟨o', e1⟩ := I.base.there b o e hx
    exact there b o' (neC b o e hx) e1
  · obtain ⟨m1, e1⟩ := I.base.tbls b ps e
    obtain ⟨m2, e2⟩ := tbls b _ e1
    exact ⟨m1 ++ m2, by rw [e2, Array.append_assoc]⟩
  · obtain ⟨m, hn, hl⟩ := I.loc
    refine ⟨m, ns m hn, fun i x v e1 e2 e3 => ?_⟩
    obtain ⟨u, r, l⟩ := hl i x v e1 e2 e3
    refine ⟨u, r, ?_⟩
    rcases l with l | ⟨k, c, e, z⟩
    · exact .inl l
    · exact .inr ⟨k, c, e, cellK x c e _ z⟩
  · obtain ⟨v, z⟩ := I.cell x c e
    exact ⟨v, cellK x c e v z⟩
  · obtain ⟨m, ⟨o, _, _, ho, _⟩, _⟩ := I.loc
    exact free _ o (fun z => (hch _ z).2.1 rfl) ho I.free
  · obtain ⟨v, o, ho, hd⟩ := I.cell x c e
    exact free c o (fun z => (hch c z).2.2.1 x c e rfl) ho (I.freeC x c e)
  · obtain ⟨e, n, ne, nf, d⟩ := I.pin p hp
    have nch : p.1 ∉ ch := fun z => (hch p.1 z).2.2.2 p hp rfl
    exact ⟨keep p.1 p.2 ne nf nch e n, free p.1 p.2 nch e n, ne, nf, d⟩
theorem Inv.un {t' : Nat} (I : Inv X pins σ H s) (u : Un X.fs [] H H' s.heap h') (hok : HOk X.prog X.w H' h') : Inv X pins σ H' { s with heap := h', toks := t' } := by
  obtain ⟨m, ⟨o, es, ep, ho, r⟩, _⟩ := id I.loc
  obtain ⟨sl, hL⟩ := u.any ho I.free (by simp)
  exact I.step (g' := s.gens) (d' := s.drawn) (ch := []) (fun _ z => nomatch z) (fun b o _ hb _ e n => u.keep b o e n hb (by simp)) (fun b o _ hb _ e n => u.slot b o e n hb (by simp)) (fun b o _ e n => u.free b o e n (by simp)) (fun b o _ e => u.there b o e (by simp)) u.tups u.frzs u.tbls (fun m' hm => by
    obtain ⟨o', es', ep', ho', r'⟩ := hm
    rw [ho] at ho'; cases ho'
    exact ⟨_, es', ep', hL, r'⟩) hok I.bare
theorem Inv.call {g' : Array GenState} {t' : Nat} {d' : Drawn} {ch : List Addr} (I : Inv X pins σ H s) (u : Un (frs X.stack) ch H H' s.heap h') (hok : HOk X.prog X.w H' h') (hg : AllBare g')
    (hch : ∀ b ∈ ch, (b ∈ X.ex ∨ X.s₀.heap.objs.size ≤ b) ∧ b ≠ X.env.locals ∧ (∀ x c, X.env.cells.lookup x = some c → c ≠ b) ∧ ∀ p ∈ X.pn ++ pins, p.1 ≠ b) :
    Inv X pins σ H' { s with heap := h', gens := g', drawn := d', toks := t' } := by
  obtain ⟨m, ⟨o, es, ep, ho, r⟩, _⟩ := id I.loc
  obtain ⟨sl, hL⟩ := u.any ho I.free fun z => (hch _ z).2.1 rfl
  exact I.step (ch := ch) hch (fun b o hL hb hc e n => u.keep b o e n (fun z => (List.mem_cons.mp (I.stkSub b z)).elim hL hb) hc) (fun b o _ _ hc e n => u.any e n hc) (fun b o hc e n => u.free b o e n hc) (fun b o hc e => u.there b o e hc) u.tups u.frzs u.tbls (fun m' hm => by
    obtain ⟨o', es', ep', ho', r'⟩ := hm
    rw [ho] at ho'; cases ho'
    exact ⟨_, es', ep', hL, r'⟩) hok hg
theorem Inv.turned {t' : Nat} {it : Addr} (I : Inv X pins σ H s) (k : ∀ b o, b ≠ it → s.heap.get? b = some o → h'.get? b = some o) (hn : H it = none) (hL : it ≠ X.env.locals)
    (h1 : it ∈ X.ex ∨ X.s₀.heap.objs.size ≤ it) (h2 : ∀ x c, X.env.cells.lookup x = some c → c ≠ it) (h3 : ∀ p ∈ X.pn ++ pins, p.1 ≠ it) : Inv X pins σ H { s with heap := h', toks := t' } := by
  have nit : ∀ b u, H b = some u → b ≠ it := fun b u e z => by rw [z, hn] at e; cases e
  refine I.step (g' := s.gens) (d' := s.drawn) (ch := [it]) (fun b hb => ?_) (fun b o _ _ hc e _ => k b o (fun z => hc (by simp [z])) e) (fun b o _ _ hc e _ => ⟨o.slots, k b o (fun z => hc (by simp [z])) e⟩) (fun _ _ _ _ n => n)
    (fun b o hc e => ⟨o, k b o (fun z => hc (by simp [z])) e⟩) (fun _ _ e => e) (fun _ _ _ e => e) (fun b ps e => ⟨#[], by rw [e]; simp⟩) (fun m hm => ?_) (fun b u e => ?_) I.bare
  · have e : b = it := by simpa using hb
    subst e
    exact ⟨h1, hL, h2, h3⟩
  · obtain ⟨o, es, ep, ho, r⟩ := hm
    exact ⟨o, es, ep, k _ o (Ne.symm hL) ho, r⟩
  · refine (I.hok b u e).stay (fun c v hc q => k c v ?_ q) (fun _ q => q) fun _ _ q => q
    rcases hc with z | z
    · rw [z]; exact nit b u e
    · exact nit c _ z
theorem Inv.tok (I : Inv X pins σ H s) (t : Nat) : Inv X pins σ H { s with toks := t } := I.un (h' := s.heap) (t' := t) Un.refl I.hok
theorem Inv.kept {t' : Nat} (I : Inv X pins σ H s) (k : ∀ b u, s.heap.get? b = some u → h'.get? b = some u) : Inv X pins σ H { s with heap := h', toks := t' } := I.un (Un.kept k) (I.hok.kept k)
theorem Inv.laid {a : Addr} {o : HO} {t' : Nat} (I : Inv X pins σ H s) (k : ∀ b u, s.heap.get? b = some u → h'.get? b = some u) (hp : s.heap.objs.size ≤ a) (new : ObjOk X.prog X.w (upd H a o) h' a o) :
    Inv X pins σ (upd H a o) { s with heap := h', toks := t' } := I.un (Un.laid k hp (I.hok.fresh hp)) (I.hok.laid k hp new)
theorem Inv.write {x e : Addr} {o : HO} {t' : Nat} (I : Inv X pins σ H s) (mu : Mut (H x)) (he : e = x ∨ H e = some (.own x)) (k : ∀ b u, b ≠ e → s.heap.get? b = some u → h'.get? b = some u) (heo : ∃ u, h'.get? e = some u)
    (new : ObjOk X.prog X.w (upd H x o) h' x o) : Inv X pins σ (upd H x o) { s with heap := h', toks := t' } := I.un (Un.write mu he k heo) (I.hok.write mu he k heo new)
theorem Inv.pins_of {pins' : List (Addr × Obj)} (I : Inv X pins σ H s) (h : ∀ p ∈ pins', s.heap.get? p.1 = some p.2 ∧ H p.1 = none ∧ p.1 ≠ X.env.locals ∧ p.1 ∉ X.fs ∧ ∀ v, p.2.data ≠ .cell v) : Inv X pins' σ H s :=
  ⟨I.ok, I.os, I.bare, I.base, I.loc, I.cell, I.free, I.freeC, fun p hp => (List.mem_append.mp hp).elim (fun z => I.pin p (List.mem_append_left _ z)) (h p), I.hok, I.len⟩
theorem nodup_ix {N : List Str} (hN : N.Nodup) {i j : Nat} {x : Str} (a : N[i]? = some x) (b : N[j]? = some x) : i = j := by
  obtain ⟨h1, e1⟩ := List.getElem?_eq_some_iff.mp a
  obtain ⟨h2, e2⟩ := List.getElem?_eq_some_iff.mp b
  exact (List.getElem_inj hN).mp (e1.trans e2.symm)
theorem store_ok2 {M : Model} {A : Around} {E : Value → Shared → Prop} {i : Nat} {x : Str} {v : V} {u : Value} {Q : Unit → Shared → Prop} (I : Inv X pins σ H s) (hN : X.N.Nodup) (hi : X.N[i]? = some x) (hx : Loc X.env.scope x) (r : RelV v u)
    (h : ∀ s', Inv X pins (σ.set i (some v)) H s' → (∃ a, Heap.SameBut a s.heap s'.heap ∧ (a = X.env.locals ∨ X.env.cells.lookup x = some a)) → Q () s') (hf : X.fn x = true ∨ X.env.scope.names.lookup x = some .local := by first | exact .inl rfl | exact .inr rfl | assumption) : wpAny M A (storeName X.env x u) Q E s := by
  obtain ⟨m, hn, hl⟩ := id I.loc
  have hcls : (X.env.scope.kind == .class || (X.env.scope.kind == .module && X.env.locals != X.env.globals)) = false := by rw [I.ok.kind]; rfl
  have hiσ : i < σ.length := by rw [I.len]; exact (List.getElem?_eq_some_iff.mp hi).1
  have cne := I.cne
  have tracked : ∀ {a : Addr} {h' : Heap}, (∃ o, s.heap.get? a = some o ∧ H a = none) → Heap.SameBut a s.heap h' → HOk X.prog X.w H h' := fun {a h'} ha hs b ob e => by
    obtain ⟨_, _, hfree⟩ := ha
    refine (I.hok b ob e).stay (fun c w' hc q => (hs.2 c ?_).trans q) (fun _ q => q) fun _ _ q => q
    rintro rfl
    rcases hc with rfl | hc
    · rw [hfree] at e; cases e
    · rw [hfree] at hc; cases hc
  rcases hx with hk | hk
  · refine wpAny_storeName_local hk hn (fun h' hn' hs => ?_) hcls
    obtain ⟨oL, _, _, hoL, _⟩ := id hn
    refine h _ ⟨I.ok, I.os, I.bare, ⟨fun b o e n hb hx => ?_, fun b o e n hb hx => ?_, I.base.free, fun b o e hx => ?_, I.base.tups, I.base.frzs, I.base.tbls⟩, ⟨_, hn', fun j y v' e1 e2 e3 => ?_⟩, fun y c e => ?_, I.free, I.freeC, fun p hp => ?_, tracked ⟨oL, hoL, I.free⟩ hs, by simpa using I.len⟩ ⟨_, hs, .inl rfl⟩
    · exact (hs.2 b (Nat.ne_of_lt (Nat.lt_of_lt_of_le (Heap.lt_size e) I.ok.above))).trans (I.base.keep b o e n hb hx)
    · obtain ⟨sl, e1⟩ := I.base.slot b o e n hb hx
      exact ⟨sl, (hs.2 b (Nat.ne_of_lt (Nat.lt_of_lt_of_le (Heap.lt_size e) I.ok.above))).trans e1⟩
    · obtain ⟨o', e1⟩ := I.base.there b o e hx
      exact ⟨o', (hs.2 b (Nat.ne_of_lt (Nat.lt_of_lt_of_le (Heap.lt_size e) I.ok.above))).trans e1⟩
    · by_cases hj : j = i
      · subst hj
        rw [hi] at e1; cases e1
        rw [List.getElem?_set_self hiσ] at e2
        cases e2
        exact ⟨u, r, .inl ⟨hk, by simp⟩⟩
      · rw [List.getElem?_set_ne (Ne.symm hj)] at e2
        obtain ⟨u', r', q⟩ := hl j y v' e1 e2 e3
        refine ⟨u', r', ?_⟩
        rcases q with ⟨k, e⟩ | ⟨k, c, e, z⟩
        · refine .inl ⟨k, ?_⟩
          have : y ≠ x := fun e => hj (nodup_ix hN e1 (e ▸ hi))
          simp [this, e]
        · exact .inr ⟨k, c, e, z.sameBut hs (cne y c e)⟩
    · obtain ⟨w', z⟩ := I.cell y c e
      exact ⟨w', z.sameBut hs (cne y c e)⟩
    · obtain ⟨e, n, ne, nf, d⟩ := I.pin p hp
      exact ⟨(hs.2 p.1 ne).trans e, n, ne, nf, d⟩
  · have hfn : X.fn x = true := by
      rcases hf with z | z
      · exact z
      · rw [z] at hk; cases hk
    obtain ⟨c, hc⟩ := I.ok.has x (.inl hk)
    obtain ⟨w', z⟩ := I.cell x c hc
    refine wpAny_storeName_cell I.ok.kind hk hc z (fun h' hc' hs => ?_)
    obtain ⟨oc, hoc, hocd⟩ := id z
    refine h { s with heap := h' } ⟨I.ok, I.os, I.bare, ⟨fun b o e n hb hx => ?_, fun b o e n hb hx => ?_, I.base.free, fun b o e hx => ?_, I.base.tups, I.base.frzs, I.base.tbls⟩, ⟨m, hn.sameBut hs (Ne.symm (cne x c hc)), fun j y v' e1 e2 e3 => ?_⟩, fun y c' e => ?_, I.free, I.freeC, fun p hp => ?_, tracked ⟨oc, hoc, I.freeC x c hc⟩ hs, by simpa using I.len⟩ ⟨c, hs, .inr hc⟩
    · exact (hs.2 b (Nat.ne_of_lt (Nat.lt_of_lt_of_le (Heap.lt_size e) (I.ok.cab x c hfn hc)))).trans (I.base.keep b o e n hb hx)
    · obtain ⟨sl, e1⟩ := I.base.slot b o e n hb hx
      exact ⟨sl, (hs.2 b (Nat.ne_of_lt (Nat.lt_of_lt_of_le (Heap.lt_size e) (I.ok.cab x c hfn hc)))).trans e1⟩
    · obtain ⟨o', e1⟩ := I.base.there b o e hx
      exact ⟨o', (hs.2 b (Nat.ne_of_lt (Nat.lt_of_lt_of_le (Heap.lt_size e) (I.ok.cab x c hfn hc)))).trans e1⟩
    · by_cases hj : j = i
      · subst hj
        rw [hi] at e1; cases e1
        rw [List.getElem?_set_self hiσ] at e2
        cases e2
        exact ⟨u, r, .inr ⟨.inl hk, c, hc, hc'⟩⟩
      · rw [List.getElem?_set_ne (Ne.symm hj)] at e2
        obtain ⟨u', r', q⟩ := hl j y v' e1 e2 e3
        refine ⟨u', r', ?_⟩
        rcases q with q | ⟨k, c', e, z'⟩
        · exact .inl q
        · refine .inr ⟨k, c', e, z'.sameBut hs ?_⟩
          rintro rfl
          exact hj (nodup_ix hN e1 (I.ok.inj _ _ _ e hc ▸ hi))
    · by_cases hcc : c' = c
      · subst hcc; exact ⟨_, hc'⟩
      · obtain ⟨w2, z2⟩ := I.cell y c' e
        exact ⟨w2, z2.sameBut hs hcc⟩
    · obtain ⟨e, n, ne, nf, d⟩ := I.pin p hp
      refine ⟨(hs.2 p.1 ?_).trans e, n, ne, nf, d⟩
      intro q
      rw [q, hoc] at e
      have q' : oc = p.2 := Option.some.inj e
      exact d w' (by rw [← q']; exact hocd)
theorem store_ok {M : Model} {A : Around} {E : Value → Shared → Prop} {i : Nat} {x : Str} {v : V} {u : Value} {Q : Unit → Shared → Prop} (I : Inv X pins σ H s) (hN : X.N.Nodup) (hi : X.N[i]? = some x) (hx : Loc X.env.scope x) (r : RelV v u)
    (h : ∀ s', Inv X pins (σ.set i (some v)) H s' → Q () s') (hf : X.fn x = true ∨ X.env.scope.names.lookup x = some .local := by first | exact .inl rfl | exact .inr rfl | assumption) : wpAny M A (storeName X.env x u) Q E s :=
  store_ok2 I hN hi hx r (fun s' I' _ => h s' I') hf
theorem Inv.call' {s' : Shared} {ch : List Addr} (I : Inv X pins σ H s) (ho : s'.os = s.os) (u : Un (frs X.stack) ch H H' s.heap s'.heap) (hok : HOk X.prog X.w H' s'.heap) (hg : AllBare s'.gens)
    (hch : ∀ b ∈ ch, (b ∈ X.ex ∨ X.s₀.heap.objs.size ≤ b) ∧ b ≠ X.env.locals ∧ (∀ x c, X.env.cells.lookup x = some c → c ≠ b) ∧ ∀ p ∈ X.pn ++ pins, p.1 ≠ b) : Inv X pins σ H' s' := by
  obtain ⟨h', g', d', t', o'⟩ := s'
  have e : o' = s.os := ho
  subst e
  exact I.call (g' := g') (t' := t') (d' := d') u hok hg hch
end
abbrev XK := Value → Option Addr → Hp → Prop
abbrev St := List (Option V)
abbrev VK := V → Hp → Prop
abbrev TE := St → Hp → VK → Prop
abbrev TT := St → Hp → (Bool → Hp → Prop) → Prop
abbrev TA := St → Hp → (List V → Hp → Prop) → Prop
structure Ends where
  nx : St → Hp → Prop
  rt : VK
  bk : St → Hp → Prop := fun _ _ => False
  ct : St → Hp → Prop := fun _ _ => False
abbrev TS := Ends → St → Hp → Prop
def EP (X : Cx) (pins : List (Addr × Obj)) (σ : St) (Q : VK) (u : Value) (s' : Shared) : Prop := ∃ v H', Inv X pins σ H' s' ∧ RelV v u ∧ Q v H'
def TP (X : Cx) (pins : List (Addr × Obj)) (σ : St) (Q : Bool → Hp → Prop) (b : Bool) (s' : Shared) : Prop := ∃ H', Inv X pins σ H' s' ∧ Q b H'
def AP (X : Cx) (pins : List (Addr × Obj)) (σ : St) (Q : List V → Hp → Prop) (us : List Value) (s' : Shared) : Prop := ∃ vs H', Inv X pins σ H' s' ∧ Vals vs us ∧ Q vs H'
def SP (X : Cx) (pins : List (Addr × Obj)) (D : Ends) (f : Flow) (s' : Shared) : Prop :=
  match f with
  | .next => ∃ σ' H', Inv X pins σ' H' s' ∧ D.nx σ' H'
  | .brk => ∃ σ' H', Inv X pins σ' H' s' ∧ D.bk σ' H'
  | .cont => ∃ σ' H', Inv X pins σ' H' s' ∧ D.ct σ' H'
  | .ret u => ∃ v σ' H', Inv X pins σ' H' s' ∧ RelV v u ∧ D.rt v H'
def PE (X : Cx) (e : Expr) (t : TE) : Prop :=
  ∀ (pins : List (Addr × Obj)) (s : Shared) (σ : St) (H : Hp) (Q : VK), Inv X pins σ H s → t σ H Q → wpAny (model X.prog X.w) X.A (eval e X.env) (EP X pins σ Q) X.xe s
def PT (X : Cx) (e : Expr) (t : TT) : Prop :=
  ∀ (pins : List (Addr × Obj)) (s : Shared) (σ : St) (H : Hp) (Q : Bool → Hp → Prop), Inv X pins σ H s → t σ H Q → wpAny (model X.prog X.w) X.A (isTrue e X.env (eval e X.env)) (TP X pins σ Q) X.xe s
def PW (X : Cx) (e : Expr) (t : TT) : Prop :=
  ∀ (whole : Sem Value) (pins : List (Addr × Obj)) (s : Shared) (σ : St) (H : Hp) (Q : Bool → Hp → Prop), Inv X pins σ H s → t σ H Q → wpAny (model X.prog X.w) X.A (isTrue e X.env whole) (TP X pins σ Q) X.xe s
theorem PW.pt {X : Cx} {e : Expr} {t : TT} (h : PW X e t) : PT X e t := h _
def PA (X : Cx) (es : List Expr) (t : TA) : Prop :=
  ∀ (pos : Pos) (pins : List (Addr × Obj)) (s : Shared) (σ : St) (H : Hp) (Q : List V → Hp → Prop), Inv X pins σ H s → t σ H Q → wpAny (model X.prog X.w) X.A (spliced (backTo pos (starEach es X.env))) (AP X pins σ Q) X.xe s
def PS (X : Cx) (st : Stmt) (t : TS) : Prop :=
  ∀ (pins : List (Addr × Obj)) (s : Shared) (σ : St) (H : Hp) (D : Ends), Inv X pins σ H s → t D σ H → wpAny (model X.prog X.w) X.A (exec st X.env) (SP X pins D) X.xe s
def PSs (X : Cx) (st : List Stmt) (t : TS) : Prop :=
  ∀ (pins : List (Addr × Obj)) (s : Shared) (σ : St) (H : Hp) (D : Ends), Inv X pins σ H s → t D σ H → wpAny (model X.prog X.w) X.A (execs st X.env) (SP X pins D) X.xe s
theorem thn {α : Type} {t : Sem α} {Q Q' : α → Shared → Prop} {M : Model} {A : Around} {E : Value → Shared → Prop} {s : Shared} (h : wpAny M A t Q E s) (hQ : ∀ a s, Q a s → Q' a s) : wpAny M A t Q' E s := wpAny_mono h hQ fun _ _ x => x
end L2
namespace L2
open PySem PySem.Spec PyProof.Rows
section
variable {X : Cx}
def tVar (i : Nat) : TE := fun σ H Q => ∃ v, σ[i]? = some (some v) ∧ Q v H
def tC (v : V) : TE := fun _ H Q => Q v H
theorem pe_var {i : Nat} {x : Str} {pos : Pos} (hN : X.N[i]? = some x) (hv : Vis X.env.scope x) (hd : (x == ("__debug__" : Str)) = false := by decide) (hcd : (x == ("__classdict__" : Str)) = false := by decide) : PE X (.Name x pos) (tVar i) := by
  intro pins s σ H Q I h
  obtain ⟨v, e, h⟩ := h
  obtain ⟨m, hn, hl⟩ := I.loc
  obtain ⟨u, r, l⟩ := hl i x v hN e hv
  have fin : EP X pins σ Q u s := ⟨v, H, I, r, h⟩
  rcases l with ⟨hk, hm⟩ | ⟨hk, c, hc, hcell⟩
  · exact wpAny_Name (wpAny_loadName_local I.ok.kind hk hn hm fin) hd
  · rcases hk with hk | hk
    · exact wpAny_Name (wpAny_loadName_cell I.ok.kind hk hc hcell fin) hd
    · exact wpAny_Name (wpAny_loadName_free I.ok.kind hk hc hcell fin hcd) hd
theorem pe_int {i j pos} : PE X (.Constant (.int i) j pos) (tC (.int i)) := fun _ _ _ H _ I h => wpAny_Constant_int ⟨.int i, H, I.tok _, ⟨_, rfl⟩, h⟩
theorem pe_bl {b j pos} : PE X (.Constant (.bool b) j pos) (tC (.bl b)) := fun _ _ _ H _ I h => Constant_bool ⟨.bl b, H, I, rfl, h⟩
def Gl (X : Cx) (x : Str) : Prop := X.env.kindOf x = some .globalImplicit
theorem ld_glob {E : Value → Shared → Prop} {pins : List (Addr × Obj)} {s : Shared} {σ : St} {H : Hp} {x : Str} {u : Value} {pos : Pos} {Q : Value → Shared → Prop} (I : Inv X pins σ H s) (hg : Gl X x) (hm : X.mg x = some u) (h : Q u s)
    (hd : (x == ("__debug__" : Str)) = false := by decide) : wpAny (model X.prog X.w) X.A (eval (.Name x pos) X.env) Q E s :=
  Calls.Name_function_global I.ok.kind hg (Calls.loadGlobal_global (by rw [I.ok.glob]; exact I.mod.glob.keeps I.bk) hm h) hd
theorem ld_blt {E : Value → Shared → Prop} {pins : List (Addr × Obj)} {s : Shared} {σ : St} {H : Hp} {x : Str} {u : Value} {pos : Pos} {Q : Value → Shared → Prop} (I : Inv X pins σ H s) (hg : Gl X x) (hm : X.mg x = none) (hv : bootBuiltins x = some u) (h : Q u s)
    (hn : x ≠ "__name__" := by decide) (hd : (x == ("__debug__" : Str)) = false := by decide) : wpAny (model X.prog X.w) X.A (eval (.Name x pos) X.env) Q E s := by
  obtain ⟨mb, h1, h2⟩ := I.mod.blt
  exact Calls.Name_function_global I.ok.kind hg (Calls.loadGlobal_builtin (by rw [I.ok.glob]; exact I.mod.glob.keeps I.bk) hm (by rw [I.ok.blt]; exact h1.keeps I.bk) ((h2 x hn).trans hv) h) hd
theorem pe_bltn {x : Str} {v : V} {u : Value} {pos : Pos} (hg : Gl X x) (hm : X.mg x = none) (hv : bootBuiltins x = some u) (r : RelV v u) (hn : x ≠ "__name__" := by decide) (hd : (x == ("__debug__" : Str)) = false := by decide) : PE X (.Name x pos) (tC v) :=
  fun _ _ _ H _ I h => ld_blt I hg hm hv ⟨v, H, I, r, h⟩ hn hd
variable {a b : Expr} {ta tb : TE} {pos : Pos}
def tB (t : TE) : TT := fun σ H Q => t σ H fun x H1 => ∃ c, x = .bl c ∧ Q c H1
theorem pt_val {e : Expr} {t : TE} (h : PE X e t) (he : ∀ whole, isTrue e X.env whole = (do let v ← whole; standAt e.pos; holding [v] (truthy v)) := by intro _; rfl) : PT X e (tB t) := by
  intro pins s σ H Q I hw
  refine isTrue_plain (thn (h pins s σ H _ I hw) fun v s1 ⟨x, H1, I1, r1, q1⟩ => ?_) (he _)
  obtain ⟨d, rfl, q⟩ := q1
  cases r1
  exact wpAny_truthy_bool ⟨H1, I1, q⟩
variable {tA tB' : TT} {rest : List Expr}
def tAnd (t u : TT) : TT := fun σ H Q => t σ H fun c H1 => if c = true then u σ H1 Q else Q false H1
def tOr (t u : TT) : TT := fun σ H Q => t σ H fun c H1 => if c = true then Q true H1 else u σ H1 Q
def tNot (t : TT) : TT := fun σ H Q => t σ H fun c H1 => Q (!c) H1
theorem pw_and1 (ha : PT X a tA) : PW X (.BoolOp .And [a] pos) tA := by
  intro wh pins s σ H Q I h
  refine isTrue_and (thn (ha pins s σ H Q I h) fun c s1 e => ?_)
  cases c with
  | true => exact isTrue_and_nil e
  | false => exact e
theorem pw_or1 (ha : PT X a tA) : PW X (.BoolOp .Or [a] pos) tA := by
  intro wh pins s σ H Q I h
  refine isTrue_or (thn (ha pins s σ H Q I h) fun c s1 e => ?_)
  cases c with
  | false => exact isTrue_or_nil e
  | true => exact e
theorem pw_and (ha : PT X a tA) (hb : PW X (.BoolOp .And (b :: rest) pos) tB') : PW X (.BoolOp .And (a :: b :: rest) pos) (tAnd tA tB') := by
  intro wh pins s σ H Q I h
  refine isTrue_and (thn (ha pins s σ H _ I h) fun c s1 ⟨H1, I1, q1⟩ => ?_)
  cases c with
  | true => exact hb wh pins s1 σ H1 Q I1 q1
  | false => exact ⟨H1, I1, q1⟩
theorem pw_or (ha : PT X a tA) (hb : PW X (.BoolOp .Or (b :: rest) pos) tB') : PW X (.BoolOp .Or (a :: b :: rest) pos) (tOr tA tB') := by
  intro wh pins s σ H Q I h
  refine isTrue_or (thn (ha pins s σ H _ I h) fun c s1 ⟨H1, I1, q1⟩ => ?_)
  cases c with
  | true => exact ⟨H1, I1, q1⟩
  | false => exact hb wh pins s1 σ H1 Q I1 q1
theorem pt_not (ha : PT X a tA) : PT X (.UnaryOp .Not a pos) (tNot tA) := by
  intro pins s σ H Q I h
  exact isTrue_not (ha pins s σ H (fun c H1 => Q (!c) H1) I h)
def tAndV (ta tb : TE) : TE := fun σ H Q => ta σ H fun x H1 => ∃ c, x = .bl c ∧ if c = true then tb σ H1 Q else Q (.bl false) H1
def tNotV (ta : TE) : TE := fun σ H Q => ta σ H fun x H1 => ∃ c, x = .bl c ∧ Q (.bl (!c)) H1
theorem pe_one {op} {t : TE} (h : PE X a t) : PE X (.BoolOp op [a] pos) t := fun pins s σ H Q I hw => BoolOp_one (h pins s σ H Q I hw)
theorem pe_and (ha : PE X a ta) (hb : PE X (.BoolOp .And (b :: rest) pos) tb) : PE X (.BoolOp .And (a :: b :: rest) pos) (tAndV ta tb) := by
  intro pins s σ H Q I h
  refine BoolOp_and (thn (ha pins s σ H _ I h) fun v s1 ⟨x, H1, I1, r1, q1⟩ => ?_)
  obtain ⟨c, rfl, q1⟩ := q1
  cases r1
  refine wpAny_truthy_bool ?_
  cases c with
  | true => exact hb pins s1 σ H1 Q I1 q1
  | false => exact ⟨.bl false, H1, I1, rfl, q1⟩
theorem pe_not (ha : PE X a ta) : PE X (.UnaryOp .Not a pos) (tNotV ta) := by
  intro pins s σ H Q I h
  refine UnaryOp_ (thn (ha pins s σ H _ I h) fun v s1 ⟨x, H1, I1, r1, q1⟩ => ?_)
  obtain ⟨c, rfl, q1⟩ := q1
  cases r1
  exact not_of (wpAny_truthy_bool ⟨.bl (!c), H1, I1, rfl, q1⟩)
end
end L2
namespace L2
open PySem PySem.Spec PyProof.Rows
def SqL (K : PySem.W.Frag) (H : Hp) (a : Addr) (xs : List V) : Prop :=
  Rd H a (.lst xs) ∨
    ∃ (o : Obj) (its : Array Value) (n : Nat), K.lookup a = some o ∧ o.cls = .type "list" ∧ o.dict = none ∧ o.data = .seq its n ∧ its.size ≤ sizeLine ∧ Vals xs its.toList
def SqT (K : PySem.W.Frag) (H : Hp) (a : Addr) (xs : List V) : Prop :=
  Rd H a (.tup xs) ∨
    ∃ (o : Obj) (its : Array Value) (n : Nat), K.lookup a = some o ∧ o.cls = .type "tuple" ∧ o.data = .seq its n ∧ its.size ≤ sizeLine ∧ Vals xs its.toList
def absV : Value → Option V
  | .none => some .non
  | .bool b => some (.bl b)
  | .int i _ => some (.int i)
  | .str x _ => some (.str x)
  | .bytes b _ => some (.byt b)
  | .float b _ => some (.flt b)
  | .ref a => some (.ref a)
  | .type n => some (.ty n)
  | _ => none
theorem RelV.abs {x : V} {u : Value} (r : RelV x u) : absV u = some x := by
  cases x with
  | non => cases r; rfl
  | bl _ => cases r; rfl
  | int _ => obtain ⟨t, rfl⟩ := r; rfl
  | str _ => obtain ⟨t, rfl⟩ := r; rfl
  | byt _ => obtain ⟨t, rfl⟩ := r; rfl
  | flt _ => obtain ⟨t, rfl⟩ := r; rfl
  | ref _ => cases r; rfl
  | ty _ => cases r; rfl
theorem RelV.inj {x y : V} {u : Value} (r : RelV x u) (q : RelV y u) : x = y := Option.some.inj (r.abs.symm.trans q.abs)
theorem Vals.inj : ∀ {xs ys : List V} {us : List Value}, Vals xs us → Vals ys us → xs = ys
  | _, _, _, .nil, .nil => rfl
  | _, _, _, .cons r t, .cons r' t' => by rw [r.inj r', Vals.inj t t']
section
variable {X : Cx} {pins : List (Addr × Obj)} {σ : St} {H : Hp} {s : Shared} {a : Addr} {xs ys : List V}
theorem SqL.of {K : PySem.W.Frag} (h : H a = some (.lst xs)) : SqL K H a xs := .inl (.inl h)
theorem SqT.of {K : PySem.W.Frag} (h : H a = some (.tup xs)) : SqT K H a xs := .inl (.inl h)
theorem Inv.list (I : Inv X pins σ H s) (h : SqL X.K H a xs) : ∃ its : List Value, Vals xs its ∧ PlainL s.heap a its.toArray ∧ xs.length ≤ sizeLine := by
  rcases h with h | ⟨o, its, n, hk, hc, hd, hs, hz, r⟩
  · obtain ⟨z, its, n, r, e⟩ := h.ok I.hok
    exact ⟨its, r, ⟨_, n, e, rfl, rfl, rfl⟩, z⟩
  · refine ⟨its.toList, r, ⟨o, n, I.kIn a o hk, hc, hd, by simpa using hs⟩, ?_⟩
    have e := r.length
    simp only [Array.length_toList] at e
    omega
theorem Inv.tuple (I : Inv X pins σ H s) (h : SqT X.K H a xs) : ∃ its : List Value, Vals xs its ∧ IsTup s.heap a its.toArray ∧ xs.length ≤ sizeLine := by
  rcases h with h | ⟨o, its, n, hk, hc, hs, hz, r⟩
  · obtain ⟨z, its, r, p⟩ := h.ok I.hok
    exact ⟨its, r, p, z⟩
  · refine ⟨its.toList, r, ⟨o, I.kIn a o hk, hc, n, by simpa using hs⟩, ?_⟩
    have e := r.length
    simp only [Array.length_toList] at e
    omega
theorem Inv.list_inj (I : Inv X pins σ H s) (h : SqL X.K H a xs) (h' : SqL X.K H a ys) : xs = ys := by
  obtain ⟨its, r, ⟨o, n, e, _, _, d⟩, _⟩ := I.list h
  obtain ⟨its', r', ⟨o', n', e', _, _, d'⟩, _⟩ := I.list h'
  rw [e] at e'; cases e'
  rw [d] at d'
  injection d' with d1 _
  have : its = its' := by simpa using congrArg Array.toList d1
  subst this
  exact r.inj r'
end
abbrev Cx.wish (X : Cx) (E : Value → Shared → Prop) : Cx := { X with xe := E }
abbrev Cx.nox (X : Cx) : Cx := X.wish fun _ _ => False
theorem Cx.Ok.wish {X : Cx} (ok : X.Ok) (E : Value → Shared → Prop) : (X.wish E).Ok :=
  ⟨ok.mod, ok.kind, ok.glob, ok.blt, ok.above, ok.inj, ok.has, ok.cab, ok.hd, ok.frames, ok.stk, ok.exf, ok.bs, ok.bsz, ok.noex, ok.exfs, ok.funs, ok.frf⟩
theorem Cx.Ok.unwish {X : Cx} {E : Value → Shared → Prop} (ok : (X.wish E).Ok) : X.Ok :=
  ⟨ok.mod, ok.kind, ok.glob, ok.blt, ok.above, ok.inj, ok.has, ok.cab, ok.hd, ok.frames, ok.stk, ok.exf, ok.bs, ok.bsz, ok.noex, ok.exfs, ok.funs, ok.frf⟩
section
variable {X : Cx} {pins : List (Addr × Obj)} {σ : St} {H : Hp} {s : Shared} {E : Value → Shared → Prop}
theorem Inv.wish (I : Inv X pins σ H s) (E : Value → Shared → Prop) : Inv (X.wish E) pins σ H s := ⟨I.ok.wish E, I.os, I.bare, I.base, I.loc, I.cell, I.free, I.freeC, I.pin, I.hok, I.len⟩
theorem Inv.unwish (I : Inv (X.wish E) pins σ H s) : Inv X pins σ H s := ⟨I.ok.unwish, I.os, I.bare, I.base, I.loc, I.cell, I.free, I.freeC, I.pin, I.hok, I.len⟩
theorem SP.unwish {D : Ends} {f : Flow} {s' : Shared} (h : SP (X.wish E) pins D f s') : SP X pins D f s' := by
  cases f with
  | next => obtain ⟨σ', H', I, q⟩ := h; exact ⟨σ', H', I.unwish, q⟩
  | brk => obtain ⟨σ', H', I, q⟩ := h; exact ⟨σ', H', I.unwish, q⟩
  | cont => obtain ⟨σ', H', I, q⟩ := h; exact ⟨σ', H', I.unwish, q⟩
  | ret u => obtain ⟨v, σ', H', I, r, q⟩ := h; exact ⟨v, σ', H', I.unwish, r, q⟩
theorem PE.nox {e : Expr} {t : TE} (h : PE X.nox e t) : PE X e t := fun pins s σ H Q I hw =>
  wpAny_mono (h pins s σ H Q (I.wish _) hw) (fun _ _ ⟨v, H', I', r, q⟩ => ⟨v, H', I'.unwish, r, q⟩) fun _ _ z => False.elim z
theorem PT.nox {e : Expr} {t : TT} (h : PT X.nox e t) : PT X e t := fun pins s σ H Q I hw =>
  wpAny_mono (h pins s σ H Q (I.wish _) hw) (fun _ _ ⟨H', I', q⟩ => ⟨H', I'.unwish, q⟩) fun _ _ z => False.elim z
theorem PSs.nox {st : List Stmt} {t : TS} (h : PSs X.nox st t) : PSs X st t := fun pins s σ H D I hw =>
  wpAny_mono (h pins s σ H D (I.wish _) hw) (fun _ _ q => q.unwish) fun _ _ z => False.elim z
end
section
variable {X : Cx} {st : Stmt} {rest : List Stmt} {t u : TS} {e : Expr} {te : TE} {pos : Pos}
def tNext : TS := fun D σ H => D.nx σ H
def tSeq (t u : TS) : TS := fun D σ H => t { D with nx := u D } σ H
theorem pss_nil : PSs X [] tNext := fun _ _ σ H _ I h => wpAny_execs_nil ⟨σ, H, I, h⟩
theorem pss_cons (h1 : PS X st t) (h2 : PSs X rest u) : PSs X (st :: rest) (tSeq t u) := by
  intro pins s σ H D I h
  refine wpAny_execs_cons (thn (h1 pins s σ H { D with nx := u D } I h) fun f s1 q => ?_)
  cases f with
  | next =>
    obtain ⟨σ', H', I', q⟩ := q
    exact h2 pins s1 σ' H' D I' q
  | ret v => exact q
  | brk => exact q
  | cont => exact q
theorem pss_one (h1 : PS X st t) : PSs X [st] t := by
  intro pins s σ H D I h
  refine wpAny_execs_cons (thn (h1 pins s σ H D I h) fun f s1 q => ?_)
  cases f with
  | next => exact wpAny_execs_nil q
  | ret v => exact q
  | brk => exact q
  | cont => exact q
theorem Inv.quiet {pins : List (Addr × Obj)} {σ : St} {H : Hp} {s : Shared} (I : Inv X pins σ H s) : interactive X.env = false := by simp [interactive, I.ok.kind]
def tDrop (te : TE) : TS := fun D σ H => te σ H fun _ H1 => D.nx σ H1
theorem ps_expr (he : PE X e te) (hs : swapsWith e none pos.line X.env = pure false := by rfl) : PS X (.Expr e pos) (tDrop te) := by
  intro pins s σ H D I h
  exact wpAny_Expr_any (thn (he pins s σ H _ I h) fun v s1 ⟨x, H1, I1, r1, q1⟩ => ⟨σ, H1, I1, q1⟩) I.quiet hs
def tRet (te : TE) : TS := fun D σ H => te σ H D.rt
theorem ps_ret (he : PE X e te) : PS X (.Return (some e) pos) (tRet te) := by
  intro pins s σ H D I h
  exact wpAny_Return_some (thn (he pins s σ H _ I h) fun v s1 ⟨x, H1, I1, r1, q1⟩ => ⟨x, σ, H1, I1, r1, q1⟩)
def tIfS (c : TT) (t u : TS) : TS := fun D σ H => c σ H fun b H1 => if b = true then t D σ H1 else u D σ H1
theorem ps_if {c : Expr} {a b : List Stmt} {tc : TT} (hc : PT X c tc) (ha : PSs X a t) (hb : PSs X b u) : PS X (.If c a b pos) (tIfS tc t u) := by
  intro pins s σ H D I h
  refine wpAny_If (thn (hc pins s σ H _ I h) fun d s1 ⟨H1, I1, q1⟩ => ?_)
  cases d with
  | true => exact ha pins s1 σ H1 D I1 q1
  | false => exact hb pins s1 σ H1 D I1 q1
end
abbrev TG := V → St → Hp → (St → Hp → Prop) → Prop
abbrev TGs := List V → St → Hp → (St → Hp → Prop) → Prop
def PG (X : Cx) (target : Expr) (t : TG) : Prop :=
  ∀ (pins : List (Addr × Obj)) (s : Shared) (σ : St) (H : Hp) (v : V) (u : Value) (Q : St → Hp → Prop), Inv X pins σ H s → RelV v u → t v σ H Q →
    wpAny (model X.prog X.w) X.A (assign target X.env u) (fun _ s' => ∃ σ' H', Inv X pins σ' H' s' ∧ Q σ' H') X.xe s
def PGs (X : Cx) (ts : List Expr) (t : TGs) : Prop :=
  ∀ (pins : List (Addr × Obj)) (s : Shared) (σ : St) (H : Hp) (vs : List V) (us : List Value) (Q : St → Hp → Prop), Inv X pins σ H s → Vals vs us → t vs σ H Q →
    wpAny (model X.prog X.w) X.A (assignInOrder ((assignEach ts X.env).map (·.2)) us) (fun _ s' => ∃ σ' H', Inv X pins σ' H' s' ∧ Q σ' H') X.xe s
abbrev TSet := V → V → V → Hp → (Hp → Prop) → Prop
def PSet (X : Cx) (t : TSet) : Prop :=
  ∀ (pins : List (Addr × Obj)) (s : Shared) (σ : St) (H : Hp) (o i v : V) (ov iv u : Value) (Q : Hp → Prop), Inv X pins σ H s → RelV o ov → RelV i iv → RelV v u → t o i v H Q →
    wpAny (model X.prog X.w) X.A (setItem ov iv u) (fun _ s' => ∃ H', Inv X pins σ H' s' ∧ Q H') X.xe s
section
variable {X : Cx} {pos : Pos}
def gName (i : Nat) : TG := fun v σ H Q => Q (σ.set i (some v)) H
theorem pg_name {i : Nat} {x : Str} (hN : X.N.Nodup) (hi : X.N[i]? = some x) (hx : Loc X.env.scope x) (hf : X.fn x = true ∨ X.env.scope.names.lookup x = some .local := by first | exact .inl rfl | exact .inr rfl | assumption) : PG X (.Name x pos) (gName i) := by
  intro pins s σ H v u Q I r h
  exact wpAny_assign_Name (store_ok I hN hi hx r (fun s' I' => ⟨_, H, I', h⟩) hf)
def gNil : TGs := fun vs σ H Q => vs = [] ∧ Q σ H
def gCons (t : TG) (u : TGs) : TGs := fun vs σ H Q => ∃ v r, vs = v :: r ∧ t v σ H fun σ' H' => u r σ' H' Q
theorem pgs_nil : PGs X [] gNil := by
  intro pins s σ H vs us Q I r h
  obtain ⟨e, h⟩ := h
  subst e
  cases r
  exact assignInOrder_nil ⟨σ, H, I, h⟩
theorem pgs_cons {e : Expr} {es : List Expr} {t : TG} {u : TGs} (h1 : PG X e t) (h2 : PGs X es u)
    (hs : (assignEach (e :: es) X.env).map (·.2) = assign e X.env :: (assignEach es X.env).map (·.2) := by rfl) : PGs X (e :: es) (gCons t u) := by
  intro pins s σ H vs us Q I r h
  obtain ⟨v, vr, e1, h⟩ := h
  subst e1
  cases r with
  | cons r rr =>
    rw [hs]
    refine assignInOrder_cons (thn (h1 pins s σ H _ _ _ I r h) fun _ s1 ⟨σ1, H1, I1, q1⟩ => ?_)
    exact h2 pins s1 σ1 H1 _ _ Q I1 rr q1
def gTup (K : PySem.W.Frag) (n : Nat) (t : TGs) : TG := fun v σ H Q => ∃ a xs, v = .ref a ∧ SqT K H a xs ∧ xs.length = n ∧ t xs σ H Q
theorem pg_tup {es : List Expr} {k : Nat} {t : TGs} {n : Nat} (hc : X.calm = true) (h : PGs X es t)
    (hn : (assignEach es X.env).length = n := by rfl) (hst : (assignEach es X.env).findIdx? (·.1) = none := by rfl) : PG X (.Tuple es k pos) (gTup X.K n t) := by
  intro pins s σ H v u Q I r hw
  obtain ⟨a, xs, e1, hq, hl, hw⟩ := hw
  subst e1
  cases r
  obtain ⟨its, rv, ht, hz⟩ := I.tuple hq
  refine assign_Tuple_tuple (I.ok.hd hc) ht (by simp [hn, ← hl, rv.length]) hst fun h' hx => ?_
  have I1 : Inv X pins σ H { s with heap := h' } := I.kept (t' := s.toks) fun b o e => hx b o (Nat.ne_of_lt (Heap.lt_size e)) e
  exact h pins _ σ H xs _ Q I1 (by simpa using rv) hw
def gSub (to ti : TE) (t : TSet) : TG := fun v σ H Q => to σ H fun o H1 => ti σ H1 fun i H2 => t o i v H2 fun H3 => Q σ H3
theorem pg_sub {o i : Expr} {to ti : TE} {t : TSet} (ho : PE X o to) (hi : PE X i ti) (hs : PSet X t)
    (ha : ∀ v, assign (.Subscript o i pos) X.env v = (do
      let ov ← holding [v] (eval o X.env)
      let iv ← holding [v, ov] (eval i X.env)
      standAt pos
      holding [v, ov, iv] (setItem ov iv v)
      release [v, ov, iv] []) := by intro _; rfl) : PG X (.Subscript o i pos) (gSub to ti t) := by
  intro pins s σ H v u Q I r h
  rw [ha]
  refine wpAny_bind (wpAny_holding (thn (ho pins s σ H _ I h) fun ov s1 ⟨x, H1, I1, r1, q1⟩ => ?_))
  refine wpAny_bind (wpAny_holding (thn (hi pins s1 σ H1 _ I1 q1) fun iv s2 ⟨y, H2, I2, r2, q2⟩ => ?_))
  refine wpAny_bind (wpAny_standAt (wpAny_bind (wpAny_holding (thn (hs pins s2 σ H2 x y v ov iv u _ I2 r1 r2 r q2) fun _ s3 ⟨H3, I3, q3⟩ => ?_))))
  exact wpAny_release ⟨σ, H3, I3, q3⟩
def tAsg (te : TE) (g : TG) : TS := fun D σ H => te σ H fun x H1 => g x σ H1 D.nx
theorem ps_asg {tg e : Expr} {te : TE} {g : TG} (he : PE X e te) (hg : PG X tg g) (hs : swapsWithSole [tg] e pos.line X.env = pure false := by rfl) (hw : swappedStores [tg] e X.env = pure none := by rfl)
    (h1 : (assignEach [tg] X.env).map (·.2) = [assign tg X.env] := by rfl) : PS X (.Assign [tg] e pos) (tAsg te g) := by
  intro pins s σ H D I h
  refine wpAny_Assign_stores (thn (he pins s σ H _ I h) fun v s1 ⟨x, H1, I1, r1, q1⟩ => ?_) hs hw
  rw [h1]
  exact thn (hg pins s1 σ H1 x v _ I1 r1 q1) fun _ s2 q => q
theorem ps_set {i : Nat} {x : Str} {e : Expr} {te : TE} {pos' : Pos} (hN : X.N.Nodup) (hi : X.N[i]? = some x) (hx : Loc X.env.scope x) (he : PE X e te) (hs : swapsWith e (some (.Name x pos')) pos.line X.env = pure false := by rfl) (hf : X.fn x = true ∨ X.env.scope.names.lookup x = some .local := by first | exact .inl rfl | exact .inr rfl | assumption) :
    PS X (.Assign [.Name x pos'] e pos) (tAsg te (gName i)) := by
  intro pins s σ H D I h
  refine wpAny_Assign_Name (thn (he pins s σ H _ I h) fun v s1 ⟨y, H1, I1, r1, q1⟩ => ?_) hs
  exact store_ok I1 hN hi hx r1 (fun s2 I2 => ⟨_, H1, I2, q1⟩) hf
end
section
variable {X : Cx} {pos : Pos}
def tWhile (c : TT) (tb : TS) : TS := fun D σ H => ∃ W : Nat → St → Hp → Prop, (∃ m, W m σ H) ∧ ∀ m σ H, W m σ H →
  c σ H fun b H1 => if b = true then ∃ N : St → Hp → Prop, (∀ σ' H', N σ' H' → ∃ m', m' < m ∧ W m' σ' H') ∧ tb { D with nx := N, ct := N, bk := D.nx } σ H1 else D.nx σ H1
theorem ps_while {c : Expr} {body : List Stmt} {tc : TT} {tb : TS} (hp : PassesOwn (model X.prog X.w) X.A X.env X.xe) (hc : PT X c tc) (hb : PSs X body tb) : PS X (.While c body [] pos) (tWhile tc tb) := by
  intro pins s σ H D I h
  obtain ⟨W, ⟨m0, w0⟩, turn⟩ := h
  refine wpAny_While (codeAny_whileLoop (fun n s' => ∃ σ' H', Inv X pins σ' H' s' ∧ W n σ' H') ?_ m0 ⟨σ, H, I, w0⟩)
  rintro n s1 ⟨σ1, H1, I1, w1⟩
  refine wpAny_passesOwn hp (thn (hc pins s1 σ1 H1 _ I1 (turn n σ1 H1 w1)) fun b s2 ⟨H2, I2, q2⟩ => ?_)
  cases b with
  | true =>
    obtain ⟨N, hN, q2⟩ := q2
    rw [if_pos rfl]
    refine wpAny_passesOwn hp (thn (hb pins s2 σ1 H2 _ I2 q2) fun f s3 q3 => ?_)
    cases f with
    | next =>
      obtain ⟨σ3, H3, I3, n3⟩ := q3
      obtain ⟨m', hm, w3⟩ := hN σ3 H3 n3
      exact ⟨m', hm, σ3, H3, I3, w3⟩
    | cont =>
      obtain ⟨σ3, H3, I3, n3⟩ := q3
      obtain ⟨m', hm, w3⟩ := hN σ3 H3 n3
      exact ⟨m', hm, σ3, H3, I3, w3⟩
    | brk => exact q3
    | ret v => exact q3
  | false =>
    rw [if_neg Bool.false_ne_true]
    exact wpAny_execs_nil ⟨σ1, H2, I2, q2⟩
end
structure It where
  go : Nat → Hp → Prop
  yld : Nat → Hp → V → Hp → Prop
  stop : Nat → Hp → Prop
def FpOk (X : Cx) (pins : List (Addr × Obj)) (H : Hp) (b : Addr) : Prop :=
  H b = none ∧ b ≠ X.env.locals ∧ b ∉ X.fs ∧ (b ∈ X.ex ∨ X.s₀.heap.objs.size ≤ b) ∧ (∀ x c, X.env.cells.lookup x = some c → c ≠ b) ∧ ∀ p ∈ X.pn ++ pins, p.1 ≠ b
theorem Inv.fpOk {X : Cx} {pins : List (Addr × Obj)} {σ : St} {H H' : Hp} {s : Shared} {b : Addr} (I : Inv X pins σ H s) (hb : s.heap.objs.size ≤ b) (hn : H' b = none) : FpOk X pins H' b := by
  refine ⟨hn, Nat.ne_of_gt (Nat.lt_of_lt_of_le I.lt hb), I.nofs hb, .inr (Nat.le_trans I.sz hb), fun x c e z => ?_, fun p hp z => ?_⟩
  · obtain ⟨v, q⟩ := I.cell x c e
    exact absurd (Nat.lt_of_lt_of_le q.lt (by rw [z]; exact hb)) (Nat.lt_irrefl _)
  · exact absurd (Nat.lt_of_lt_of_le (Heap.lt_size (I.pin p hp).1) (by rw [z]; exact hb)) (Nat.lt_irrefl _)
structure Turn (P : Program) (w : World) (K : PySem.W.Frag) (tg : Expr) (J : It) (fp : List Addr) (it : Addr) (tn : Nat → Heap → Prop) : Prop where
  mem : it ∈ fp
  obj : ∀ i h, tn i h → ∀ b ∈ fp, ∃ o, h.get? b = some o ∧ ∀ v, o.data ≠ .cell v
  keep : ∀ i h h', tn i h → (∀ b ∈ fp, ∀ o, h.get? b = some o → h'.get? b = some o) → tn i h'
  item : ∀ (X : Cx), X.prog = P → X.w = w → X.K = K → X.calm = true → ∀ (i : Nat) (pins : List (Addr × Obj)) (s : Shared) (σ : St) (H : Hp) (E : Value → Shared → Prop), Inv X pins σ H s → (∀ b ∈ fp, FpOk X pins H b) → tn i s.heap → J.go i H →
    wpAny (model P w) X.A (pyNext (.ref it)) (fun r s1 => ∃ u, r = some u ∧
      wpAny (model P w) X.A (letOwnedTupleGo tg (.ref it) u) (fun _ s2 => ∃ x H', Inv X pins σ H' s2 ∧ RelV x u ∧ J.yld i H x H' ∧ tn (i + 1) s2.heap ∧ ∀ b ∈ fp, H' b = none) E s1) E s
  done : ∀ (X : Cx), X.prog = P → X.w = w → X.K = K → X.calm = true → ∀ (i : Nat) (pins : List (Addr × Obj)) (s : Shared) (σ : St) (H : Hp) (E : Value → Shared → Prop), Inv X pins σ H s → (∀ b ∈ fp, FpOk X pins H b) → tn i s.heap → J.stop i H →
    wpAny (model P w) X.A (pyNext (.ref it)) (fun r s1 => r = none ∧ Inv X pins σ H s1) E s
  self : ∀ (A : Around) (i : Nat) (s : Shared) (Q : Value → Shared → Prop) (E : Value → Shared → Prop), tn i s.heap → Q (.ref it) s → wpAny (model P w) A (pyIter (.ref it)) Q E s
abbrev TI := St → Hp → (It → Hp → Prop) → Prop
def PIE (X : Cx) (pins : List (Addr × Obj)) (σ : St) (tg : Expr) (R : It → Hp → Prop) (itv : Value) (s2 : Shared) : Prop :=
  ∃ (it : Addr) (fp : List Addr) (tn : Nat → Heap → Prop) (J : It) (H' : Hp), itv = .ref it ∧ Inv X pins σ H' s2 ∧ Turn X.prog X.w X.K tg J fp it tn ∧ tn 0 s2.heap ∧ (∀ b ∈ fp, FpOk X pins H' b) ∧ R J H'
def PI (X : Cx) (tg iter : Expr) (wi : TI) : Prop :=
  ∀ (pins : List (Addr × Obj)) (s : Shared) (σ : St) (H : Hp) (R : It → Hp → Prop), Inv X pins σ H s → wi σ H R →
    wpAny (model X.prog X.w) X.A (eval iter X.env) (fun v s1 => wpAny (model X.prog X.w) X.A (pyIter v) (PIE X pins σ tg R) X.xe s1) X.xe s
theorem go_of {M : Model} {A : Around} {E : Value → Shared → Prop} {s : Shared} {tg : Expr} {it : Addr} {u : Value} {o : Obj} {n : String} {vs : Array Value} {Q : Unit → Shared → Prop} (ho : s.heap.get? it = some o) (hc : o.cls = .type n) (hd : o.data = .fields vs)
    (hn : ["enumerate", "zip", "dict_itemiterator", "dict_reverseitemiterator", "odict_iterator", "itertools.zip_longest", "itertools.pairwise"].contains n = false) (hQ : Q () s) : wpAny M A (letOwnedTupleGo tg (.ref it) u) Q E s := by
  unfold letOwnedTupleGo
  cases tg <;> first
    | exact wpAny_pure hQ
    | (cases u <;> first
        | exact wpAny_pure hQ
        | (refine wpAny_bind (wpAny_load ho ?_)
           rw [hc, hd]
           show wpAny M A (if (["enumerate", "zip", "dict_itemiterator", "dict_reverseitemiterator", "odict_iterator", "itertools.zip_longest", "itertools.pairwise"].contains n && vs[0]? == some (rawInt _)) = true then _ else _) Q E s
           rw [if_neg (by intro h; rw [hn, Bool.false_and] at h; cases h)]
           exact wpAny_pure hQ))
def Itl (K : PySem.W.Frag) (a : Addr) : It :=
  ⟨fun i H => ∃ xs x, SqL K H a xs ∧ xs[i]? = some x, fun i H x H' => H' = H ∧ ∀ xs, SqL K H a xs → xs[i]? = some x, fun i H => ∃ xs, SqL K H a xs ∧ xs.length ≤ i⟩
def Itr (lo : Int) (n : Nat) : It := ⟨fun i _ => i < n, fun i H x H' => H' = H ∧ x = .int (lo + i), fun i _ => n ≤ i⟩
theorem turn_list {P : Program} {w : World} {K : PySem.W.Frag} {tg : Expr} (a it : Addr) : Turn P w K tg (Itl K a) [it] it (fun i h => h.IsListIter it a i) where
  mem := by simp
  obj := fun i h st b hb => by
    have e : b = it := by simpa using hb
    subst e
    obtain ⟨o, e, c, d⟩ := st
    exact ⟨o, e, fun v z => by rw [d] at z; cases z⟩
  keep := fun i h h' st k => st.at fun o e => k it (by simp) o e
  item := by
    intro X hP hw hK hc i pins s σ H E I hf st hg
    subst hP hw hK
    obtain ⟨xs, x, hq, hx⟩ := hg
    obtain ⟨its, rv, p, hz⟩ := I.list hq
    obtain ⟨u, hu, ru⟩ := rv.get hx
    obtain ⟨f0, f1, f2, f3, f4, f5⟩ := hf it (by simp)
    refine wpAny_pyNext_list_item st p.isList (x := u) (by simpa using hu) fun h' st' sb => ?_
    have I1 : Inv X pins σ H { s with heap := h' } := I.turned (t' := s.toks) (fun b o hb e => (sb.2 b hb).trans e) f0 f1 f3 f4 f5
    obtain ⟨o, e, c, d⟩ := id st'
    exact ⟨u, rfl, go_of (s := { s with heap := h' }) e c d (by decide) ⟨x, H, I1, ru, ⟨rfl, fun ys hy => by rw [I.list_inj hy hq]; exact hx⟩, st', fun b hb => (hf b hb).1⟩⟩
  done := by
    intro X hP hw hK hc i pins s σ H E I hf st hg
    subst hP hw hK
    obtain ⟨xs, hq, hx⟩ := hg
    obtain ⟨its, rv, p, hz⟩ := I.list hq
    obtain ⟨f0, f1, f2, f3, f4, f5⟩ := hf it (by simp)
    have hl := rv.length
    exact wpAny_pyNext_list_end (I.ok.hd hc) st p.isList (by simp; omega) fun h' eb => ⟨rfl, I.turned (t' := s.toks) (fun b o hb e => eb b o hb e) f0 f1 f3 f4 f5⟩
  self := fun _ _ _ _ _ st h => wpAny_pyIter_listiter st h
theorem turn_range {P : Program} {w : World} {K : PySem.W.Frag} {tg : Expr} (it : Addr) (lo : Int) (n : Nat) : Turn P w K tg (Itr lo n) [it] it (fun i h => IsRangeIter h it (lo + (i : Nat) * 1) ((n : Int) - (i : Nat)) 1) where
  mem := by simp
  obj := fun i h st b hb => by
    have e : b = it := by simpa using hb
    subst e
    exact ⟨_, st, fun v z => by
      have z' : Data.fields _ = Data.cell v := z
      cases z'⟩
  keep := fun i h h' st k => k it (by simp) _ st
  item := by
    intro X hP hw hK hc i pins s σ H E I hf st hg
    subst hP hw hK
    obtain ⟨f0, f1, f2, f3, f4, f5⟩ := hf it (by simp)
    have W := Walks.range (prog := X.prog) (w := X.w) (I.ok.hd hc) it lo 1 n
    refine W.item i s _ _ hg st fun v h' tk hv st' kk => ?_
    obtain ⟨t, rfl⟩ := hv
    have I1 : Inv X pins σ H { s with heap := h', toks := tk } := I.turned (fun b o hb e => kk b o (by simpa using hb) e) f0 f1 f3 f4 f5
    refine ⟨_, rfl, go_of (s := { s with heap := h', toks := tk }) (n := "range_iterator") st' rfl rfl (by decide) ⟨.int (lo + i), H, I1, ⟨t, ?_⟩, ⟨rfl, rfl⟩, st', fun b hb => (hf b hb).1⟩⟩
    rw [Int.mul_one]
  done := by
    intro X hP hw hK hc i pins s σ H E I hf st hg
    subst hP hw hK
    obtain ⟨f0, f1, f2, f3, f4, f5⟩ := hf it (by simp)
    exact wpAny_pyNext_range_end (I.ok.hd hc) st (by have : n ≤ i := hg; omega) fun h' eb => ⟨rfl, I.turned (t' := s.toks) (fun b o hb e => eb b o hb e) f0 f1 f3 f4 f5⟩
  self := fun _ _ _ _ _ st h => wpAny_pyIter_rangeiter st h
end L2
namespace L2
open PySem PySem.Spec PyProof.Rows
section
variable {X : Cx} {tg : Expr}
def iList (K : PySem.W.Frag) (tl : TE) : TI := fun σ H R => tl σ H fun x H1 => ∃ a, x = .ref a ∧ (∃ xs, SqL K H1 a xs) ∧ R (Itl K a) H1
theorem pi_list {l : Expr} {tl : TE} (hl : PE X l tl) : PI X tg l (iList X.K tl) := by
  intro pins s σ H R I h
  refine thn (hl pins s σ H _ I h) fun v s1 ⟨x, H1, I1, r1, q1⟩ => ?_
  obtain ⟨a, e, ⟨xs, hq⟩, q⟩ := q1
  subst e
  cases r1
  obtain ⟨its, rv, p, hz⟩ := I1.list hq
  refine wpAny_pyIter_list p.isList ?_
  refine ⟨s1.heap.objs.size, [s1.heap.objs.size], _, _, H1, rfl, I1.kept (t' := s1.toks) fun b o e => Heap.get?_push_of_some _ e, turn_list a _, ⟨_, Heap.get?_push_size _ rfl, rfl, rfl⟩, fun b hb => ?_, q⟩
  have e : b = s1.heap.objs.size := by simpa using hb
  subst e
  exact I1.fpOk (Nat.le_refl _) (I1.hok.fresh (Nat.le_refl _))
theorem range_it {pins : List (Addr × Obj)} {σ : St} {H : Hp} {s : Shared} {R : It → Hp → Prop} {E : Value → Shared → Prop} {lo hi : Int} {t u v : Tok} {tk : Nat} (I : Inv X pins σ H s) (h1 : -(2 ^ 62) ≤ lo) (h2 : lo < 2 ^ 62) (h3 : -(2 ^ 62) ≤ hi) (h4 : hi < 2 ^ 62)
    (q : R (Itr lo (hi - lo).toNat) H) : wpAny (model X.prog X.w) X.A (pyIter (.ref s.heap.objs.size)) (PIE X pins σ tg R) E { s with heap := s.heap.push { cls := .type "range", data := .fields #[.int lo t, .int hi u, .int 1 v] }, toks := tk } := by
  refine wpAny_pyIter_range (IsRange.new ..) (small_one h1 h2 h3 h4) ?_
  have I1 : Inv X pins σ H { s with heap := s.heap.push { cls := .type "range", data := .fields #[.int lo t, .int hi u, .int 1 v] }, toks := tk } := I.kept fun b o e => Heap.get?_push_of_some _ e
  refine ⟨(s.heap.push { cls := .type "range", data := .fields #[.int lo t, .int hi u, .int 1 v] }).objs.size, [(s.heap.push { cls := .type "range", data := .fields #[.int lo t, .int hi u, .int 1 v] }).objs.size], _, _, H, rfl,
    I1.kept (t' := tk) fun b o e => Heap.get?_push_of_some _ e, turn_range _ lo (hi - lo).toNat, ?_, fun b hb => ?_, q⟩
  · have e1 : lo + ((0 : Nat) : Int) * 1 = lo := by simp
    have e2 : (((hi - lo).toNat : Nat) : Int) - ((0 : Nat) : Int) = Builtin.Range.rangeSize lo hi 1 := by rw [rangeSize_one]; split <;> omega
    show IsRangeIter _ _ (lo + ((0 : Nat) : Int) * 1) ((((hi - lo).toNat : Nat) : Int) - ((0 : Nat) : Int)) 1
    rw [e1, e2]
    exact Heap.get?_push_size _ rfl
  · have e : b = (s.heap.push { cls := .type "range", data := .fields #[.int lo t, .int hi u, .int 1 v] }).objs.size := by simpa using hb
    subst e
    exact I1.fpOk (Nat.le_refl _) (I1.hok.fresh (Nat.le_refl _))
def iRng1 (ta : TA) : TI := fun σ H R => ta σ H fun vs H1 => ∃ j : Int, vs = [.int j] ∧ -(2 ^ 62) ≤ j ∧ j < 2 ^ 62 ∧ R (Itr 0 j.toNat) H1
theorem pi_range1 {a : Expr} {ta : TA} {p pos : Pos} (hg : Gl X "range") (hm : X.mg "range" = none) (ha : PA X [a] ta) (hs : starEach [a] X.env = [(false, eval a X.env)] := by rfl) : PI X tg (.Call (.Name "range" p) [a] [] pos) (iRng1 ta) := by
  intro pins s σ H R I h
  refine Call_ (ld_blt I hg hm boot_range (PyProof.Rows.callWith_type1 (thn (ha pos pins s σ H _ I h) fun us s1 ⟨vs, H1, I1, r1, q1⟩ => ?_) hs rfl))
  obtain ⟨j, e, q1, q2, q⟩ := q1
  subst e
  cases r1 with
  | cons r rr =>
    cases rr
    obtain ⟨t, rfl⟩ := r
    exact call_range_1 (range_it I1 (by omega) (by omega) q1 q2 (by simpa using q))
def tFor (wi : TI) (g : TG) (tb : TS) : TS := fun D σ H => wi σ H fun J H1 => ∃ W : Nat → Nat → St → Hp → Prop, (∃ m, W 0 m σ H1) ∧ ∀ i m σ H, W i m σ H →
  (J.stop i H ∧ D.nx σ H) ∨ (J.go i H ∧ ∃ N : St → Hp → Prop, (∀ σ' H', N σ' H' → ∃ m', m' < m ∧ W (i + 1) m' σ' H') ∧ ∀ x H', J.yld i H x H' → g x σ H' fun σ2 H2 => tb { D with nx := N, ct := N, bk := D.nx } σ2 H2)
def pinsAt (fp : List Addr) (h : Heap) : List (Addr × Obj) := fp.filterMap fun b => (h.get? b).map fun o => (b, o)
theorem mem_pinsAt {fp : List Addr} {h : Heap} {b : Addr} {o : Obj} (hb : b ∈ fp) (e : h.get? b = some o) : (b, o) ∈ pinsAt fp h := List.mem_filterMap.mpr ⟨b, hb, by rw [e]; rfl⟩
theorem of_pinsAt {fp : List Addr} {h : Heap} {p : Addr × Obj} (hp : p ∈ pinsAt fp h) : p.1 ∈ fp ∧ h.get? p.1 = some p.2 := by
  obtain ⟨b, hb, e⟩ := List.mem_filterMap.mp hp
  cases q : h.get? b with
  | none => rw [q] at e; cases e
  | some o =>
    rw [q] at e
    have e' : (b, o) = p := Option.some.inj e
    subst e'
    exact ⟨hb, q⟩
theorem Inv.pinned {pins : List (Addr × Obj)} {σ : St} {H : Hp} {s : Shared} {fp : List Addr} (I : Inv X pins σ H s) (hf : ∀ b ∈ fp, FpOk X pins H b) (ho : ∀ b ∈ fp, ∃ o, s.heap.get? b = some o ∧ ∀ v, o.data ≠ .cell v) : Inv X (pins ++ pinsAt fp s.heap) σ H s :=
  I.pins_of fun p hp => (List.mem_append.mp hp).elim (fun z => I.pin p (List.mem_append_right _ z)) fun z => by
    obtain ⟨hb, e⟩ := of_pinsAt z
    obtain ⟨f0, f1, f2, _⟩ := hf p.1 hb
    obtain ⟨o, e', d⟩ := ho p.1 hb
    rw [e] at e'; cases e'
    exact ⟨e, f0, f1, f2, d⟩
theorem Inv.unpinned {pins pl : List (Addr × Obj)} {σ : St} {H : Hp} {s : Shared} (I : Inv X (pins ++ pl) σ H s) : Inv X pins σ H s := I.pins_of fun p hp => I.pin p (List.mem_append_right _ (List.mem_append_left _ hp))
theorem ps_for {iter : Expr} {body : List Stmt} {wi : TI} {g : TG} {tb : TS} {pos : Pos} (hp : PassesOwn (model X.prog X.w) X.A X.env X.xe) (hc : X.calm = true) (hi : PI X tg iter wi) (hg : PG X tg g) (hb : PSs X body tb)
    (hs : ∀ x, foldedSetIterable iter X.env x = pure x := by intro _; rfl) : PS X (.For tg iter body [] pos) (tFor wi g tb) := by
  intro pins s σ H D I h
  refine wpAny_For (thn (hi pins s σ H _ I h) fun v s1 h1 => thn h1 fun itv s2 h2 => ?_) hs
  obtain ⟨it, fp, tn, J, H2, e, I2, T, st2, f2, W, ⟨m0, w0⟩, turn⟩ := h2
  subst e
  have stat : ∀ {H' : Hp}, (∀ b ∈ fp, H' b = none) → ∀ b ∈ fp, FpOk X pins H' b := fun hn b hb => ⟨hn b hb, (f2 b hb).2⟩
  refine codeAny_forLoop_any (fun n s' => ∃ i σ' H', Inv X pins σ' H' s' ∧ tn i s'.heap ∧ (∀ b ∈ fp, H' b = none) ∧ W i n σ' H') ?_ m0 ⟨0, σ, H2, I2, st2, fun b hb => (f2 b hb).1, w0⟩
  rintro n s3 ⟨i, σ3, H3, I3, st3, fr3, w3⟩
  rcases turn i n σ3 H3 w3 with ⟨stop, qn⟩ | ⟨go, N, hN, step⟩
  · refine wpAny_passesOwn hp (thn (T.done X rfl rfl rfl hc i pins s3 σ3 H3 X.xe I3 (stat fr3) st3 stop) fun r s4 ⟨hr, I4⟩ => ?_)
    subst hr
    exact wpAny_execs_nil ⟨σ3, H3, I4, qn⟩
  · refine wpAny_passesOwn hp (thn (T.item X rfl rfl rfl hc i pins s3 σ3 H3 X.xe I3 (stat fr3) st3 go) fun r s4 ⟨u, hr, h4⟩ => ?_)
    subst hr
    refine wpAny_passesOwn hp (thn h4 fun _ s5 ⟨x, H5, I5, r5, y5, st5, fr5⟩ => ?_)
    have I5' := I5.pinned (stat fr5) (T.obj _ _ st5)
    refine wpAny_passesOwn hp (thn (hg _ s5 σ3 H5 x u _ I5' r5 (step x H5 y5)) fun _ s6 ⟨σ6, H6, I6, q6⟩ => ?_)
    refine wpAny_passesOwn hp (thn (hb _ s6 σ6 H6 _ I6 q6) fun f s7 q7 => ?_)
    have again : ∀ {σ7 : St} {H7 : Hp}, Inv X (pins ++ pinsAt fp s5.heap) σ7 H7 s7 → N σ7 H7 → ∃ m, m < n ∧ ∃ i σ' H', Inv X pins σ' H' s7 ∧ tn i s7.heap ∧ (∀ b ∈ fp, H' b = none) ∧ W i m σ' H' := fun {σ7 H7} I7 n7 => by
      obtain ⟨m', hm, w7⟩ := hN σ7 H7 n7
      refine ⟨m', hm, i + 1, σ7, H7, I7.unpinned, T.keep _ _ _ st5 fun b hb o e => (I7.pin (b, o) (List.mem_append_right _ (List.mem_append_right _ (mem_pinsAt hb e)))).1, fun b hb => ?_, w7⟩
      obtain ⟨o, e, d⟩ := T.obj _ _ st5 b hb
      exact (I7.pin (b, o) (List.mem_append_right _ (List.mem_append_right _ (mem_pinsAt hb e)))).2.1
    cases f with
    | next => obtain ⟨σ7, H7, I7, n7⟩ := q7; exact again I7 n7
    | cont => obtain ⟨σ7, H7, I7, n7⟩ := q7; exact again I7 n7
    | brk => obtain ⟨σ7, H7, I7, q7⟩ := q7; exact ⟨σ7, H7, I7.unpinned, q7⟩
    | ret v => obtain ⟨x7, σ7, H7, I7, r7, q7⟩ := q7; exact ⟨x7, σ7, H7, I7.unpinned, r7, q7⟩
end
theorem for_list {K : PySem.W.Frag} {a : Addr} {xs : List V} {g : TG} {tb : TS} {D : Ends} {σ : St} {H : Hp} (Pv : Nat → St → Hp → Prop) (h0 : Pv 0 σ H) (hl : ∀ i σ H, i ≤ xs.length → Pv i σ H → SqL K H a xs)
    (hs : ∀ i x σ H, xs[i]? = some x → Pv i σ H → g x σ H fun σ2 H2 => tb { D with nx := Pv (i + 1), ct := Pv (i + 1), bk := D.nx } σ2 H2) (hd : ∀ σ H, Pv xs.length σ H → D.nx σ H) :
    ∃ W : Nat → Nat → St → Hp → Prop, (∃ m, W 0 m σ H) ∧ ∀ i m σ H, W i m σ H →
      ((Itl K a).stop i H ∧ D.nx σ H) ∨ ((Itl K a).go i H ∧ ∃ N : St → Hp → Prop, (∀ σ' H', N σ' H' → ∃ m', m' < m ∧ W (i + 1) m' σ' H') ∧ ∀ x H', (Itl K a).yld i H x H' → g x σ H' fun σ2 H2 => tb { D with nx := N, ct := N, bk := D.nx } σ2 H2) := by
  refine ⟨fun i m σ H => m = xs.length - i ∧ i ≤ xs.length ∧ Pv i σ H, ⟨xs.length, by simp, Nat.zero_le _, h0⟩, ?_⟩
  rintro i m σ H ⟨rfl, hi, p⟩
  have q := hl i σ H hi p
  by_cases hlt : i < xs.length
  · refine .inr ⟨⟨xs, xs[i], q, by simp [hlt]⟩, Pv (i + 1), fun σ' H' p' => ⟨xs.length - (i + 1), by omega, rfl, hlt, p'⟩, fun x H' y => ?_⟩
    obtain ⟨e, y⟩ := y
    subst e
    exact hs i x σ _ (y xs q) p
  · have e : i = xs.length := by omega
    subst e
    exact .inl ⟨⟨xs, q, Nat.le_refl _⟩, hd σ H p⟩
theorem for_range {lo : Int} {n : Nat} {g : TG} {tb : TS} {D : Ends} {σ : St} {H : Hp} (Pv : Nat → St → Hp → Prop) (h0 : Pv 0 σ H)
    (hs : ∀ i σ H, i < n → Pv i σ H → g (.int (lo + i)) σ H fun σ2 H2 => tb { D with nx := Pv (i + 1), ct := Pv (i + 1), bk := D.nx } σ2 H2) (hd : ∀ σ H, Pv n σ H → D.nx σ H) :
    ∃ W : Nat → Nat → St → Hp → Prop, (∃ m, W 0 m σ H) ∧ ∀ i m σ H, W i m σ H →
      ((Itr lo n).stop i H ∧ D.nx σ H) ∨ ((Itr lo n).go i H ∧ ∃ N : St → Hp → Prop, (∀ σ' H', N σ' H' → ∃ m', m' < m ∧ W (i + 1) m' σ' H') ∧ ∀ x H', (Itr lo n).yld i H x H' → g x σ H' fun σ2 H2 => tb { D with nx := N, ct := N, bk := D.nx } σ2 H2) := by
  refine ⟨fun i m σ H => m = n - i ∧ i ≤ n ∧ Pv i σ H, ⟨n, by simp, Nat.zero_le _, h0⟩, ?_⟩
  rintro i m σ H ⟨rfl, hi, p⟩
  by_cases hlt : i < n
  · refine .inr ⟨hlt, Pv (i + 1), fun σ' H' p' => ⟨n - (i + 1), by omega, rfl, hlt, p'⟩, fun x H' y => ?_⟩
    obtain ⟨e, y⟩ := y
    subst e y
    exact hs i σ _ hlt p
  · have e : i = n := by omega
    subst e
    exact .inl ⟨Nat.le_refl _, hd σ H p⟩
end L2
namespace L2
open PySem PySem.Spec PyProof.Rows
abbrev R2 := V → V → Hp → VK → Prop
def OpR (X : Cx) (f : Value → Value → Sem Value) (r : R2) : Prop :=
  ∀ (pins : List (Addr × Obj)) (s : Shared) (σ : St) (H : Hp) (x y : V) (v u : Value) (Q : VK), Inv X pins σ H s → RelV x v → RelV y u → r x y H Q →
    wpAny (model X.prog X.w) X.A (f v u) (EP X pins σ Q) X.xe s
def UnR (X : Cx) (f : Value → Sem Value) (r : V → Hp → VK → Prop) : Prop :=
  ∀ (pins : List (Addr × Obj)) (s : Shared) (σ : St) (H : Hp) (x : V) (v : Value) (Q : VK), Inv X pins σ H s → RelV x v → r x H Q →
    wpAny (model X.prog X.w) X.A (f v) (EP X pins σ Q) X.xe s
def CallR (X : Cx) (f : Value) (r : List V → Hp → VK → Prop) : Prop :=
  ∀ (pins : List (Addr × Obj)) (s : Shared) (σ : St) (H : Hp) (xs : List V) (us : List Value) (Q : VK), Inv X pins σ H s → Vals xs us → r xs H Q →
    wpAny (model X.prog X.w) X.A (call f us) (EP X pins σ Q) X.xe s
def tOp (r : R2) (ta tb : TE) : TE := fun σ H Q => ta σ H fun x H1 => tb σ H1 fun y H2 => r x y H2 Q
def tUn (r : V → Hp → VK → Prop) (ta : TE) : TE := fun σ H Q => ta σ H fun x H1 => r x H1 Q
def rI (C : Int → Int → Prop) (g : Int → Int → V) : R2 := fun x y H Q => ∃ i j, x = .int i ∧ y = .int j ∧ C i j ∧ Q (g i j) H
def rI0 (g : Int → Int → V) : R2 := fun x y H Q => ∃ i j, x = .int i ∧ y = .int j ∧ Q (g i j) H
def rU (g : Int → V) : V → Hp → VK → Prop := fun x H Q => ∃ i, x = .int i ∧ Q (g i) H
section
variable {X : Cx} {a b c : Expr} {ta tb tc : TE} {pos : Pos}
theorem binT (ha : PE X a ta) (hb : PE X b tb) {pins : List (Addr × Obj)} {s : Shared} {σ : St} {H : Hp} {R : V → V → Hp → Prop} (I : Inv X pins σ H s)
    (h : ta σ H fun x H1 => tb σ H1 fun y H2 => R x y H2) {Q : Value → Shared → Prop} {f : Value → Value → Sem Value}
    (hf : ∀ v u s2 x y H2, Inv X pins σ H2 s2 → RelV x v → RelV y u → R x y H2 → wpAny (model X.prog X.w) X.A (f v u) Q X.xe s2) :
    wpAny (model X.prog X.w) X.A (eval a X.env) (fun v s₁ => wpAny (model X.prog X.w) X.A (eval b X.env) (fun u s₂ => wpAny (model X.prog X.w) X.A (f v u) Q X.xe s₂) X.xe s₁) X.xe s := by
  refine thn (ha pins s σ H _ I h) fun v s1 ⟨x, H1, I1, r1, q1⟩ => ?_
  refine thn (hb pins s1 σ H1 _ I1 q1) fun u s2 ⟨y, H2, I2, r2, q2⟩ => ?_
  exact hf v u s2 x y H2 I2 r1 r2 q2
theorem pe_op {op : Operator} {r : R2} (ho : OpR X (binaryOp op) r) (ha : PE X a ta) (hb : PE X b tb) : PE X (.BinOp a op b pos) (tOp r ta tb) := by
  intro pins s σ H Q I h
  exact wpAny_BinOp (binT ha hb I h fun v u s2 x y H2 I2 rx ry q => ho pins s2 σ H2 x y v u Q I2 rx ry q)
theorem pe_un {op : UnaryOp} {r : V → Hp → VK → Prop} (ho : UnR X (unaryOp op) r) (ha : PE X a ta) : PE X (.UnaryOp op a pos) (tUn r ta) := by
  intro pins s σ H Q I h
  exact UnaryOp_ (thn (ha pins s σ H _ I h) fun v s1 ⟨x, H1, I1, r1, q1⟩ => ho pins s1 σ H1 x v Q I1 r1 q1)
theorem opI {f : Value → Value → Sem Value} {C : Int → Int → Prop} {g : Int → Int → Int}
    (rule : ∀ (i j : Int) (t u : Tok) (s : Shared) (Q : Value → Shared → Prop) (E : Value → Shared → Prop), C i j → Q (.int (g i j) s.toks) { s with toks := s.toks + 1 } → wpAny (model X.prog X.w) X.A (f (.int i t) (.int j u)) Q E s) :
    OpR X f (rI C fun i j => .int (g i j)) := by
  intro pins s σ H x y v u Q I rx ry h
  obtain ⟨i, j, rfl, rfl, hc, q⟩ := h
  obtain ⟨t, rfl⟩ := rx
  obtain ⟨t', rfl⟩ := ry
  exact rule i j t t' s _ _ hc ⟨.int (g i j), H, I.tok _, ⟨_, rfl⟩, q⟩
theorem opI0 {f : Value → Value → Sem Value} {g : Int → Int → Int}
    (rule : ∀ (i j : Int) (t u : Tok) (s : Shared) (Q : Value → Shared → Prop) (E : Value → Shared → Prop), Q (.int (g i j) s.toks) { s with toks := s.toks + 1 } → wpAny (model X.prog X.w) X.A (f (.int i t) (.int j u)) Q E s) :
    OpR X f (rI0 fun i j => .int (g i j)) := by
  intro pins s σ H x y v u Q I rx ry h
  obtain ⟨i, j, rfl, rfl, q⟩ := h
  obtain ⟨t, rfl⟩ := rx
  obtain ⟨t', rfl⟩ := ry
  exact rule i j t t' s _ _ ⟨.int (g i j), H, I.tok _, ⟨_, rfl⟩, q⟩
theorem opB0 {f : Value → Value → Sem Value} {g : Int → Int → Bool}
    (rule : ∀ (i j : Int) (t u : Tok) (s : Shared) (Q : Value → Shared → Prop) (E : Value → Shared → Prop), Q (.bool (g i j)) s → wpAny (model X.prog X.w) X.A (f (.int i t) (.int j u)) Q E s) :
    OpR X f (rI0 fun i j => .bl (g i j)) := by
  intro pins s σ H x y v u Q I rx ry h
  obtain ⟨i, j, rfl, rfl, q⟩ := h
  obtain ⟨t, rfl⟩ := rx
  obtain ⟨t', rfl⟩ := ry
  exact rule i j t t' s _ _ ⟨.bl (g i j), H, I, rfl, q⟩
def CPow (i j : Int) : Prop := 0 ≤ j ∧ j ≤ 1000000 ∧ i.natAbs < 2 ^ 64
def CMul (i j : Int) : Prop := (-(2 ^ 64) < i ∧ i < 2 ^ 64) ∨ (-(2 ^ 64) < j ∧ j < 2 ^ 64)
theorem CMul.ok {i j : Int} (h : CMul i j) : IntMulOk i j := by
  rcases h with ⟨h1, h2⟩ | ⟨h1, h2⟩
  · exact .of_left (intBits_le_64 h1 h2)
  · exact .of_right (intBits_le_64 h1 h2)
theorem op_add : OpR X (binaryOp .Add) (rI0 fun i j => .int (i + j)) := opI0 fun _ _ _ _ _ _ _ q => add_int q
theorem op_sub : OpR X (binaryOp .Sub) (rI0 fun i j => .int (i - j)) := opI0 fun _ _ _ _ _ _ _ q => sub_int q
theorem op_modN : OpR X (binaryOp .Mod) (rI (fun _ j => j ≠ 0) fun i j => .int (i.fmod j)) := opI fun _ _ _ _ _ _ _ hc q => mod_int' hc q
theorem op_pow : OpR X (binaryOp .Pow) (rI CPow fun i j => .int (i ^ j.toNat)) := opI fun _ _ _ _ _ _ _ hc q => pow_int_small hc.1 hc.2.1 hc.2.2 q
theorem op_shl : OpR X (binaryOp .LShift) (rI CPow fun i j => .int (i * 2 ^ j.toNat)) := opI fun _ _ _ _ _ _ _ hc q => lshift_int_small hc.1 hc.2.1 hc.2.2 q
theorem op_or : OpR X (binaryOp .BitOr) (rI0 fun i j => .int (Builtin.bitOr i j)) := opI0 fun _ _ _ _ _ _ _ q => or_int q
theorem unI {f : Value → Sem Value} {g : Int → Int}
    (rule : ∀ (i : Int) (t : Tok) (s : Shared) (Q : Value → Shared → Prop) (E : Value → Shared → Prop), Q (.int (g i) s.toks) { s with toks := s.toks + 1 } → wpAny (model X.prog X.w) X.A (f (.int i t)) Q E s) :
    UnR X f (rU fun i => .int (g i)) := by
  intro pins s σ H x v Q I rx h
  obtain ⟨i, rfl, q⟩ := h
  obtain ⟨t, rfl⟩ := rx
  exact rule i t s _ _ ⟨.int (g i), H, I.tok _, ⟨_, rfl⟩, q⟩
theorem un_neg : UnR X (unaryOp .USub) (rU fun i => .int (-i)) := unI fun _ _ _ _ _ q => neg_int q
end
def scal : V → V → Bool
  | .non, .non => true | .non, .int _ => true | .int _, .non => true | .non, .bl _ => true | .bl _, .non => true | .non, .str _ => true | .str _, .non => true
  | .int _, .int _ => true | .bl _, .bl _ => true | .str _, .str _ => true | .byt _, .byt _ => true
  | .int _, .str _ => true | .str _, .int _ => true | .bl _, .str _ => true | .str _, .bl _ => true
  | _, _ => false
def rEq : R2 := fun x y H Q => scal x y = true ∧ Q (.bl (decide (x = y))) H
def rNe : R2 := fun x y H Q => scal x y = true ∧ Q (.bl (!decide (x = y))) H
theorem dec_int {i j : Int} : decide (V.int i = V.int j) = (i == j) := by
  rw [Bool.eq_iff_iff]
  simp
theorem dec_bl {i j : Bool} : decide (V.bl i = V.bl j) = (i == j) := by
  rw [Bool.eq_iff_iff]
  simp
theorem dec_str {i j : Str} : decide (V.str i = V.str j) = (i == j) := by
  rw [Bool.eq_iff_iff]
  simp
theorem dec_byt {i j : Array UInt8} : decide (V.byt i = V.byt j) = (i.toList == j.toList) := by
  rw [Bool.eq_iff_iff]
  cases i
  cases j
  simp
section
variable {X : Cx} {a b c : Expr} {ta tb tc : TE} {pos : Pos}
theorem fin_bl {pins : List (Addr × Obj)} {σ : St} {H : Hp} {s : Shared} {Q : VK} {k k' : Bool} (I : Inv X pins σ H s) (q : Q (.bl k) H) (e : k = k') : EP X pins σ Q (.bool k') s := by
  subst e
  exact ⟨.bl k, H, I, rfl, q⟩
theorem op_eq : OpR X (compareOp .Eq) rEq := by
  intro pins s σ H x y v u Q I rx ry h
  obtain ⟨hs, q⟩ := h
  cases x with
  | non =>
    cases rx
    cases y with
    | non => cases ry; exact PySem.EqNone.eq_none_none (fin_bl I q (by simp))
    | bl j => cases ry; exact PySem.EqNone.eq_none_bool (fin_bl I q (by simp))
    | int j => obtain ⟨t', rfl⟩ := ry; exact PySem.EqNone.eq_none_int (fin_bl I q (by simp))
    | str j => obtain ⟨t', rfl⟩ := ry; exact PySem.EqNone.eq_none_str (fin_bl I q (by simp))
    | _ => exact absurd (show false = true from hs) Bool.false_ne_true
  | bl i =>
    cases rx
    cases y with
    | non => cases ry; exact PySem.EqNone.eq_bool_none (fin_bl I q (by simp))
    | bl j => cases ry; exact eq_bool (fin_bl I q dec_bl)
    | str j => obtain ⟨t', rfl⟩ := ry; exact PySem.EqMixed.eq_bool_str (fin_bl I q (by simp))
    | _ => exact absurd (show false = true from hs) Bool.false_ne_true
  | int i =>
    obtain ⟨t, rfl⟩ := rx
    cases y with
    | non => cases ry; exact PySem.EqNone.eq_int_none (fin_bl I q (by simp))
    | int j => obtain ⟨t', rfl⟩ := ry; exact eq_int (fin_bl I q dec_int)
    | str j => obtain ⟨t', rfl⟩ := ry; exact PySem.EqMixed.eq_int_str (fin_bl I q (by simp))
    | _ => exact absurd (show false = true from hs) Bool.false_ne_true
  | str i =>
    obtain ⟨t, rfl⟩ := rx
    cases y with
    | non => cases ry; exact PySem.EqNone.eq_str_none (fin_bl I q (by simp))
    | bl j => cases ry; exact PySem.EqMixed.eq_str_bool (fin_bl I q (by simp))
    | int j => obtain ⟨t', rfl⟩ := ry; exact PySem.EqMixed.eq_str_int (fin_bl I q (by simp))
    | str j => obtain ⟨t', rfl⟩ := ry; exact eq_str (fin_bl I q dec_str)
    | _ => exact absurd (show false = true from hs) Bool.false_ne_true
  | byt i =>
    obtain ⟨t, rfl⟩ := rx
    cases y with
    | byt j => obtain ⟨t', rfl⟩ := ry; exact PySem.W.eq_bytes (fin_bl I q dec_byt)
    | _ => exact absurd (show false = true from hs) Bool.false_ne_true
  | _ => cases y <;> exact absurd (show false = true from hs) Bool.false_ne_true
theorem op_ne : OpR X (compareOp .NotEq) rNe := by
  intro pins s σ H x y v u Q I rx ry h
  obtain ⟨hs, q⟩ := h
  cases x with
  | non =>
    cases rx
    cases y with
    | non => cases ry; exact PySem.EqNone.ne_none_none (fin_bl I q (by simp))
    | bl j => cases ry; exact PySem.EqNone.ne_none_bool (fin_bl I q (by simp))
    | int j => obtain ⟨t', rfl⟩ := ry; exact PySem.EqNone.ne_none_int (fin_bl I q (by simp))
    | str j => obtain ⟨t', rfl⟩ := ry; exact PySem.EqNone.ne_none_str (fin_bl I q (by simp))
    | _ => exact absurd (show false = true from hs) Bool.false_ne_true
  | bl i =>
    cases rx
    cases y with
    | non => cases ry; exact PySem.EqNone.ne_bool_none (fin_bl I q (by simp))
    | bl j => cases ry; exact ne_bool (fin_bl I q (congrArg not dec_bl))
    | str j => obtain ⟨t', rfl⟩ := ry; exact PySem.EqMixed.ne_bool_str (fin_bl I q (by simp))
    | _ => exact absurd (show false = true from hs) Bool.false_ne_true
  | int i =>
    obtain ⟨t, rfl⟩ := rx
    cases y with
    | non => cases ry; exact PySem.EqNone.ne_int_none (fin_bl I q (by simp))
    | int j => obtain ⟨t', rfl⟩ := ry; exact ne_int (fin_bl I q (congrArg not dec_int))
    | str j => obtain ⟨t', rfl⟩ := ry; exact PySem.EqMixed.ne_int_str (fin_bl I q (by simp))
    | _ => exact absurd (show false = true from hs) Bool.false_ne_true
  | str i =>
    obtain ⟨t, rfl⟩ := rx
    cases y with
    | non => cases ry; exact PySem.EqNone.ne_str_none (fin_bl I q (by simp))
    | bl j => cases ry; exact PySem.EqMixed.ne_str_bool (fin_bl I q (by simp))
    | int j => obtain ⟨t', rfl⟩ := ry; exact PySem.EqMixed.ne_str_int (fin_bl I q (by simp))
    | str j => obtain ⟨t', rfl⟩ := ry; exact ne_str (fin_bl I q (congrArg not dec_str))
    | _ => exact absurd (show false = true from hs) Bool.false_ne_true
  | byt i =>
    obtain ⟨t, rfl⟩ := rx
    cases y with
    | byt j => obtain ⟨t', rfl⟩ := ry; exact PySem.W.ne_bytes (fin_bl I q (congrArg not dec_byt))
    | _ => exact absurd (show false = true from hs) Bool.false_ne_true
  | _ => cases y <;> exact absurd (show false = true from hs) Bool.false_ne_true
theorem op_lt : OpR X (compareOp .Lt) (rI0 fun i j => .bl (decide (i < j))) := opB0 fun _ _ _ _ _ _ _ q => lt_int q
theorem op_le : OpR X (compareOp .LtE) (rI0 fun i j => .bl (decide (i ≤ j))) := opB0 fun _ _ _ _ _ _ _ q => le_int q
theorem op_gt : OpR X (compareOp .Gt) (rI0 fun i j => .bl (decide (j < i))) := opB0 fun _ _ _ _ _ _ _ q => gt_int q
theorem op_ge : OpR X (compareOp .GtE) (rI0 fun i j => .bl (decide (j ≤ i))) := opB0 fun _ _ _ _ _ _ _ q => ge_int q
theorem nomark (b : Expr) {op : CmpOp} (h : op ≠ .In := by decide) (h2 : op ≠ .NotIn := by decide) : behindInMarks op b = false := by
  have e1 : (op == CmpOp.In) = false := by cases op <;> first | rfl | exact absurd rfl h
  have e2 : (op == CmpOp.NotIn) = false := by cases op <;> first | rfl | exact absurd rfl h2
  cases b <;> simp [behindInMarks, e1, e2]
theorem pe_cmpR {op : CmpOp} {r : R2} (ho : OpR X (compareOp op) r) (ha : PE X a ta) (hb : PE X b tb) (hm : behindInMarks op b = false) : PE X (.Compare a [op] [b] pos) (tOp r ta tb) := by
  intro pins s σ H Q I h
  exact wpAny_Compare1 (binT ha hb I h fun v u s2 x y H2 I2 rx ry q => ho pins s2 σ H2 x y v u Q I2 rx ry q) hm
def tTest (t : TE) : TT := fun σ H Q => t σ H fun x H' => ∃ k, x = .bl k ∧ Q k H'
theorem pt_cmpR {op : CmpOp} {r : R2} (ho : OpR X (compareOp op) r) (ha : PE X a ta) (hb : PE X b tb) (hm : behindInMarks op b = false) : PT X (.Compare a [op] [b] pos) (tTest (tOp r ta tb)) := by
  intro pins s σ H Q I h
  refine wpAny_isTrue_Compare1 (thn (ha pins s σ H _ I h) fun v s1 ⟨x, H1, I1, r1, q1⟩ => thn (hb pins s1 σ H1 _ I1 q1) fun u s2 ⟨y, H2, I2, r2, q2⟩ =>
    thn (ho pins s2 σ H2 x y v u _ I2 r1 r2 q2) fun c s3 ⟨z, H3, I3, r3, k, e, q3⟩ => ?_) hm
  subst e
  cases r3
  exact wpAny_truthy_bool ⟨H3, I3, q3⟩
def tChain (r r' : R2) (ta tb tc : TE) : TE := fun σ H Q => ta σ H fun x H1 => tb σ H1 fun y H2 => r x y H2 fun z H3 => ∃ k, z = .bl k ∧
  (if k = true then tc σ H3 fun w' H4 => r' y w' H4 Q else Q (.bl false) H3)
theorem pe_chain {op op' : CmpOp} {r r' : R2} (ho : OpR X (compareOp op) r) (ho' : OpR X (compareOp op') r') (ha : PE X a ta) (hb : PE X b tb) (hc : PE X c tc)
    (hm : lastMarks [op, op'] [b, c] = false := by with_unfolding_all rfl) : PE X (.Compare a [op, op'] [b, c] pos) (tChain r r' ta tb tc) := by
  intro pins s σ H Q I h
  refine Compare_chain (thn (ha pins s σ H _ I h) fun v s1 ⟨x, H1, I1, r1, q1⟩ => chain_link (thn (hb pins s1 σ H1 _ I1 q1) fun u s2 ⟨y, H2, I2, r2, q2⟩ =>
    thn (ho pins s2 σ H2 x y v u _ I2 r1 r2 q2) fun d s3 ⟨z, H3, I3, r3, k, e, q3⟩ => ?_)) hm
  subst e
  cases r3
  refine wpAny_truthy_bool ?_
  cases k with
  | false => exact ite_ff ⟨.bl false, H3, I3, rfl, q3⟩
  | true => exact ite_tt (chain_last (thn (hc pins s3 σ H3 _ I3 q3) fun w' s4 ⟨z', H4, I4, r4, q4⟩ => ho' pins s4 σ H4 y z' u w' Q I4 r2 r4 q4))
theorem line63 : (sizeLine : Nat) < 2 ^ 63 := by rw [sizeLine_eq]; decide
theorem vals1 {x : V} {us : List Value} (r : Vals [x] us) : ∃ u, us = [u] ∧ RelV x u := by
  cases r with
  | cons r1 r2 => cases r2; exact ⟨_, rfl, r1⟩
theorem vals2 {x y : V} {us : List Value} (r : Vals [x, y] us) : ∃ u w', us = [u, w'] ∧ RelV x u ∧ RelV y w' := by
  cases r with
  | cons r1 r2 =>
    cases r2 with
    | cons r3 r4 => cases r4; exact ⟨_, _, rfl, r1, r3⟩
theorem call_min2 (hc : X.calm = true) : CallR X (.builtin "min") (fun xs H Q => ∃ i j, xs = [.int i, .int j] ∧ Q (.int (if j < i then j else i)) H) := by
  intro pins s σ H xs us Q I r h
  obtain ⟨i, j, rfl, q⟩ := h
  obtain ⟨u, w', rfl, ⟨t, rfl⟩, ⟨t', rfl⟩⟩ := vals2 r
  refine min_two_ints (I.ok.hd hc) fun h' tk k => ⟨_, H, I.kept k, ?_, q⟩
  by_cases hj : j < i
  · rw [if_pos hj, if_pos hj]; exact ⟨_, rfl⟩
  · rw [if_neg hj, if_neg hj]; exact ⟨_, rfl⟩
def LenV (K : PySem.W.Frag) (x : V) (H : Hp) (n : Nat) : Prop :=
  match x with
  | .str y => y.length ≤ sizeLine ∧ n = y.length
  | .byt y => y.size ≤ sizeLine ∧ n = y.size
  | .ref p => (∃ xs, SqL K H p xs ∧ n = xs.length) ∨ ∃ xs, SqT K H p xs ∧ n = xs.length
  | _ => False
theorem call_len : CallR X (.builtin "len") (fun xs H Q => ∃ x n, xs = [x] ∧ LenV X.K x H n ∧ Q (.int n) H) := by
  intro pins s σ H xs us Q I r h
  obtain ⟨x, n, rfl, e, q⟩ := h
  obtain ⟨u, rfl, rx⟩ := vals1 r
  have hl := line63
  have hs : sizeLine = 16777216 := sizeLine_eq
  cases x with
  | str y =>
    obtain ⟨t, rfl⟩ := rx
    obtain ⟨hy, e'⟩ : y.length ≤ sizeLine ∧ n = y.length := e
    subst e'
    exact len_str (by omega) ⟨.int _, H, I.tok _, ⟨_, rfl⟩, q⟩
  | byt y =>
    obtain ⟨t, rfl⟩ := rx
    obtain ⟨hy, e'⟩ : y.size ≤ sizeLine ∧ n = y.size := e
    subst e'
    exact PySem.W.len_bytes (by omega) ⟨.int _, H, I.tok _, ⟨_, rfl⟩, q⟩
  | ref p =>
    cases rx
    have e' : (∃ xs, SqL X.K H p xs ∧ n = xs.length) ∨ ∃ xs, SqT X.K H p xs ∧ n = xs.length := e
    rcases e' with ⟨xs, hx, e'⟩ | ⟨xs, hx, e'⟩
    · subst e'
      obtain ⟨its, r', pl, hz⟩ := I.list hx
      have hlen := r'.length
      exact Calls.call_len_list pl.isList (by simp only [List.size_toArray]; omega) ⟨.int xs.length, H, I.tok _, ⟨_, by simp only [List.size_toArray]; rw [hlen]⟩, q⟩
    · subst e'
      obtain ⟨its, r', pl, hz⟩ := I.tuple hx
      have hlen := r'.length
      exact len_tuple pl (by simp only [List.size_toArray]; omega) ⟨.int xs.length, H, I.tok _, ⟨_, by simp only [List.size_toArray]; rw [hlen]⟩, q⟩
  | _ => exact (show False from e).elim
end
end L2
namespace L2
open PySem PySem.Spec PyProof.Rows
structure ObjM (h : Heap) (x dx C : Addr) (mA : Str → Option Value) : Prop where
  obj : h.get? x = some (PySem.W.instObj C dx)
  ns : h.Ns1 dx mA
  ne : dx ≠ x
theorem lookIn_ns {h : Heap} {dx : Addr} {mA : Str → Option Value} (n : h.Ns1 dx mA) : ∃ od, h.get? dx = some od ∧ ∀ name, PySem.W.lookIn name od = some (mA name) := by
  obtain ⟨o, es, ep, ho, hd, hk, _, hm⟩ := n
  refine ⟨o, ho, fun name => ?_⟩
  have e := hm name
  unfold nsFind findBy at e
  rw [← Array.find?_toList] at e
  unfold PySem.W.lookIn
  rw [hd]
  dsimp only
  split
  · rename_i y q
    rw [q] at e
    exact congrArg some e
  · rename_i q
    rw [q] at e
    have a : es.toList.any (·.refKey) = false := by
      rw [List.any_eq_false]
      intro y hy
      obtain ⟨z, t, hkey⟩ := hk y (Array.mem_toList_iff.mp hy)
      simp [DictEntry.refKey, hkey]
    have a' : ¬ es.toList.any (·.refKey) = true := by rw [a]; exact Bool.false_ne_true
    rw [if_neg a']
    exact congrArg some e
theorem ObjM.look {h : Heap} {x dx C : Addr} {mA : Str → Option Value} (I : ObjM h x dx C mA) : ∃ od, PySem.W.InstAt h x (PySem.W.instObj C dx) C (some od) ∧ ∀ name, PySem.W.lookIn name od = some (mA name) :=
  let ⟨od, ho, hl⟩ := lookIn_ns I.ns
  ⟨od, ⟨I.obj, rfl, rfl, ho⟩, hl⟩
section
variable {prog : Program} {w : World} {A : Around} {E : Value → Shared → Prop} {s : Shared} {K : PySem.W.Frag} {x dx C f : Addr} {mA : Str → Option Value} {name : Str} {v : Value}
theorem set_map {ns : List Str} {Q : Unit → Shared → Prop} (X : K.In s.heap) (I : ObjM s.heap x dx C mA)
    (hs : PySem.W.findIn K (.ref C) "__setattr__" = some (some (.builtin "object.__setattr__"))) (hp : PySem.W.plainOver K C = true) (ht : PySem.W.takerIn K C name = some none) (hh : PySem.W.hasDictIn K C = true)
    (hw : PySem.Within mA ns) (hsz : ns.length ≤ sizeLine)
    (h : ∀ h', ObjM h' x dx C (fun y => if y = name then some v else mA y) → Heap.SameBut dx s.heap h' → Q () { s with heap := h', toks := s.toks + 2 }) :
    wpAny (model prog w) A (setAttr (.ref x) name v) Q E s := by
  obtain ⟨od, J, hl⟩ := I.look
  refine PySem.W.set_plain X J hs (PySem.W.osa_open (s := { s with toks := s.toks + 1 }) (r := none) X J hp ht fun b => ?_)
  obtain ⟨cd, hc, hd'⟩ := PySem.W.any_some hh
  have hx : s.heap.get? x = some ⟨.ref C, some dx, .plain, #[]⟩ := I.obj
  refine wpAny_bind (wpAny_pure (wpAny_bind (wpAny_bind (wpAny_loadPart hx (wpAny_bind (PySem.W.Looks.here (s := { s with toks := s.toks + 1 }) (PySem.W.looks_clsIn X hc) ?_))))))
  rw [hd']
  refine wpAny_pure (a := some dx) (wpAny_bind (wpAny_pure (wpAny_bind ?_)))
  refine wpAny_nsSet1 (s := { s with toks := s.toks + 1 }) I.ns fun h' hn2 hs2 => ?_
  obtain ⟨oD, esD, epD, hoD, hdD, hcD⟩ := hn2.count (PySem.Within.cons name v hw)
  refine wpAny_bind (wpAny_lookBehind hoD (by rw [hdD]; exact pastItsLine_dict (Nat.le_trans hcD (by rw [List.length_cons]; omega))) ?_)
  exact wpAny_pure (h _ ⟨(hs2.2 _ (Ne.symm I.ne)).trans I.obj, hn2, I.ne⟩ hs2)
end
def putF (f : Str) (v : V) : List (Str × V) → List (Str × V)
  | [] => [(f, v)]
  | (g, x) :: r => if g = f then (g, v) :: r else (g, x) :: putF f v r
theorem RelO.none_of {o : Option Value} (r : RelO none o) : o = none := by
  cases o with
  | none => rfl
  | some u => exact (show False from r).elim
section
variable {P : Program} {w : World} {H H' : Hp} {h h' : Heap} {a C dx : Addr} {fs fs' : List (Str × V)}
theorem ins_get (hok : HOk P w H h) (e : H a = some (.ins C dx fs)) : ∃ mA, ObjM h a dx C mA ∧ (∀ f, RelO (fs.lookup f) (mA f)) ∧ PySem.Within mA (fs.map (·.1)) ∧ fs.length ≤ 1000 ∧ H dx = some (.own a) := by
  obtain ⟨d, z, ne, ob, mA, n, r, q⟩ := (show ObjOk P w H h a (.ins C dx fs) from hok a _ e)
  exact ⟨mA, ⟨ob, n, ne⟩, r, q, z, d⟩
end
structure Cls (K : PySem.W.Frag) (C : Addr) : Prop where
  pg : PySem.W.plainGet K C Str.empty = true
  hd : PySem.W.hasDictIn K C = true
  po : PySem.W.plainOver K C = true
  sa : PySem.W.findIn K (.ref C) "__setattr__" = some (some (.builtin "object.__setattr__"))
theorem Cls.get {K : PySem.W.Frag} {C : Addr} (c : Cls K C) (f : Str) : PySem.W.plainGet K C f = true := c.pg
structure Con (K : PySem.W.Frag) (C : Addr) (f : Str) (v : V) (u : Value) : Prop where
  at_ : PySem.W.findIn K (.ref C) f = some (some u)
  rel : RelV v u
  get : PySem.W.specialIn K u "__get__" = some none
  cp : PySem.W.copiedNames.contains f = false
structure Meth (K : PySem.W.Frag) (C : Addr) (m : Str) (f : Addr) : Prop where
  at_ : PySem.W.findIn K (.ref C) m = some (some (.ref f))
  fn : PySem.W.isFn K (.ref f) = true
  kp : PySem.W.keepIn K (.ref f) = true
section
variable {X : Cx} {pins : List (Addr × Obj)} {σ : St} {H : Hp} {s : Shared} {a C dx : Addr} {fs : List (Str × V)} {f : Str} {v : V} {A : Around} {E : Value → Shared → Prop}
theorem Inv.made (I : Inv X pins σ H s) : Inv X pins σ (upd (upd H s.heap.objs.size (.own (s.heap.objs.size + 1))) (s.heap.objs.size + 1) (.ins C s.heap.objs.size []))
    { s with heap := (s.heap.push PySem.W.emptyDict).push (PySem.W.instObj C s.heap.objs.size) } := by
  have e1 : (s.heap.push PySem.W.emptyDict).get? s.heap.objs.size = some PySem.W.emptyDict := Heap.get?_push_size s.heap rfl
  have e2 : ((s.heap.push PySem.W.emptyDict).push (PySem.W.instObj C s.heap.objs.size)).get? (s.heap.objs.size + 1) = some (PySem.W.instObj C s.heap.objs.size) := by
    have := Heap.get?_push_size (s.heap.push PySem.W.emptyDict) (o := PySem.W.instObj C s.heap.objs.size) rfl
    rwa [Heap.size_push] at this
  have e3 : (s.heap.push PySem.W.emptyDict).Ns s.heap.objs.size (fun _ => none) := ⟨PySem.W.emptyDict, #[], _, e1, rfl, (fun e he => absurd he (by simp)), fun _ => rfl⟩
  have I1 := I.laid (a := s.heap.objs.size) (o := .own (s.heap.objs.size + 1)) (h' := s.heap.push PySem.W.emptyDict) (t' := s.toks) (fun b u q => Heap.get?_push_of_some _ q) (Nat.le_refl _) ⟨_, e1⟩
  refine I1.laid (a := s.heap.objs.size + 1) (o := .ins C s.heap.objs.size []) (t' := s.toks) (fun b u q => Heap.get?_push_of_some _ q) (Nat.le_of_eq (Heap.size_push _ _)) ?_
  have ne : s.heap.objs.size ≠ s.heap.objs.size + 1 := Nat.ne_of_lt (Nat.lt_succ_self _)
  refine ⟨by rw [upd_ne ne, upd_same], Nat.zero_le _, ne, e2, fun _ => none, (Heap.Ns1.of_empty e3).at fun o q => Heap.get?_push_of_some _ q, fun _ => True.intro, fun y hy => absurd rfl hy⟩
end
section
variable {X : Cx} {o e value : Expr} {f : Str} {pos pos' tpos : Pos} {ta tv : TE}
end
section
variable {X : Cx} {pins : List (Addr × Obj)} {σ : St} {H : Hp} {s : Shared} {A : Around} {E : Value → Shared → Prop} {Q : Value → Shared → Prop} {c : Value} {b : Bool}
inductive TyOf (K : PySem.W.Frag) (H : Hp) : V → Value → Prop where
  | non : TyOf K H .non (.type "NoneType")
  | bl (x : Bool) : TyOf K H (.bl x) (.type "bool")
  | int (i : Int) : TyOf K H (.int i) (.type "int")
  | str (x : Str) : TyOf K H (.str x) (.type "str")
  | flt (x : UInt64) : TyOf K H (.flt x) (.type "float")
  | lst {a : Addr} {xs : List V} (e : H a = some (.lst xs)) : TyOf K H (.ref a) (.type "list")
  | frz {a : Addr} {o : Obj} {xs : List V} (e : H a = some (.frz o (.lst xs))) : TyOf K H (.ref a) (.type "list")
  | tup {a : Addr} {xs : List V} (e : H a = some (.tup xs)) : TyOf K H (.ref a) (.type "tuple")
  | dK {a : Addr} {kvs : List (Key × V)} (e : H a = some (.dK kvs)) : TyOf K H (.ref a) (.type "dict")
  | dT {a : Addr} {kvs : List (List Key × V)} (e : H a = some (.dT kvs)) : TyOf K H (.ref a) (.type "dict")
  | ins {a C dx : Addr} {fs : List (Str × V)} (e : H a = some (.ins C dx fs)) (cl : Cls K C) (ha : PySem.W.findIn K (.ref C) "__class__" = some (some (.builtin "object.__class__")))
      (hn : PySem.W.specialIn K (.builtin "object.__class__") "__get__" = some (some (.builtin "getset_descriptor.__get__"))) (htk : PySem.W.takesIn K (.builtin "object.__class__") = some true)
      (hm : PySem.W.mroIn K C (.type "object") = some true) : TyOf K H (.ref a) (.ref C)
theorem isinst_ok {x : V} {u t : Value} (I : Inv X pins σ H s) (rx : RelV x u) (ty : TyOf X.K H x t) (e : PySem.W.kitOne X.K t c = some b) (h : ∀ tk, Q (.bool b) { s with toks := tk }) :
    wpAny (model X.prog X.w) A (call (.builtin "isinstance") [u, c]) Q E s := by
  cases ty with
  | non => cases (show u = Value.none from rx); exact PySem.W.kia_one PySem.W.kitx_none I.kIn True.intro e (fun z => nomatch z) h
  | bl y => cases (show u = Value.bool y from rx); exact PySem.W.kia_one PySem.W.kitx_bool I.kIn True.intro e (fun z => nomatch z) h
  | int i => obtain ⟨t, q⟩ := (show ∃ t, u = Value.int i t from rx); cases q; exact PySem.W.kia_one PySem.W.kitx_int I.kIn True.intro e (fun z => nomatch z) h
  | str y => obtain ⟨t, q⟩ := (show ∃ t, u = Value.str y t from rx); cases q; exact PySem.W.kia_one PySem.W.kitx_str I.kIn True.intro e (fun z => nomatch z) h
  | flt y => obtain ⟨t, q⟩ := (show ∃ t, u = Value.float y t from rx); cases q; exact PySem.W.kia_one PySem.W.kitx_float I.kIn True.intro e (fun z => nomatch z) h
  | @lst a xs ea =>
    cases (show u = Value.ref a from rx)
    obtain ⟨_, _, n, _, h1⟩ := (show ObjOk X.prog X.w H s.heap a (.lst xs) from I.hok a _ ea)
    exact PySem.W.kia_one PySem.W.kitx_list I.kIn ⟨_, h1, rfl⟩ e (fun z => nomatch z) h
  | @frz a ob xs ea =>
    cases (show u = Value.ref a from rx)
    obtain ⟨_, _, _, n, _, h1⟩ := (show ObjOk X.prog X.w H s.heap a (.frz ob (.lst xs)) from I.hok a _ ea)
    exact PySem.W.kia_one PySem.W.kitx_list I.kIn ⟨_, h1, rfl⟩ e (fun z => nomatch z) h
  | @tup a xs ea =>
    cases (show u = Value.ref a from rx)
    obtain ⟨_, _, _, p⟩ := (show ObjOk X.prog X.w H s.heap a (.tup xs) from I.hok a _ ea)
    obtain ⟨o, h1, h2, _⟩ := p
    exact PySem.W.kia_one PySem.W.kitx_tuple I.kIn ⟨o, h1, h2⟩ e (fun z => nomatch z) h
  | @dK a kvs ea =>
    cases (show u = Value.ref a from rx)
    obtain ⟨_, _, vs, _, p⟩ := (show ObjOk X.prog X.w H s.heap a (.dK kvs) from I.hok a _ ea)
    obtain ⟨o, es, ep, h1, h2, _⟩ := p
    exact PySem.W.kia_one PySem.W.kitx_dict I.kIn ⟨o, h1, h2.1⟩ e (fun z => nomatch z) h
  | @dT a kvs ea =>
    cases (show u = Value.ref a from rx)
    obtain ⟨_, _, xs, _, o, es, ep, h1, h2, _⟩ := (show ObjOk X.prog X.w H s.heap a (.dT kvs) from I.hok a _ ea)
    exact PySem.W.kia_one PySem.W.kitx_dict I.kIn ⟨o, h1, h2.1⟩ e (fun z => nomatch z) h
  | @ins a C dx fs ea cl ha hn htk hm =>
    cases (show u = Value.ref a from rx)
    obtain ⟨mA, O, _⟩ := ins_get I.hok ea
    obtain ⟨od, J, _⟩ := O.look
    exact PySem.W.kia_one (PySem.W.kitx_own (cl.get _) cl.hd ha hn htk hm) I.kIn J e (fun z => nomatch z) h
end
end L2
namespace L2
open PySem PySem.Spec PyProof.Rows
structure Room (k : Nat) (A : Around) : Prop where
  hd : A.handled = none
  dp : A.depth + 3 * k + 5 < recursionLimit
  un : A.units + 16 * k + 200 < cLine
theorem Room.mono {j k : Nat} {A : Around} (r : Room k A) (h : j ≤ k) : Room j A := ⟨r.hd, by have := r.dp; omega, by have := r.un; omega⟩
theorem Room.deeper {k : Nat} {A : Around} (r : Room (k + 1) A) (env : Env) : Room k (A.deeper env) :=
  ⟨r.hd, by have := r.dp; show A.depth + 1 + 3 * k + 5 < _; omega, by have := r.un; show A.units + 3 + 16 * k + 200 < _; omega⟩
theorem Room.in1 {k : Nat} {A : Around} (r : Room (k + 1) A) : Room k A.in1 :=
  ⟨r.hd, by have := r.dp; show A.depth + 3 * k + 5 < _; omega, by have := r.un; show A.units + 1 + 16 * k + 200 < _; omega⟩
theorem Room.depth {k : Nat} {A : Around} (r : Room k A) : A.depth < recursionLimit := by have := r.dp; omega
theorem Room.units {k : Nat} {A : Around} (r : Room k A) : A.units + 64 < cLine := by have := r.un; omega
def tNil : TA := fun _ H Q => Q [] H
def tCons (ta : TE) (tr : TA) : TA := fun σ H Q => ta σ H fun x H1 => tr σ H1 fun xs H2 => Q (x :: xs) H2
section
variable {X : Cx} {e : Expr} {es : List Expr} {te : TE} {t : TA} {pos : Pos}
theorem pa_nil : PA X [] tNil := fun _ _ _ _ H Q I h => Calls.spliced_nil ⟨[], H, I, .nil, h⟩
theorem pa_cons (ha : PE X e te) (hr : PA X es t) (hs : starEach (e :: es) X.env = (false, eval e X.env) :: starEach es X.env := by rfl) : PA X (e :: es) (tCons te t) := by
  intro pos pins s σ H Q I h
  rw [hs]
  show wpAny _ _ (spliced ((false, eval e X.env) :: backTo pos (starEach es X.env))) _ _ s
  refine Calls.spliced_cons (thn (ha pins s σ H _ I h) fun u s1 ⟨x, H1, I1, r1, q1⟩ => ?_)
  exact thn (hr pos pins s1 σ H1 _ I1 q1) fun us s2 ⟨xs, H2, I2, r2, q2⟩ => ⟨x :: xs, H2, I2, .cons r1 r2, q2⟩
def tTup (t : TA) : TE := fun σ H Q => t σ H fun xs H1 => xs.length ≤ sizeLine ∧ ∀ p, H1 p = none → Q (.ref p) (upd H1 p (.tup xs))
def tLst (t : TA) : TE := fun σ H Q => t σ H fun xs H1 => xs.length ≤ sizeLine ∧ ∀ p, H1 p = none → Q (.ref p) (upd H1 p (.lst xs))
theorem pe_tup {x1} (h : PA X es t) : PE X (.Tuple es x1 pos) (tTup t) := by
  intro pins s σ H Q I hq
  refine wpAny_Tuple_spliced (thn (h pos pins s σ H _ I hq) fun us s1 ⟨xs, H1, I1, r, z, q⟩ => ⟨by rw [← r.length]; exact z, ?_⟩)
  have hf : H1 s1.heap.objs.size = none := I1.hok.fresh (Nat.le_refl _)
  refine ⟨.ref s1.heap.objs.size, upd H1 s1.heap.objs.size (.tup xs), I1.laid (t' := s1.toks) (fun b u e => Heap.get?_push_of_some _ e) (Nat.le_refl _) ?_, rfl, q _ hf⟩
  exact ⟨z, us, r, ⟨_, Heap.get?_push_size _ rfl, rfl, _, rfl⟩⟩
theorem pe_lst (h : PA X es t) : PE X (.List es pos) (tLst t) := by
  intro pins s σ H Q I hq
  refine wpAny_List_spliced (thn (h pos pins s σ H _ I hq) fun us s1 ⟨xs, H1, I1, r, z, q⟩ => ⟨by rw [← r.length]; exact z, ?_⟩)
  have hf : H1 s1.heap.objs.size = none := I1.hok.fresh (Nat.le_refl _)
  refine ⟨.ref s1.heap.objs.size, upd H1 s1.heap.objs.size (.lst xs), I1.laid (t' := s1.toks) (fun b u e => Heap.get?_push_of_some _ e) (Nat.le_refl _) ?_, rfl, q _ hf⟩
  exact ⟨z, us, 0, r, Heap.get?_push_size _ rfl⟩
end
abbrev Sp := List V → Hp → VK → XK → Prop
abbrev CXT := List Env → Hp → Shared → XK → Value → Shared → Prop
structure Env0 (P : Program) (w : World) (K : PySem.W.Frag) (mg : Str → Option Value) (base : Heap) (A : Around) (outer : List Env) (s : Shared) (H : Hp) : Prop where
  frames : A.frames = some outer
  mod : Mod K mg base
  bs : ∀ b o, base.get? b = some o → s.heap.get? b = some o ∧ H b = none
  bsz : base.objs.size ≤ s.heap.objs.size
  funs : s.heap.FunFrames base outer
  frf : ∀ b ∈ frs outer, H b = none
  hok : HOk P w H s.heap
  bare : AllBare s.gens
def CE (outer : List Env) (P : Program) (w : World) (H : Hp) (s : Shared) (Q : VK) (u : Value) (s' : Shared) : Prop :=
  ∃ v H', s'.os = s.os ∧ AllBare s'.gens ∧ Un (frs outer) [] H H' s.heap s'.heap ∧ HOk P w H' s'.heap ∧ RelV v u ∧ Q v H'
def CR (CX : CXT) (outer : List Env) (P : Program) (w : World) (H : Hp) (s : Shared) (Q : VK) (E : XK) (r : Result) (s' : Shared) : Prop :=
  match r with
  | .ok (.ret u) => CE outer P w H s Q u s'
  | .ok _ => False
  | .error e => CX outer H s E e s'
structure FnOk (P : Program) (w : World) (K : PySem.W.Frag) (mg : Str → Option Value) (base : Heap) (CX : CXT) (k : Nat) (f : Addr) (fd : FuncData) (ps : List Str) (sp : Sp) : Prop where
  len : ∀ vs H Q E, sp vs H Q E → vs.length = ps.length
  run : ∀ (A : Around) (outer : List Env) (s : Shared) (H : Hp) (args : Args) (us : List Value) (vs : List V) (Q : VK) (E : XK), Room k A → Env0 P w K mg base A outer s H → BindsTo s fd args (ps.zip us) → Vals vs us → sp vs H Q E →
    codeAny (model P w) A (.call (.ref f) args) (CR CX outer P w H s Q E) s
theorem FnOk.mono {P : Program} {w : World} {K : PySem.W.Frag} {mg : Str → Option Value} {base : Heap} {CX : CXT} {j k : Nat} {f : Addr} {fd : FuncData} {ps : List Str} {sp : Sp} (F : FnOk P w K mg base CX j f fd ps sp) (h : j ≤ k) :
    FnOk P w K mg base CX k f fd ps sp := ⟨F.len, fun A outer s H args us vs Q E hr => F.run A outer s H args us vs Q E (hr.mono h)⟩
theorem FnOk.imp {P : Program} {w : World} {K : PySem.W.Frag} {mg : Str → Option Value} {base : Heap} {CX : CXT} {k : Nat} {f : Addr} {fd : FuncData} {ps : List Str} {sp sp' : Sp} (F : FnOk P w K mg base CX k f fd ps sp)
    (h : ∀ vs H Q E, sp' vs H Q E → sp vs H Q E) : FnOk P w K mg base CX k f fd ps sp' :=
  ⟨fun vs H Q E q => F.len vs H Q E (h _ _ _ _ q), fun A outer s H args us vs Q E hr he hb hv hs => F.run A outer s H args us vs Q E hr he hb hv (h _ _ _ _ hs)⟩
theorem Env0.in1 {P : Program} {w : World} {K : PySem.W.Frag} {mg : Str → Option Value} {base : Heap} {A : Around} {outer : List Env} {s : Shared} {H : Hp} (e : Env0 P w K mg base A outer s H) :
    Env0 P w K mg base A.in1 outer s H := ⟨e.frames, e.mod, e.bs, e.bsz, e.funs, e.frf, e.hok, e.bare⟩
section
variable {X : Cx} {pins : List (Addr × Obj)} {σ : St} {H : Hp} {s s' : Shared}
theorem Inv.env0 (I : Inv X pins σ H s) : Env0 X.prog X.w X.K X.mg X.base X.A X.stack s H :=
  ⟨I.ok.frames, I.ok.mod, I.bs, Nat.le_trans I.ok.bsz I.sz, I.stack, I.stkFree, I.hok, I.bare⟩
theorem Inv.after {Q : VK} {u : Value} (I : Inv X pins σ H s) (h : CE X.stack X.prog X.w H s Q u s') : EP X pins σ Q u s' := by
  obtain ⟨v, H', os, bare, un, hok, r, q⟩ := h
  obtain ⟨hh, g, d, t, os'⟩ := s'
  obtain rfl : os' = s.os := os
  exact ⟨v, H', I.call (h' := hh) (g' := g) (d' := d) (t' := t) (ch := []) un hok bare (fun b z => absurd z (by simp)), r, q⟩
end
def tCall (sp : Sp) (dvs : List V) (E : XK) (t : TA) : TE := fun σ H Q => t σ H fun vs H1 => sp (vs ++ dvs) H1 Q E
def Binds (K : PySem.W.Frag) (fd : FuncData) (ps : List Str) (ds : List Value) : Prop :=
  ∀ (s : Shared) (us : List Value), K.In s.heap → (us ++ ds).length = ps.length → BindsTo s fd ⟨us, []⟩ (ps.zip (us ++ ds))
theorem Binds.all {K : PySem.W.Frag} {fd : FuncData} {ps : List Str} (h : ∀ us : List Value, us.length = ps.length → bindArgs fd ⟨us, []⟩ = pure (ps.zip us)) : Binds K fd ps [] := fun s us _ hl => by
  rw [List.append_nil] at hl ⊢
  exact .of_eq (h us hl)
def Passes (CX : CXT) (X : Cx) (E : XK) : Prop := ∀ (pins : List (Addr × Obj)) (σ : St) (H : Hp) (s : Shared) (e : Value) (s' : Shared), Inv X pins σ H s → CX X.stack H s E e s' → X.xe e s'
section
variable {X : Cx} {CX : CXT} {k : Nat} {f C : Addr} {fd : FuncData} {ps : List Str} {sp : Sp} {dvs : List V} {ds : List Value} {E : XK} {x m : Str} {p pos apos : Pos} {e o : Expr} {es : List Expr} {ta : TE} {t : TA}
theorem run_fn {pins : List (Addr × Obj)} {σ : St} {H : Hp} {s : Shared} {Q : VK} {us : List Value} {vs : List V} (F : FnOk X.prog X.w X.K X.mg X.base CX k f fd ps sp) (hr : Room k X.A) (hb : Binds X.K fd ps ds) (hd : Vals dvs ds) (hx : Passes CX X E)
    (I : Inv X pins σ H s) (r : Vals vs us) (h : sp (vs ++ dvs) H Q E) : wpAny (model X.prog X.w) X.A (call (.ref f) us) (EP X pins σ Q) X.xe s := by
  have r2 : Vals (vs ++ dvs) (us ++ ds) := r.append hd
  have hl : (us ++ ds).length = ps.length := by rw [← r2.length]; exact F.len _ _ _ _ h
  refine wpAny_call (codeAny_mono (F.run X.A X.stack s H ⟨us, []⟩ (us ++ ds) (vs ++ dvs) Q E hr I.env0 (hb s us I.kIn hl) r2 h) fun r s' hq => ?_)
  cases r with
  | error e => exact hx pins σ H s e s' I hq
  | ok fl =>
    cases fl with
    | ret u => exact I.after hq
    | next => exact False.elim hq
    | brk => exact False.elim hq
    | cont => exact False.elim hq
theorem pe_call (F : FnOk X.prog X.w X.K X.mg X.base CX k f fd ps sp) (hr : Room k X.A) (hg : Gl X x) (hm : X.mg x = some (.ref f)) (hk : PySem.W.keepIn X.K (.ref f) = true) (hb : Binds X.K fd ps ds) (hd : Vals dvs ds) (hx : Passes CX X E)
    (ha : PA X (e :: es) t) (hdb : (x == ("__debug__" : Str)) = false := by decide) (he : starEach (e :: es) X.env = (false, eval e X.env) :: starEach es X.env := by rfl) (hpl : (backTo pos (starEach es X.env)).any (·.1) = false := by rfl) :
    PE X (.Call (.Name x p) (e :: es) [] pos) (tCall sp dvs E t) := by
  intro pins s σ H Q I h
  refine wpAny_Call_Name_kw (ld_glob I hg hm ?_ hdb)
  refine PySem.W.callWith_K (h₀ := X.base) I.ok.mod.kin hk (thn (ha pos pins s σ H _ I h) fun us s1 ⟨vs, H1, I1, r, q⟩ => ⟨I1.kIn, ?_⟩) he hpl
  exact run_fn F hr hb hd hx I1 r q
structure Mk (K : PySem.W.Frag) (C f : Addr) : Prop where
  makes : PySem.W.makesIn K C = true
  init : PySem.W.findIn K (.ref C) "__init__" = some (some (.ref f))
  fn : PySem.W.isFn K (.ref f) = true
  kp : PySem.W.keepIn K (.ref C) = true
end
section
variable {X : Cx} {CX : CXT} {k : Nat} {f C : Addr} {fd : FuncData} {ps ks : List Str} {sp : Sp} {E : XK} {x m : Str} {p pos apos kpos : Pos} {e o : Expr} {es : List Expr} {kws : List Keyword} {te ta : TE} {t tk : TA} {nm : Option Str}
structure KBinds (K : PySem.W.Frag) (fd : FuncData) (ps ks : List Str) (g : List Value → List Value → List Value) (gV : List V → List V → List V) : Prop where
  to : ∀ (s : Shared) (us ws : List Value), K.In s.heap → (g us ws).length = ps.length → BindsTo s fd ⟨us, ks.zip ws⟩ (ps.zip (g us ws))
  rel : ∀ {vs : List V} {us : List Value} {zs : List V} {ws : List Value}, Vals vs us → Vals zs ws → Vals (gV vs zs) (g us ws)
variable {g : List Value → List Value → List Value} {gV : List V → List V → List V}
end
structure FnScope (N P : List Str) (sc : Scope) : Prop where
  kind : sc.kind = .function
  co : sc.isCoroutine = false
  gen : sc.isGenerator = false
  nd : N.Nodup
  pre : N.take P.length = P
  par : ∀ x ∈ P, sc.names.lookup x = some .local ∨ sc.names.lookup x = some .cell
  nofree : ∀ y ∈ sc.names, y.2 ≠ .free
theorem bindL_out {kindOf : Str → Option NameKind} {x : Str} : ∀ {binds : List (Str × Value)} {m : Str → Option Value}, (∀ v, (x, v) ∉ binds) → bindL kindOf binds m x = m x
  | [], _, _ => rfl
  | (n, v) :: r, m, h => by
    unfold bindL
    rw [bindL_out fun w hw => h w (List.mem_cons_of_mem _ hw)]
    split
    · have : x ≠ n := by rintro rfl; exact h v List.mem_cons_self
      simp [this]
    · rfl
theorem bindC_out {kindOf : Str → Option NameKind} {x : Str} : ∀ {binds : List (Str × Value)} {m : Str → Option Value}, (∀ v, (x, v) ∉ binds) → bindC kindOf binds m x = m x
  | [], _, _ => rfl
  | (n, v) :: r, m, h => by
    unfold bindC
    rw [bindC_out fun w hw => h w (List.mem_cons_of_mem _ hw)]
    split
    · rfl
    · have : x ≠ n := by rintro rfl; exact h v List.mem_cons_self
      simp [this]
theorem bindL_get {kindOf : Str → Option NameKind} {x : Str} {v : Value} : ∀ {P : List Str} {vs : List Value} {i : Nat} {m : Str → Option Value}, P.Nodup → P[i]? = some x → vs[i]? = some v → kindOf x = some .local →
    bindL kindOf (P.zip vs) m x = some v
  | [], _, _, _, _, h, _, _ => by simp at h
  | _ :: _, [], _, _, _, _, h, _ => by simp at h
  | p :: P, w :: vs, 0, m, nd, h1, h2, hk => by
    simp at h1 h2; subst h1; subst h2
    show bindL kindOf ((p, w) :: P.zip vs) m p = _
    unfold bindL
    rw [bindL_out fun v hv => (List.nodup_cons.mp nd).1 (List.of_mem_zip hv).1, if_pos hk]
    simp
  | p :: P, w :: vs, i + 1, m, nd, h1, h2, hk => by
    show bindL kindOf ((p, w) :: P.zip vs) m x = _
    unfold bindL
    exact bindL_get (i := i) (List.nodup_cons.mp nd).2 (by simpa using h1) (by simpa using h2) hk
theorem bindC_get {kindOf : Str → Option NameKind} {x : Str} {v : Value} : ∀ {P : List Str} {vs : List Value} {i : Nat} {m : Str → Option Value}, P.Nodup → P[i]? = some x → vs[i]? = some v → kindOf x ≠ some .local →
    bindC kindOf (P.zip vs) m x = some v
  | [], _, _, _, _, h, _, _ => by simp at h
  | _ :: _, [], _, _, _, _, h, _ => by simp at h
  | p :: P, w :: vs, 0, m, nd, h1, h2, hk => by
    simp at h1 h2; subst h1; subst h2
    show bindC kindOf ((p, w) :: P.zip vs) m p = _
    unfold bindC
    rw [bindC_out fun v hv => (List.nodup_cons.mp nd).1 (List.of_mem_zip hv).1, if_neg hk]
    simp
  | p :: P, w :: vs, i + 1, m, nd, h1, h2, hk => by
    show bindC kindOf ((p, w) :: P.zip vs) m x = _
    unfold bindC
    exact bindC_get (i := i) (List.nodup_cons.mp nd).2 (by simpa using h1) (by simpa using h2) hk
def start (N : List Str) (vs : List V) : St := vs.map some ++ List.replicate (N.length - vs.length) none
def cxOf (CX : CXT) (P : Program) (w : World) (K : PySem.W.Frag) (mg : Str → Option Value) (base : Heap) (N : List Str) (qual : Str) (scope : Scope) (f : Addr) (cd : Value) (A : Around) (outer : List Env) (s : Shared) (H : Hp) (E : XK) : Cx where
  prog := P
  w := w
  K := K
  mg := mg
  base := base
  A := A.deeper (envOfC qual scope s.heap.objs.size f cd)
  N := N
  s₀ := s
  H₀ := H
  env := envOfC qual scope s.heap.objs.size f cd
  outer := outer
  stack := envOfC qual scope s.heap.objs.size f cd :: outer
  ex := []
  calm := true
  fn := fun _ => true
  pn := []
  xe := fun e s' => wpAny (model P w) (A.deeper (envOfC qual scope s.heap.objs.size f cd)) (leaving (envOfC qual scope s.heap.objs.size f cd) e) (fun _ s'' => CX outer H s E e s'') (fun e' s'' => CX outer H s E e' s'') s'
theorem cell_has {sc : Scope} {n : Nat} {x : Str} (h : sc.names.lookup x = some .cell) : ∃ c, (cellsFrom n sc.names []).lookup x = some c := by
  have q := PySem.W.cellsFrom_some sc.names n [] (.inl h)
  exact Option.isSome_iff_exists.mp q
theorem inv_start {CX : CXT} {P : Program} {w : World} {K : PySem.W.Frag} {mg : Str → Option Value} {base : Heap} {N ps : List Str} {qual : Str} {scope : Scope} {f : Addr} {cd : Value} {A : Around} {outer : List Env} {s s1 : Shared} {H : Hp} {E : XK} {us : List Value} {vs : List V}
    (S : FnScope N ps scope) (hd : A.handled = none) (e0 : Env0 P w K mg base A outer s H) (hl : vs.length = ps.length) (r : Vals vs us)
    (x : InCallC s s.heap.objs.size (bindL (envOfC qual scope s.heap.objs.size f cd).kindOf (ps.zip us) fun _ => none) (cellsFrom (s.heap.objs.size + 1) scope.names []) (bindC (envOfC qual scope s.heap.objs.size f cd).kindOf (ps.zip us) fun _ => none) s1) :
    Inv (cxOf CX P w K mg base N qual scope f cd A outer s H E) [] (start N vs) H s1 := by
  have hpl : ps.length ≤ N.length := by have := congrArg List.length S.pre; rw [List.length_take] at this; omega
  obtain ⟨h1, tk, rfl, hk⟩ := x.done
  have noA : ∀ b : Addr, b ∉ (cxOf CX P w K mg base N qual scope f cd A outer s H E).ex := fun b z => absurd (show b ∈ ([] : List Addr) from z) (by simp)
  refine ⟨⟨e0.mod, S.kind, rfl, rfl, Nat.le_refl _, fun y z c h1 h2 => ?_, fun y hy => ?_, fun y c _ h => ?_, fun _ => hd, Around.frames_deeper e0.frames, .inr ⟨rfl, rfl⟩, fun b z => absurd z (noA b), e0.bs, e0.bsz, fun b _ _ => noA b, fun b z => absurd z (noA b), e0.funs, e0.frf⟩,
    rfl, e0.bare, Un.kept hk, ⟨_, x.toInCall.ns, fun i y v h1 h2 h3 => ?_⟩, fun y c h => ⟨_, x.cell y c h⟩, e0.hok.fresh (Nat.le_refl _), fun y c h => ?_, fun p hp => absurd (show p ∈ ([] : List (Addr × Obj)) from hp) (by simp), e0.hok.kept hk, ?_⟩
  · exact name_of_addr x.apart (PySem.mem_of_lookup h1) (PySem.mem_of_lookup h2)
  · have hy : scope.names.lookup y = some .cell ∨ scope.names.lookup y = some .free := hy
    rcases hy with hy | hy
    · exact cell_has hy
    · exact absurd rfl (S.nofree _ (PySem.mem_of_lookup hy))
  · exact Nat.le_of_lt (x.above y c (PySem.mem_of_lookup h))
  · have hi : i < vs.length := by
      unfold start at h2
      by_cases hi : i < vs.length
      · exact hi
      · rw [List.getElem?_append_right (by simpa using hi)] at h2
        rw [List.getElem?_replicate] at h2
        split at h2 <;> cases h2
    have ha : vs[i]? = some v := by
      unfold start at h2
      rw [List.getElem?_append_left (by simpa using hi), List.getElem?_map] at h2
      cases e : vs[i]? with
      | none => rw [e] at h2; cases h2
      | some a => rw [e] at h2; cases h2; rfl
    obtain ⟨u, hu, rv⟩ := r.get ha
    have hp : ps[i]? = some y := by
      rw [← S.pre, List.getElem?_take_of_lt (by omega)]; exact h1
    have ndP : ps.Nodup := by rw [← S.pre]; exact S.nd.sublist (List.take_sublist _ _)
    refine ⟨u, rv, ?_⟩
    rcases S.par y (List.mem_of_getElem? hp) with k | k
    · exact .inl ⟨k, bindL_get ndP hp hu k⟩
    · obtain ⟨c, e⟩ := cell_has (n := s.heap.objs.size + 1) k
      refine .inr ⟨.inl k, c, e, ?_⟩
      have q := x.cell y c e
      rw [bindC_get ndP hp hu (by show scope.names.lookup y ≠ _; rw [k]; decide)] at q
      exact q
  · exact e0.hok.fresh (Nat.le_of_lt (x.above y c (PySem.mem_of_lookup h)))
  · unfold start
    show _ = N.length
    rw [List.length_append, List.length_map, List.length_replicate]
    omega
theorem fn_of {CX : CXT} {P : Program} {w : World} {K : PySem.W.Frag} {mg : Str → Option Value} {base : Heap} {k : Nat} {f : Addr} {name qual : Str} {params : Arguments} {body : List Stmt} {scope : Scope} {dV kV doc pm cdv ct oc : Value} {an od : Option Addr}
    {osl : Array (Option Value)} {N ps : List Str} {sp : Sp} (lk : K.lookup f = some ⟨oc, od, .func (PySem.W.fnOf name qual params body scope dV kV doc pm an cdv ct), osl⟩) (hcd : PySem.W.codeIn K cdv qual = true) (S : FnScope N ps scope)
    (len : ∀ vs H Q E, sp vs H Q E → vs.length = ps.length)
    (hbody : ∀ (A : Around) (outer : List Env) (s : Shared) (H : Hp) (vs : List V) (Q : VK) (E : XK), Room k (A.deeper (envOfC qual scope s.heap.objs.size f cdv)) → sp vs H Q E →
      ∃ t, PSs (cxOf CX P w K mg base N qual scope f cdv A outer s H E) body t ∧ t { nx := fun _ H' => Q .non H', rt := Q } (start N vs) H) :
    FnOk P w K mg base CX (k + 1) f (PySem.W.fnOf name qual params body scope dV kV doc pm an cdv ct) ps sp := by
  refine ⟨len, fun A outer s H args us vs Q E hr e0 hb r hsp => ?_⟩
  have hl := len _ _ _ _ hsp
  have KX : K.In s.heap := e0.mod.kin.keeps fun b o e => (e0.bs b o e).1
  have lim : s.heap.NoLimit := e0.mod.nolimit.keeps fun b o e => (e0.bs b o e).1
  have hkind : ∀ y ∈ ps.zip us, scope.names.lookup y.1 = some .local ∨ (scope.names.lookup y.1 = some .cell ∧ ((cellsFrom (s.heap.objs.size + 1) scope.names []).lookup y.1).isSome = true) := fun ⟨n, v⟩ hy => by
    rcases S.par n (List.of_mem_zip hy).1 with q | q
    · exact .inl q
    · exact .inr ⟨q, PySem.W.cellsFrom_some _ _ _ (.inl q)⟩
  refine codeAny_call_function hr.depth (KX _ _ lk) rfl S.co S.gen rfl (PySem.W.codeRec_of KX hcd) (hb _ _ _ _ ?_)
  refine wpAny_newFunctionEnv_cells S.kind hkind fun env he s1 x => ?_
  subst he
  refine ⟨lim.keeps x.toInCall.keep, codeAny_func ?_⟩
  obtain ⟨t, ht, hq⟩ := hbody A outer s H vs Q E (hr.deeper _) hsp
  have I : Inv (cxOf CX P w K mg base N qual scope f cdv A outer s H E) [] (start N vs) H s1 := inv_start S hr.hd e0 hl r x
  refine wpAny_mono (ht [] s1 (start N vs) H _ I hq) (fun fl s' hs => ?_) fun e s' hs => hs
  have fin : ∀ {σ' : St} {H' : Hp} {v : V} {u : Value}, Inv (cxOf CX P w K mg base N qual scope f cdv A outer s H E) [] σ' H' s' → RelV v u → Q v H' → CE outer P w H s Q u s' :=
    fun {σ' H' v u} J rv q => ⟨v, H', J.os, J.bare, J.base, J.hok, rv, q⟩
  cases fl with
  | ret u =>
    obtain ⟨v, σ', H', J, rv, q⟩ := hs
    exact fin J rv q
  | next =>
    obtain ⟨σ', H', J, q⟩ := hs
    exact fin (v := V.non) (u := Value.none) J rfl q
  | brk =>
    obtain ⟨_, _, _, q⟩ := hs
    exact False.elim q
  | cont =>
    obtain ⟨_, _, _, q⟩ := hs
    exact False.elim q
end L2
namespace L2
open PySem PySem.Spec PyProof.Rows
section
variable {X : Cx} {x : Str} {p pos : Pos} {e : Expr} {es : List Expr} {t : TA} {id T : String} {r : List V → Hp → VK → Prop}
def tCB (r : List V → Hp → VK → Prop) (t : TA) : TE := fun σ H Q => t σ H fun vs H1 => r vs H1 Q
theorem pe_callB (hc : CallR X (.builtin id) r) (hg : Gl X x) (hm : X.mg x = none) (hv : bootBuiltins x = some (.builtin id)) (ha : PA X (e :: es) t) (hn : x ≠ "__name__" := by decide) (hdb : (x == ("__debug__" : Str)) = false := by decide)
    (he : starEach (e :: es) X.env = (false, eval e X.env) :: starEach es X.env := by rfl) (hpl : (backTo pos (starEach es X.env)).any (·.1) = false := by rfl) : PE X (.Call (.Name x p) (e :: es) [] pos) (tCB r t) := by
  intro pins s σ H Q I h
  refine wpAny_Call_Name_kw (ld_blt I hg hm hv ?_ hn hdb)
  exact PyProof.Rows.callWith_builtin1 (thn (ha pos pins s σ H _ I h) fun us s1 ⟨vs, H1, I1, r1, q1⟩ => hc pins s1 σ H1 vs us Q I1 r1 q1) he hpl
theorem pe_callTy (hc : CallR X (.type T) r) (hg : Gl X x) (hm : X.mg x = none) (hv : bootBuiltins x = some (.type T)) (ha : PA X (e :: es) t) (hn : x ≠ "__name__" := by decide) (hdb : (x == ("__debug__" : Str)) = false := by decide)
    (he : starEach (e :: es) X.env = (false, eval e X.env) :: starEach es X.env := by rfl) (hpl : (backTo pos (starEach es X.env)).any (·.1) = false := by rfl) : PE X (.Call (.Name x p) (e :: es) [] pos) (tCB r t) := by
  intro pins s σ H Q I h
  refine wpAny_Call_Name_kw (ld_blt I hg hm hv ?_ hn hdb)
  exact PyProof.Rows.callWith_type1 (thn (ha pos pins s σ H _ I h) fun us s1 ⟨vs, H1, I1, r1, q1⟩ => hc pins s1 σ H1 vs us Q I1 r1 q1) he hpl
end
end L2
namespace HT
open PySem PyProof.Rows
section
open PySem.SeqAt
open PySem.AutoSeq1 (wpAny_loadPart')
open PySem.MeetsSeq PySem.MeetsSeq2 PySem.MeetsSeq3
end
section
variable {prog : Program} {w : World} {A : Around} {E : Value → Shared → Prop} {s : Shared}
def sIx (n d : Nat) : Option Int → Nat
  | none => d
  | some v => if v < 0 then (v + (n : Int)).toNat else min v.toNat n
theorem clip_eq (v : Int) (n d : Nat) : (if v < 0 then max (v + (n : Int)) 0 else min v (n : Int)) = ((sIx n d (some v) : Nat) : Int) := by
  show (if v < 0 then max (v + (n : Int)) 0 else min v (n : Int)) = (((if v < 0 then (v + (n : Int)).toNat else min v.toNat n) : Nat) : Int)
  by_cases hv : v < 0
  · simp only [if_pos hv]; omega
  · simp only [if_neg hv]; omega
theorem adjust_gen (lo hi : Option Int) (n : Nat) : Builtin.Slice.sliceAdjust lo hi 1 (n : Int) = (((sIx n 0 lo : Nat) : Int), ((sIx n n hi : Nat) : Int)) := by
  have h1 : ¬ ((1 : Int) < 0) := by omega
  unfold Builtin.Slice.sliceAdjust
  simp only [h1, if_false]
  refine Prod.ext ?_ ?_
  · cases lo with
    | none => rfl
    | some v => exact clip_eq v n 0
  · cases hi with
    | none => rfl
    | some v => exact clip_eq v n n
theorem places_gen (i j : Nat) : Builtin.Slice.slicePlaces (i : Int) (j : Int) 1 = j - i := by
  unfold Builtin.Slice.slicePlaces
  have h1 : (1 : Int) > 0 := by omega
  simp only [h1, if_true, Int.ediv_one]
  split <;> omega
theorem slicePart_ {v : Value} {o : Option Int} {Q : Option Int → Shared → Prop} (p : IsPart v o) (h : Q o s) : wpAny (model prog w) A (Builtin.Slice.slicePartIndex v) Q E s := by
  cases p with
  | none => exact slicePart_none h
  | int i t => exact slicePart_int h
theorem sliceApplied_gen {sl : Addr} {vl vu : Value} {lo hi : Option Int} {n : Nat} {Q : Int × Int × Nat → Shared → Prop} (hs : s.heap.IsSliceOf sl vl vu .none) (pl : IsPart vl lo) (pu : IsPart vu hi)
    (h : Q (((sIx n 0 lo : Nat) : Int), 1, sIx n n hi - sIx n 0 lo) s) : wpAny (model prog w) A (Builtin.Slice.sliceApplied (.ref sl) (pure (n : Int))) Q E s := by
  obtain ⟨os, hos, hcs, hds⟩ := id hs
  unfold Builtin.Slice.sliceApplied Builtin.Slice.sliceFields
  refine wpAny_bind (wpAny_bind (wpAny_field hos hds (x := vl) rfl (wpAny_bind (wpAny_field hos hds (x := vu) rfl (wpAny_bind (wpAny_field hos hds (x := .none) rfl (wpAny_pure ?_)))))))
  refine wpAny_bind (slicePart_none ?_)
  show wpAny _ _ (if ((1 : Int) == 0) = true then _ else _) _ _ s
  rw [if_neg (by decide)]
  refine wpAny_bind (slicePart_ pl (wpAny_bind (slicePart_ pu (wpAny_bind (wpAny_pure ?_)))))
  show wpAny _ _ (match Builtin.Slice.sliceAdjust lo hi 1 (n : Int) with | (lo, hi) => pure (lo, (1 : Int), Builtin.Slice.slicePlaces lo hi 1)) _ _ s
  rw [adjust_gen lo hi n]
  show wpAny _ _ (pure (((sIx n 0 lo : Nat) : Int), (1 : Int), Builtin.Slice.slicePlaces ((sIx n 0 lo : Nat) : Int) ((sIx n n hi : Nat) : Int) 1)) _ _ s
  rw [places_gen]
  exact wpAny_pure h
end
end HT
namespace L2
open PySem PySem.Spec PyProof.Rows
abbrev TO := St → Hp → (Option Int → Hp → Prop) → Prop
theorem intsAre_of {ns : List Int} : ∀ {us : List Value}, Vals (ns.map V.int) us → IntsAre us ns := by
  induction ns with
  | nil => intro us r; rw [List.map_nil] at r; cases r; exact .nil
  | cons n ns ih =>
    intro us r
    rw [List.map_cons] at r
    cases r with
    | cons r1 r2 =>
      obtain ⟨t, e⟩ := r1
      subst e
      exact .cons n t (ih r2)
section
variable {X : Cx} {e : Expr} {te : TE} {lo hi : Option Expr} {tl th : TO} {pos p2 : Pos}
end
end L2
namespace L2
open PySem PySem.Spec PyProof.Rows
def ixN (n : Nat) (i : Int) : Option Nat := if 0 ≤ i then (if i < n then some i.toNat else none) else if -(n : Int) ≤ i then some (i + n).toNat else none
def atI {α : Type} (xs : List α) (i : Int) : Option α := (ixN xs.length i).bind fun j => xs[j]?
theorem ixN_seq {n : Nat} {i : Int} {j : Nat} (h : ixN n i = some j) : seqIndex? i n = some j ∧ j < n ∧ -(n : Int) ≤ i ∧ i < n := by
  unfold ixN at h
  by_cases h0 : 0 ≤ i
  · rw [if_pos h0] at h
    by_cases h1 : i < n
    · rw [if_pos h1] at h
      have e : i.toNat = j := Option.some.inj h
      exact ⟨by rw [seqIndex_of h0 h1, e], by omega, by omega, h1⟩
    · rw [if_neg h1] at h; cases h
  · rw [if_neg h0] at h
    by_cases h1 : -(n : Int) ≤ i
    · rw [if_pos h1] at h
      have e : (i + n).toNat = j := Option.some.inj h
      exact ⟨by rw [seqIndex_neg (by omega) h1, e], by omega, h1, by omega⟩
    · rw [if_neg h1] at h; cases h
theorem atI_get {α : Type} {xs : List α} {i : Int} {v : α} (h : atI xs i = some v) : ∃ j, seqIndex? i xs.length = some j ∧ xs[j]? = some v ∧ j < xs.length ∧ -(xs.length : Int) ≤ i ∧ i < xs.length := by
  unfold atI at h
  cases e : ixN xs.length i with
  | none => rw [e] at h; cases h
  | some j =>
    rw [e] at h
    obtain ⟨h1, h2, h3, h4⟩ := ixN_seq e
    exact ⟨j, h1, h, h2, h3, h4⟩
theorem atI_nat {α : Type} {xs : List α} {j : Nat} {v : α} (h : xs[j]? = some v) : atI xs (j : Int) = some v := by
  have hj : j < xs.length := (List.getElem?_eq_some_iff.mp h).1
  have e : ixN xs.length (j : Int) = some j := by
    unfold ixN
    rw [if_pos (by omega), if_pos (by omega)]; simp
  unfold atI; rw [e]; exact h
def PlainIx (b : Expr) : Prop := ∀ o i, subscripted b false o i = operate [o, i] (getItem o i)
def IxR (X : Cx) (r : R2) : Prop :=
  ∀ (value slice : Expr) (pins : List (Addr × Obj)) (s : Shared) (σ : St) (H : Hp) (x y : V) (v u : Value) (Q : VK), Inv X pins σ H s → RelV x v → RelV y u → r x y H Q →
    subscripted slice false v u = operate [v, u] (getItem v u) → wpAny (model X.prog X.w) X.A (subscriptTail value slice v u) (EP X pins σ Q) X.xe s
def MtR (X : Cx) (id : String) (r : V → List V → Hp → VK → Prop) : Prop :=
  ∀ (pins : List (Addr × Obj)) (s : Shared) (σ : St) (H : Hp) (x : V) (xs : List V) (v : Value) (us : List Value) (Q : VK), Inv X pins σ H s → RelV x v → Vals xs us → r x xs H Q →
    wpAny (model X.prog X.w) X.A (call (.builtin id) (v :: us)) (EP X pins σ Q) X.xe s
section
variable {X : Cx} {a b : Expr} {ta tb : TE} {pos : Pos}
theorem pe_ix {r : R2} (hr : IxR X r) (ha : PE X a ta) (hb : PE X b tb) (hs : PlainIx b) : PE X (.Subscript a b pos) (tOp r ta tb) := by
  intro pins s σ H Q I h
  exact Subscript_ (binT ha hb I h fun v u s2 x y H2 I2 rx ry q => hr a b pins s2 σ H2 x y v u Q I2 rx ry q (hs _ _))
def rIxL (K : PySem.W.Frag) : R2 := fun x y H Q => ∃ p xs i v, x = .ref p ∧ y = .int i ∧ SqL K H p xs ∧ atI xs i = some v ∧ Q v H
def rIxT (K : PySem.W.Frag) : R2 := fun x y H Q => ∃ p xs i v, x = .ref p ∧ y = .int i ∧ SqT K H p xs ∧ atI xs i = some v ∧ Q v H
theorem ix_list : IxR X (rIxL X.K) := by
  intro value slice pins s σ H x y v u Q I rx ry h hs
  obtain ⟨p, xs, i, z, rfl, rfl, hq, he, q⟩ := h
  cases rx
  obtain ⟨t, rfl⟩ := ry
  obtain ⟨its, r, pl, hz⟩ := I.list hq
  obtain ⟨j, h1, h2, h3, h4, h5⟩ := atI_get he
  obtain ⟨w, ew, rw'⟩ := r.get h2
  have hl := r.length
  have hn := line63
  have fin : EP X pins σ Q w s := ⟨z, H, I, rw', q⟩
  by_cases h0 : 0 ≤ i
  · have hj : i.toNat = j := by
      rw [seqIndex_of h0 h5] at h1
      exact Option.some.inj h1
    exact item_listR pl.isList h0 (by omega) (by rw [hj]; simpa using ew) fin hs
  · have hj : (i + (its.toArray.size : Int)).toNat = j := by
      rw [seqIndex_neg (by omega) h4] at h1
      rw [List.size_toArray, ← hl]
      exact Option.some.inj h1
    exact subscriptTail_builtinR (x := w) pl.isList.typeIs slot_list_getitem.lookup
      (wpAny_getItem_list_neg (Q := fun r s' => r = w ∧ EP X pins σ Q r s') pl.isList (by omega) (by rw [List.size_toArray] <;> omega) (by omega) (by rw [hj]; simpa using ew) ⟨rfl, fin⟩) hs
theorem ix_tup : IxR X (rIxT X.K) := by
  intro value slice pins s σ H x y v u Q I rx ry h hs
  obtain ⟨p, xs, i, z, rfl, rfl, hq, he, q⟩ := h
  cases rx
  obtain ⟨t, rfl⟩ := ry
  obtain ⟨its, r, pl, hz⟩ := I.tuple hq
  obtain ⟨j, h1, h2, h3, h4, h5⟩ := atI_get he
  obtain ⟨w, ew, rw'⟩ := r.get h2
  have hl := r.length
  have hn := line63
  have fin : EP X pins σ Q w s := ⟨z, H, I, rw', q⟩
  exact subscriptTail_builtinR (x := w) pl.typeIs slot_tuple_getitem.lookup
    (getItem_tuple (j := j) (Q := fun r s' => r = w ∧ EP X pins σ Q r s') pl (by omega) (by omega) (by rw [List.size_toArray, ← hl]; exact h1) (by simpa using ew) ⟨rfl, fin⟩) hs
theorem mapSeq_set (its : List Value) (n j : Nat) (u : Value) : Obj.mapSeq (·.setIfInBounds j u) { cls := .type "list", data := .seq its.toArray n } = { cls := .type "list", data := .seq (its.set j u).toArray n } := by
  simp [Obj.mapSeq]
theorem Inv.lst {pins : List (Addr × Obj)} {σ : St} {H : Hp} {s : Shared} {p : Addr} {xs : List V} (I : Inv X pins σ H s) (h : H p = some (.lst xs)) :
    ∃ (its : List Value) (n : Nat), Vals xs its ∧ s.heap.get? p = some { cls := .type "list", data := .seq its.toArray n } ∧ xs.length ≤ sizeLine := by
  obtain ⟨z, its, n, r, e⟩ := I.hok p _ h
  exact ⟨its, n, r, e, z⟩
theorem Inv.lstUpd {pins : List (Addr × Obj)} {σ : St} {H : Hp} {s : Shared} {p : Addr} {xs ys : List V} {its its' : List Value} {n n' : Nat} {f : Obj → Obj} (I : Inv X pins σ H s) (h : H p = some (.lst xs))
    (ho : s.heap.get? p = some { cls := .type "list", data := .seq its.toArray n }) (hf : f { cls := .type "list", data := .seq its.toArray n } = { cls := .type "list", data := .seq its'.toArray n' }) (r : Vals ys its') (hz : ys.length ≤ sizeLine) (t : Nat) :
    Inv X pins σ (upd H p (.lst ys)) { s with heap := s.heap.update p f, toks := t } := by
  have e : (s.heap.update p f).get? p = some { cls := .type "list", data := .seq its'.toArray n' } := by
    rw [Heap.get?_update_self f ho (by rw [hf] <;> rfl), hf]
  refine I.write (x := p) (e := p) (by rw [h]; trivial) (.inl rfl) (fun b u hb q => (Heap.get?_update_other _ _ (Ne.symm hb)).trans q) ⟨_, e⟩ ?_
  exact ⟨hz, its', n', r, e⟩
def rSetL : V → V → V → Hp → (Hp → Prop) → Prop := fun o i v H Q => ∃ p xs k j, o = .ref p ∧ i = .int k ∧ H p = some (.lst xs) ∧ ixN xs.length k = some j ∧ Q (upd H p (.lst (xs.set j v)))
theorem set_list : PSet X rSetL := by
  intro pins s σ H o i v ov iv u Q I ro ri rv h
  obtain ⟨p, xs, k, j, rfl, rfl, hp, hj, q⟩ := h
  cases ro
  obtain ⟨t, rfl⟩ := ri
  obtain ⟨its, n, r, ho, hz⟩ := I.lst hp
  obtain ⟨h1, h2, h3, h4⟩ := ixN_seq hj
  have hl := r.length
  have hn := line63
  have I' : Inv X pins σ (upd H p (.lst (xs.set j v))) { s with heap := s.heap.update p (Obj.mapSeq (·.setIfInBounds j u)) } :=
    I.lstUpd hp ho (mapSeq_set its n j u) (r.set rv j) (by rw [List.length_set]; exact hz) s.toks
  by_cases h0 : 0 ≤ k
  · have hk : k.toNat = j := by
      rw [seqIndex_of h0 h4] at h1
      exact Option.some.inj h1
    exact PySem.W.ki_setAt ho h0 (by omega) (by rw [List.size_toArray, ← hl]; exact h4) (by rw [hk]; exact ⟨_, I', q⟩)
  · have hk : (k + (its.toArray.size : Int)).toNat = j := by
      rw [seqIndex_neg (by omega) h3] at h1
      rw [List.size_toArray, ← hl]
      exact Option.some.inj h1
    exact PySem.W.ki_setBack ho (by omega) (by rw [List.size_toArray, ← hl]; exact h3) (by omega) (by rw [hk]; exact ⟨_, I', q⟩)
def flatV : V → Bool
  | .non => true
  | .bl _ => true
  | .int _ => true
  | .str _ => true
  | _ => false
def eqV : V → V → Bool
  | .non, .non => true
  | .bl a, .bl b => a == b
  | .bl a, .int b => (if a then 1 else 0) == b
  | .int a, .bl b => a == (if b then 1 else 0)
  | .int a, .int b => a == b
  | .str a, .str b => a == b
  | _, _ => false
theorem eqAt_V {A : Around} {s : Shared} {y x : V} {u v : Value} (ry : RelV y u) (rx : RelV x v) (fy : flatV y = true) (fx : flatV x = true) : SeqAt.EqAt A s u v (eqV y x) := by
  cases y with
  | non =>
    cases ry
    cases x with
    | non => cases rx; exact SeqAt.EqAt.same _
    | bl b => cases rx; exact SeqAt.EqAt.none_bool b
    | int b => obtain ⟨t, rfl⟩ := rx; exact SeqAt.EqAt.none_int b t
    | str b => obtain ⟨t, rfl⟩ := rx; exact SeqAt.EqAt.none_str b t
    | _ => exact absurd (show false = true from fx) Bool.false_ne_true
  | bl a =>
    cases ry
    cases x with
    | non => cases rx; exact SeqAt.EqAt.bool_none a
    | bl b => cases rx; exact SeqAt.EqAt.bool_bool a b
    | int b => obtain ⟨t, rfl⟩ := rx; exact SeqAt.EqAt.bool_int a b t
    | str b => obtain ⟨t, rfl⟩ := rx; exact SeqAt.EqAt.bool_str a b t
    | _ => exact absurd (show false = true from fx) Bool.false_ne_true
  | int a =>
    obtain ⟨t', rfl⟩ := ry
    cases x with
    | non => cases rx; exact SeqAt.EqAt.int_none a t'
    | bl b => cases rx; exact SeqAt.EqAt.int_bool a t' b
    | int b => obtain ⟨t, rfl⟩ := rx; exact SeqAt.EqAt.int_int a t' b t
    | str b => obtain ⟨t, rfl⟩ := rx; exact SeqAt.EqAt.int_str a t' b t
    | _ => exact absurd (show false = true from fx) Bool.false_ne_true
  | str a =>
    obtain ⟨t', rfl⟩ := ry
    cases x with
    | non => cases rx; exact SeqAt.EqAt.str_none a t'
    | bl b => cases rx; exact SeqAt.EqAt.str_bool a t' b
    | int b => obtain ⟨t, rfl⟩ := rx; exact SeqAt.EqAt.str_int a t' b t
    | str b => obtain ⟨t, rfl⟩ := rx; exact SeqAt.EqAt.str_str a t' b t
    | _ => exact absurd (show false = true from fx) Bool.false_ne_true
  | _ => exact absurd (show false = true from fy) Bool.false_ne_true
def eqU (x : V) (u : Value) : Bool := match u with
  | .none => eqV .non x
  | .bool b => eqV (.bl b) x
  | .int i _ => eqV (.int i) x
  | .str z _ => eqV (.str z) x
  | _ => false
theorem eqU_of {x y : V} {u : Value} (r : RelV y u) (f : flatV y = true) : eqU x u = eqV y x := by
  cases y with
  | non => cases r; rfl
  | bl b => cases r; rfl
  | int i => obtain ⟨t, rfl⟩ := r; rfl
  | str z => obtain ⟨t, rfl⟩ := r; rfl
  | _ => exact absurd (show false = true from f) Bool.false_ne_true
theorem any_eqU {x : V} : ∀ {xs : List V} {us : List Value}, Vals xs us → xs.all flatV = true → us.any (eqU x) = xs.any fun y => eqV y x
  | _, _, .nil, _ => rfl
  | y :: xs, u :: us, .cons r t, f => by
    rw [List.all_cons, Bool.and_eq_true] at f
    rw [List.any_cons, List.any_cons, eqU_of r f.1, any_eqU t f.2]
theorem mem_eqAt {A : Around} {s : Shared} {x : V} {v : Value} (rx : RelV x v) (fx : flatV x = true) : ∀ {xs : List V} {us : List Value}, Vals xs us → xs.all flatV = true → ∀ u ∈ us, SeqAt.EqAt A s u v (eqU x u)
  | _, _, .nil, _ => fun u hu => by cases hu
  | y :: xs, u :: us, .cons r t, f => fun u' hu => by
    rw [List.all_cons, Bool.and_eq_true] at f
    rcases List.mem_cons.mp hu with rfl | hu
    · rw [eqU_of r f.1]; exact eqAt_V r rx f.1 fx
    · exact mem_eqAt rx fx t f.2 u' hu
def inV (x : V) (xs : List V) : Bool := xs.any fun y => eqV y x
def rIn (K : PySem.W.Frag) (neg : Bool) : R2 := fun x y H Q => ∃ p xs, y = .ref p ∧ (SqL K H p xs ∨ SqT K H p xs) ∧ flatV x = true ∧ xs.all flatV = true ∧ Q (.bl (if neg then !inV x xs else inV x xs)) H
theorem op_in_seq : OpR X (compareOp .In) (rIn X.K false) := by
  intro pins s σ H x y v u Q I rx ry h
  obtain ⟨p, xs, rfl, hq, fx, fs, q⟩ := h
  cases ry
  rcases hq with hq | hq
  · obtain ⟨its, r, pl, hz⟩ := I.list hq
    refine SeqAt.in_listAt (eqU x) pl.isList (fun w hw => mem_eqAt rx fx r fs w (by simpa using hw)) ⟨.bl _, H, I, rfl, ?_⟩
    rw [show its.toArray.any (eqU x) = its.any (eqU x) by simp, any_eqU r fs]
    exact q
  · obtain ⟨its, r, pl, hz⟩ := I.tuple hq
    refine SeqAt.in_tupleAt (eqU x) pl (fun w hw => mem_eqAt rx fx r fs w (by simpa using hw)) ⟨.bl _, H, I, rfl, ?_⟩
    rw [show its.toArray.any (eqU x) = its.any (eqU x) by simp, any_eqU r fs]
    exact q
theorem op_notIn_seq : OpR X (compareOp .NotIn) (rIn X.K true) := by
  intro pins s σ H x y v u Q I rx ry h
  obtain ⟨p, xs, rfl, hq, fx, fs, q⟩ := h
  cases ry
  rcases hq with hq | hq
  · obtain ⟨its, r, pl, hz⟩ := I.list hq
    refine SeqAt.notIn_listAt (eqU x) pl.isList (fun w hw => mem_eqAt rx fx r fs w (by simpa using hw)) ⟨.bl _, H, I, rfl, ?_⟩
    rw [show its.toArray.any (eqU x) = its.any (eqU x) by simp, any_eqU r fs]
    exact q
  · obtain ⟨its, r, pl, hz⟩ := I.tuple hq
    refine SeqAt.notIn_tupleAt (eqU x) pl (fun w hw => mem_eqAt rx fx r fs w (by simpa using hw)) ⟨.bl _, H, I, rfl, ?_⟩
    rw [show its.toArray.any (eqU x) = its.any (eqU x) by simp, any_eqU r fs]
    exact q
theorem call_len_seq : CallR X (.builtin "len") (fun xs H Q => ∃ p ys, xs = [.ref p] ∧ (SqL X.K H p ys ∨ SqT X.K H p ys) ∧ Q (.int ys.length) H) := by
  intro pins s σ H xs us Q I r h
  obtain ⟨p, ys, rfl, hq, q⟩ := h
  obtain ⟨u, rfl, rx⟩ := vals1 r
  cases rx
  have hn := line63
  rcases hq with hq | hq
  · obtain ⟨its, r', pl, hz⟩ := I.list hq
    have hlen := r'.length
    exact Calls.call_len_list pl.isList (by simp only [List.size_toArray] <;> omega) ⟨.int ys.length, H, I.tok _, ⟨s.toks + 1, by rw [List.size_toArray, hlen]⟩, q⟩
  · obtain ⟨its, r', pl, hz⟩ := I.tuple hq
    have hlen := r'.length
    exact len_tuple pl (by simp only [List.size_toArray] <;> omega) ⟨.int ys.length, H, I.tok _, ⟨s.toks + 1, by rw [List.size_toArray, hlen]⟩, q⟩
theorem call_list_of : CallR X (.type "list") (fun xs H Q => ∃ p ys, xs = [.ref p] ∧ (SqL X.K H p ys ∨ SqT X.K H p ys) ∧ ∀ l, H l = none → Q (.ref l) (upd H l (.lst ys))) := by
  intro pins s σ H xs us Q I r h
  obtain ⟨p, ys, rfl, hq, q⟩ := h
  obtain ⟨u, rfl, rx⟩ := vals1 r
  cases rx
  have fin : ∀ (its : List Value), Vals ys its → ys.length ≤ sizeLine → ∀ (h' : Heap) (c' : Nat), (∀ b o', s.heap.get? b = some o' → h'.get? b = some o') →
      h'.get? s.heap.objs.size = some { cls := .type "list", dict := none, data := .seq its.toArray c', slots := #[] } → EP X pins σ Q (.ref s.heap.objs.size) { s with heap := h' } := fun its r' hz h' c' kp e =>
    ⟨.ref s.heap.objs.size, _, I.laid (t' := s.toks) kp (Nat.le_refl _) (show ObjOk X.prog X.w _ h' _ (.lst ys) from ⟨hz, its, c', r', e⟩), rfl, q _ (I.hok.fresh (Nat.le_refl _))⟩
  rcases hq with hq | hq
  · obtain ⟨its, r', pl, hz⟩ := I.list hq
    have hlen := r'.length
    obtain ⟨o, ho, hc, n, hd⟩ := pl.isList
    exact call_list_seq p (.inl rfl) ho hc hd (fun h' c' kp e => fin its r' hz h' c' kp e) (by simp only [List.size_toArray] <;> omega)
  · obtain ⟨its, r', pl, hz⟩ := I.tuple hq
    have hlen := r'.length
    obtain ⟨o, ho, hc, n, hd⟩ := pl
    exact call_list_seq p (.inr rfl) ho hc hd (fun h' c' kp e => fin its r' hz h' c' kp e) (by simp only [List.size_toArray] <;> omega)
def tyV (K : PySem.W.Frag) (T : String) (x : V) (H : Hp) : Prop := match x with
  | .str _ => T = "str"
  | .int _ => T = "int"
  | .ref p => (T = "list" ∧ ∃ xs, SqL K H p xs) ∨ (T = "tuple" ∧ ∃ o, K.lookup p = some o ∧ o.cls = .type "tuple" ∧ o.dict = none) ∨
      (T = "dict" ∧ ((∃ kvs, H p = some (.dK kvs)) ∨ ∃ kvs, H p = some (.dT kvs))) ∨ (T = "set" ∧ ∃ S n, H p = some (.set S n))
  | _ => False
theorem tyV_is {pins : List (Addr × Obj)} {σ : St} {H : Hp} {s : Shared} {T : String} {x : V} {v : Value} (I : Inv X pins σ H s) (r : RelV x v) (ty : tyV X.K T x H) :
    s.TypeIs v T ∧ ∀ a, v = .ref a → ∃ ob, s.heap.get? a = some ob ∧ ob.dict = none := by
  cases x with
  | str z =>
    obtain ⟨t, rfl⟩ := r
    cases (show T = "str" from ty)
    exact ⟨typeIs_str s z t, fun _ e => nomatch e⟩
  | int i =>
    obtain ⟨t, rfl⟩ := r
    cases (show T = "int" from ty)
    exact ⟨typeIs_int s i t, fun _ e => nomatch e⟩
  | ref p =>
    cases r
    rcases ty with ⟨rfl, xs, hq⟩ | ⟨rfl, o, hk, hc, hd⟩ | ⟨rfl, hk⟩ | ⟨rfl, S, n, hk⟩
    · obtain ⟨its, _, pl, _⟩ := I.list hq
      refine ⟨pl.isList.typeIs, fun a e => ?_⟩
      cases e
      obtain ⟨o, n, e, c, hd, _⟩ := pl
      exact ⟨o, e, hd⟩
    · refine ⟨⟨o, I.kIn p o hk, hc⟩, fun a e => ?_⟩
      cases e
      exact ⟨o, I.kIn _ o hk, hd⟩
    · have z : ∃ o, s.heap.get? p = some o ∧ o.ExactDict := by
        rcases hk with ⟨kvs, hk⟩ | ⟨kvs, hk⟩
        · obtain ⟨_, _, _, _, o, _, _, e, ex, _⟩ := I.hok p _ hk
          exact ⟨o, e, ex⟩
        · obtain ⟨_, _, _, _, o, _, _, e, ex, _⟩ := I.hok p _ hk
          exact ⟨o, e, ex⟩
      obtain ⟨o, e, ex⟩ := z
      refine ⟨⟨o, e, ex.1⟩, fun a e2 => ?_⟩
      cases e2
      exact ⟨o, e, ex.2.1⟩
    · obtain ⟨o, _, _, _, e, ex, _⟩ := I.hok p _ hk
      refine ⟨⟨o, e, ex.1⟩, fun a e2 => ?_⟩
      cases e2
      exact ⟨o, e, ex.2.1⟩
  | _ => exact False.elim ty
def tBM (K : PySem.W.Frag) (T : String) (r : V → List V → Hp → VK → Prop) (to : TE) (t : TA) : TE := fun σ H Q => to σ H fun x H1 => tyV K T x H1 ∧ t σ H1 fun xs H2 => r x xs H2 Q
variable {o e : Expr} {es : List Expr} {to : TE} {t : TA} {name : Str} {apos cpos : Pos} {T id : String} {r : V → List V → Hp → VK → Prop}
theorem pe_bm (pa : PlainAttrs T) (slot : Slot T name id) (hty : typeOf (.builtin id) = pure (.type "method_descriptor")) (hm : MtR X id r) (ho : PE X o to) (ha : PA X (e :: es) t)
    (hbase : attributeBase o name X.env (eval o X.env) = eval o X.env := by rfl)
    (hfew : ((backTo cpos (starEach (e :: es) X.env)).all (fun x => !x.1) && (backToKw cpos (keywordEach [] X.env)).all (fun x => x.1.isSome)
      && decide ((e :: es).length + ([] : List Keyword).length + (if ([] : List Keyword).isEmpty then 0 else 1) < 30)) = true := by rfl)
    (hline : (apos.endLine == cpos.line) = true := by rfl) (hs : starEach (e :: es) X.env = (false, eval e X.env) :: starEach es X.env := by rfl) (hplain : (backTo cpos (starEach es X.env)).any (·.1) = false := by rfl) :
    PE X (.Call (.Attribute o name apos) (e :: es) [] cpos) (tBM X.K T r to t) := by
  intro pins s σ H Q I h
  refine wpAny_Call_method_late hbase hfew hline rfl (thn (ho pins s σ H _ I h) fun v s1 ⟨x, H1, I1, r1, ty, q1⟩ => ?_)
  obtain ⟨h1, h2⟩ := tyV_is I1 r1 ty
  refine ⟨T, id, pa, slot, hty, h1, h2, ?_⟩
  have hA := ha cpos pins s1 σ H1 _ I1 q1
  rw [hs] at hA ⊢
  refine Calls.callWith_builtin (by show (false || (backTo cpos (starEach es X.env)).any (·.1)) = false; rw [hplain] <;> rfl) (Calls.evalArgs_plain ?_)
  exact thn hA fun us s2 ⟨vs, H2, I2, r2, q2⟩ => hm pins s2 σ H2 x vs v us Q I2 r1 r2 q2
end
end L2
namespace L2
open PySem PySem.Spec PyProof.Rows
def MtM (X : Cx) (id : String) (r : V → List V → Hp → VK → Prop) : Prop :=
  ∀ (pins : List (Addr × Obj)) (s : Shared) (σ : St) (H : Hp) (x : V) (xs : List V) (v : Value) (us : List Value) (Q : VK), Inv X pins σ H s → RelV x v → Vals xs us → r x xs H Q →
    wpAny (model X.prog X.w) X.A (call (.builtin id) (v :: us)) (EP X pins σ Q) X.xe s
theorem Vals.one : ∀ {x : V} {us : List Value}, Vals [x] us → ∃ u, us = [u] ∧ RelV x u
  | _, _, .cons r .nil => ⟨_, rfl, r⟩
theorem Vals.two : ∀ {x y : V} {us : List Value}, Vals [x, y] us → ∃ u v, us = [u, v] ∧ RelV x u ∧ RelV y v
  | _, _, _, .cons r (.cons q .nil) => ⟨_, _, rfl, r, q⟩
theorem Vals.zero : ∀ {us : List Value}, Vals [] us → us = []
  | _, .nil => rfl
theorem Vals.eraseIdx : ∀ {xs : List V} {us : List Value} (i : Nat), Vals xs us → Vals (xs.eraseIdx i) (us.eraseIdx i)
  | _, _, _, .nil => .nil
  | _, _, 0, .cons _ t => t
  | _, _, i + 1, .cons r t => .cons r (Vals.eraseIdx i t)
theorem Vals.reverse {xs : List V} {us : List Value} (h : Vals xs us) : Vals xs.reverse us.reverse := by
  induction h with
  | nil => exact .nil
  | cons r t ih => rw [List.reverse_cons, List.reverse_cons]; exact Vals.append ih (.cons r .nil)
theorem Vals.rep {xs : List V} {us : List Value} (h : Vals xs us) : ∀ k : Nat, Vals (List.replicate k xs).flatten (List.replicate k us).flatten
  | 0 => .nil
  | k + 1 => by
    rw [List.replicate_succ, List.replicate_succ, List.flatten_cons, List.flatten_cons]
    exact Vals.append h (Vals.rep h k)
theorem len_erase {α : Type} : ∀ (l : List α) (i : Nat), (l.eraseIdx i).length ≤ l.length
  | [], _ => Nat.le_refl _
  | _ :: _, 0 => Nat.le_succ _
  | _ :: r, i + 1 => Nat.succ_le_succ (len_erase r i)
theorem foldl_rep (its : List Value) : ∀ (k : Nat) (acc : List Value),
    List.foldl (fun x1 x2 => x1 ++ x2) acc.toArray (List.replicate k its.toArray) = (acc ++ (List.replicate k its).flatten).toArray
  | 0, acc => by simp
  | k + 1, acc => by
    have e : acc.toArray ++ its.toArray = (acc ++ its).toArray := by simp
    have e2 : (acc ++ its) ++ (List.replicate k its).flatten = acc ++ (List.replicate (k + 1) its).flatten := by
      rw [List.replicate_succ, List.flatten_cons, List.append_assoc]
    rw [← e2, ← foldl_rep its k (acc ++ its), ← e, List.replicate_succ, List.foldl_cons]
section
variable {X : Cx} {pins : List (Addr × Obj)} {σ : St} {H : Hp} {s : Shared} {l b : Addr} {xs ys zs : List V}
theorem Inv.lset {its its' : List Value} {n : Nat} {f : Array Value → Array Value} {t' : Nat} (I : Inv X pins σ H s) (hH : H l = some (.lst xs))
    (e : s.heap.get? l = some { cls := .type "list", data := .seq its.toArray n }) (hf : f its.toArray = its'.toArray) (hv : Vals ys its') (hz : ys.length ≤ sizeLine) :
    Inv X pins σ (upd H l (.lst ys)) { s with heap := s.heap.update l (Obj.mapSeq f), toks := t' } := by
  have q := PySem.IsL.update e f
  rw [hf] at q
  refine I.write (x := l) (e := l) (by rw [hH]; exact trivial) (.inl rfl) (fun b' u hb hu => (Heap.get?_update_other s.heap (Obj.mapSeq f) (Ne.symm hb)).trans hu) ⟨_, q⟩ ?_
  exact ⟨hz, its', _, hv, q⟩
theorem Inv.lnew {its : List Value} {t' : Nat} (I : Inv X pins σ H s) (hv : Vals ys its) (hz : ys.length ≤ sizeLine) :
    Inv X pins σ (upd H s.heap.objs.size (.lst ys)) { s with heap := s.heap.push { cls := .type "list", data := .seq its.toArray }, toks := t' } :=
  I.laid (fun _ _ q => Heap.get?_push_of_some _ q) (Nat.le_refl _) ⟨hz, its, 0, hv, Heap.get?_push_size _ rfl⟩
theorem Inv.fresh (I : Inv X pins σ H s) : H s.heap.objs.size = none := I.hok.fresh (Nat.le_refl _)
theorem Inv.lstM (I : Inv X pins σ H s) (hH : H l = some (.lst xs)) : xs.length ≤ sizeLine ∧ ∃ (its : List Value) (n : Nat), Vals xs its ∧ xs.length = its.length ∧ s.heap.get? l = some { cls := .type "list", data := .seq its.toArray n } := by
  obtain ⟨z, its, n, r, e⟩ := I.hok l _ hH
  exact ⟨z, its, n, r, r.length, e⟩
theorem notLongL {n : Nat} (h : n ≤ sizeLine) : Builtin.List.listTooLong n = false := by
  unfold Builtin.List.listTooLong
  exact decide_eq_false (by omega)
end
section
variable {X : Cx}
def rAppend : V → List V → Hp → VK → Prop := fun x vs H Q => ∃ l xs y, x = .ref l ∧ vs = [y] ∧ H l = some (.lst xs) ∧ xs.length < sizeLine ∧ Q .non (upd H l (.lst (xs ++ [y])))
theorem mt_append : MtM X "list.append" rAppend := by
  intro pins s σ H x vs v us Q I rx rv h
  obtain ⟨l, xs, y, rfl, rfl, hH, hz, q⟩ := h
  cases rx
  obtain ⟨u, rfl, ru⟩ := rv.one
  obtain ⟨z, its, n, r, hl, e⟩ := I.lstM hH
  refine call_meets F.slot_list_append ⟨_, e, rfl⟩ F.entry_list_append (F.args_list_append_2 _ _) (PySem.list_append l its.toArray n u (by rw [List.size_toArray]; omega)) ⟨e, ?_⟩
  refine ⟨.non, _, I.lset (its' := its ++ [u]) hH e (by simp) (r.append (.cons ru .nil)) ?_, rfl, q⟩
  rw [List.length_append, List.length_singleton]
  omega
def rRep : R2 := fun x y H Q => ∃ l k xs, x = .ref l ∧ y = .int k ∧ H l = some (.lst xs) ∧ -(2 ^ 63) ≤ k ∧ k < 2 ^ 63 ∧ xs.length * k.toNat ≤ sizeLine ∧
  ∀ p, H p = none → Q (.ref p) (upd H p (.lst (List.replicate k.toNat xs).flatten))
theorem len_rep {α : Type} (xs : List α) (k : Nat) : (List.replicate k xs).flatten.length = k * xs.length := by
  induction k with
  | zero => simp
  | succ k ih => rw [List.replicate_succ, List.flatten_cons, List.length_append, ih, Nat.succ_mul, Nat.add_comm]
theorem op_rep : OpR X (binaryOp .Mult) rRep := by
  intro pins s σ H x y v u Q I rx ry h
  obtain ⟨l, k, xs, rfl, rfl, hH, h1, h2, hz, q⟩ := h
  cases rx
  obtain ⟨t, rfl⟩ := ry
  obtain ⟨z, its, n, r, hl, e⟩ := I.lstM hH
  have hlen : its.toArray.size * k.toNat ≤ sizeLine := by rw [List.size_toArray, ← hl]; exact hz
  have hcap : ¬ its.toArray.size * k.toNat > (2 ^ 63 - 1) / 8 := by
    have : (sizeLine : Nat) ≤ (2 ^ 63 - 1) / 8 := by decide
    omega
  have hfit : ¬ (!Builtin.List.listFitsIndex k) = true := by
    rw [fitsIndex_both h1 h2]
    exact Bool.false_ne_true
  have hlong : ¬ Builtin.List.listTooLong (its.toArray.size * k.toNat) = true := by
    rw [notLongL hlen]
    exact Bool.false_ne_true
  have hnew : List.foldl (fun x1 x2 => x1 ++ x2) #[] (List.replicate (if its.toArray.isEmpty = true then 0 else k.toNat) its.toArray) = (List.replicate k.toNat its).flatten.toArray := by
    have f0 : ∀ m : Nat, List.foldl (fun x1 x2 => x1 ++ x2) #[] (List.replicate m its.toArray) = (List.replicate m its).flatten.toArray := fun m => by
      have := foldl_rep its m []
      rw [List.nil_append] at this
      exact this
    rw [f0]
    cases its with
    | nil => simp
    | cons a r' => rw [if_neg (by simp)]
  refine wpAny_binaryOp_repeat_ref (T := "list") (U := "int") (by decide) ⟨_, e, rfl⟩ (fun s' => typeIs_int s' k t) noFill_list_mul F.fills_int_mul F.slot_int_rmul repeat_list F.slot_int_index.lookup
    (call_meets F.slot_int_rmul (typeIs_int s k t) F.entry_int_rmul (F.args_int_rmul_2 _ _) (int___rmul___int_list k t l its.toArray n)
      ⟨e, rfl, ⟨_, e, rfl⟩, call_meets F.slot_list_mul ⟨_, e, rfl⟩ F.entry_list_mul (F.args_list_mul_2 _ _) (AutoListH.list___mul___list_int_3 l its.toArray n k t hfit hcap hlong) ⟨e, ?_⟩⟩)
  rw [hnew]
  exact ⟨.ref _, _, I.lnew (t' := s.toks) (r.rep k.toNat) (by rw [len_rep, Nat.mul_comm]; exact hz), rfl, q _ I.fresh⟩
end
section
variable {prog : Program} {w : World} {A : Around} {E : Value → Shared → Prop} {s : Shared}
set_option maxRecDepth 100000 in
end
section
variable {X : Cx}
end
end L2
namespace Att
open PySem PySem.W PySem.Calls PyProof.Rows
theorem ints_of_wellAll {P : Params} {h : Heap} : ∀ (ns : List Int) (vs : List Value), WellAll P h vs (ns.map WData.int) → IntsAre vs ns := by
  intro ns
  induction ns with
  | nil =>
    intro vs w
    rw [List.map_nil] at w
    cases w
    exact .nil
  | cons n ns ih =>
    intro vs w
    rw [List.map_cons] at w
    cases w with
    | cons a b =>
      cases a
      exact .cons _ _ (ih _ b)
theorem script_of {l : OpenLaw} {n : Nat} (hn : l.most = some n) {P : Params} {h : Heap} {args : List WData} {vals : List Value}
    (hpre : l.row.toRowW.claim.pre args = true) (hwl : WellAll P h vals args) :
    ∃ a vs ns, vals = [Value.ref a] ∧ args = [WData.list (ns.map WData.int)] ∧ h.get? a = some { cls := .type "list", data := .seq vs.toArray } ∧ IntsAre vs ns ∧ ns.length ≤ n := by
  have hsh : WShape.hasAll [] args [.list .int] = true := (pre_splitW hpre).1
  have hc : l.pre.holds [] { args := args } = true := (pre_splitW hpre).2
  obtain ⟨d, r, rfl, h1, h2⟩ := hasAllW_cons hsh
  obtain rfl := hasAllW_nil h2
  obtain ⟨xs, rfl, h3⟩ := hasW_list h1
  obtain ⟨ns, rfl⟩ := items_int h3
  have hlen : ns.length ≤ n := by
    unfold OpenLaw.pre at hc
    have h4 : (WTm.not (.lt (.lit (.int (n : Int))) (.len (.arg 0)))).holds [] { args := [.list (ns.map .int)] } = true := by
      have h4 := (holds_andW hc).1
      rw [hn] at h4
      exact h4
    have h5 := condW_of h4 (w_not (w_lt w_lit (w_len_list (w_arg rfl))))
    rw [List.length_map] at h5
    refine Nat.le_of_not_lt fun q => ?_
    have q' : (n : Int) < ((ns.length : Nat) : Int) := by omega
    first
      | (rw [decide_eq_true q'] at h5; exact absurd h5 (by decide))
      | (simp at h5; omega)
  cases hwl with
  | cons w1 w2 =>
    cases w2
    cases w1 with
    | list ho hall => exact ⟨_, _, ns, rfl, rfl, ho, ints_of_wellAll ns _ hall, hlen⟩
theorem post_true (l : OpenLaw) (args : List WData) : l.row.toRowW.claim.post args (.bool true) args = true :=
  postW_of (r := l.row.toRowW) (X := (true == true))
    (show WShape.has [] (.bool true) .bool = true by first | rfl | decide | simp [WShape.has, WShape.arms, WShape.armsAll])
    (show (WTm.eq .res (.lit (.bool true))).value [] { args := args, res := some (.bool true), after := args } = some (.bool (true == true)) from w_eq_bool (w_res rfl) w_lit) rfl
theorem attach_call {l : OpenLaw} {n : Nat} {q : Program} {loose : List Str} {XP : (Str → Option Value) → Heap → Prop} {YP : World → Heap → Prop} {d : DefRec}
    (hn : l.most = some n) (hdf : d.params.defaults = [])
    (call : ∀ (w : World) (s₀ s₁ : Shared) (mg mb : Str → Option Value) (fa : Addr) (o : Obj) (pm cd doc : Value) (a : Addr) (vs : List Value) (ns : List Int),
      Ground q loose [] XP w s₀ mg mb s₁.heap → YP w s₁.heap →
      s₁.heap.get? fa = some o → o.data = .func (docDef d.name d.params d.body d.scope pm cd doc) → s₁.heap.CodeRec cd d.name → mg d.name = some (.ref fa) →
      s₁.heap.get? a = some { cls := .type "list", data := .seq vs.toArray } → IntsAre vs ns → ns.length ≤ n → s₁.gens = #[] →
      codeAny (model l.prog w) callerA (.call (.ref fa) ⟨[.ref a], []⟩) (fun r s' => r = .ok (.ret (.bool true)) ∧ OldK s₁.heap s'.heap ∧ s'.os = s₁.os ∧ AllBare s'.gens) s₁) :
    WalkO q loose XP YP l.row.toRowW d [] (fun f vs => PySem.call f vs) := by
  intro w s₀ s₁ mg mb G Y fa o pm cd doc dV kV ho hd hcd hD hmg hg args vals as hpre hlay hrd hwl hlo
  obtain rfl : dV = .none := Dflts.none hD hdf
  obtain rfl : kV = .none := Dflts.noKw hD
  obtain ⟨a, vs, ns, rfl, rfl, hobj, hints, hlen⟩ := script_of hn hpre hwl
  refine enter_call (codeAny_mono (call w s₀ s₁ mg mb fa o pm cd doc a vs ns G Y ho (fd_plain hd) hcd hmg hobj hints hlen hg) fun r s' hq => ?_)
  obtain ⟨rfl, h2, h3, h4⟩ := hq
  exact ⟨.inl ⟨.bool true, .bool true, [], rfl, fun _ => rfl, .bool true, post_true l _, fun _ => ⟨List.Pairwise.nil, fun _ hm => (nomatch hm)⟩⟩, h2, h3, h4⟩
section
variable {prog : Program} {w : World} {A : Around} {E : Value → Shared → Prop} {s : Shared} {K : Frag}
end
end Att
namespace L2
open PySem PySem.Spec PyProof.Rows
theorem vals_ints : ∀ {vs : List Value} {ns : List Int}, IntsAre vs ns → Vals (ns.map V.int) vs
  | _, _, .nil => .nil
  | _, _, .cons n t h => .cons ⟨t, rfl⟩ (vals_ints h)
end L2
namespace L2
open PySem PySem.Spec PyProof.Rows
end L2
namespace L2
open PySem PySem.Spec PyProof.Rows
def defArgs (s : Stmt) : Arguments := match s with
  | .FunctionDef _ a _ _ _ _ _ _ _ _ => a
  | _ => { posonlyargs := [], args := [], vararg := none, kwonlyargs := [], kw_defaults := [], kwarg := none, defaults := [] }
def defBody (s : Stmt) : List Stmt := match s with
  | .FunctionDef _ _ b _ _ _ _ _ _ _ => b
  | _ => []
def defScope (s : Stmt) : Scope := match s with
  | .FunctionDef _ _ _ _ _ _ sc _ _ _ => sc
  | _ => { kind := .function, names := [], isGenerator := false, isCoroutine := false }
abbrev CX0 : CXT := fun _ _ _ _ _ _ => False
abbrev E0 : XK := fun _ _ _ => False
theorem pass0 {X : Cx} : Passes CX0 X E0 := fun _ _ _ _ _ _ _ h => h.elim
structure Fun (K : PySem.W.Frag) (x qual : Str) (st : Stmt) (f : Addr) (fd : FuncData) : Prop where
  ex : ∃ (oc : Value) (od : Option Addr) (kV doc pm : Value) (an : Option Addr) (cdv ct : Value) (osl : Array (Option Value)),
    fd = PySem.W.fnOf x qual (defArgs st) (defBody st) (defScope st) .none kV doc pm an cdv ct ∧ K.lookup f = some ⟨oc, od, .func fd, osl⟩ ∧ PySem.W.codeIn K cdv qual = true
  kp : PySem.W.keepIn K (.ref f) = true
section
variable {P : Program} {w : World} {K : PySem.W.Frag} {mg : Str → Option Value} {base : Heap}
theorem Fun.ok {x qual : Str} {st : Stmt} {f : Addr} {fd : FuncData} {N ps : List Str} {k : Nat} {sp : Sp} (F : Fun K x qual st f fd) (S : FnScope N ps (defScope st)) (len : ∀ vs H Q E, sp vs H Q E → vs.length = ps.length)
    (hbody : ∀ (cdv : Value) (A : Around) (outer : List Env) (s : Shared) (H : Hp) (vs : List V) (Q : VK) (E : XK), Room k (A.deeper (envOfC qual (defScope st) s.heap.objs.size f cdv)) → sp vs H Q E →
      ∃ t, PSs (cxOf CX0 P w K mg base N qual (defScope st) f cdv A outer s H E).nox (defBody st) t ∧ t { nx := fun _ H' => Q .non H', rt := Q } (start N vs) H) : FnOk P w K mg base CX0 (k + 1) f fd ps sp := by
  obtain ⟨oc, od, kV, doc, pm, an, cdv, ct, osl, rfl, lk, hcd⟩ := F.ex
  refine fn_of lk hcd S len fun A outer s H vs Q E hr hsp => ?_
  obtain ⟨t, h, q⟩ := hbody cdv A outer s H vs Q E hr hsp
  exact ⟨t, h.nox, q⟩
theorem Fun.binds {x qual : Str} {st : Stmt} {f : Addr} {fd : FuncData} {ps : List Str} (F : Fun K x qual st f fd)
    (h : ∀ (kV doc pm : Value) (an : Option Addr) (cdv ct : Value) (us : List Value), us.length = ps.length → bindArgs (PySem.W.fnOf x qual (defArgs st) (defBody st) (defScope st) .none kV doc pm an cdv ct) ⟨us, []⟩ = pure (ps.zip us)) : Binds K fd ps [] := by
  obtain ⟨oc, od, kV, doc, pm, an, cdv, ct, osl, rfl, lk, hcd⟩ := F.ex
  exact .all (h kV doc pm an cdv ct)
theorem fun_mk {x qual : Str} {st : Stmt} {f : Addr} {oc : Value} {od an : Option Addr} {osl : Array (Option Value)} {kV doc pm cdv ct : Value} (l : K.lookup f = some ⟨oc, od, .func (PySem.W.fnOf x qual (defArgs st) (defBody st) (defScope st) .none kV doc pm an cdv ct), osl⟩)
    (c : PySem.W.codeIn K cdv qual = true) (k : PySem.W.keepIn K (.ref f) = true) : Fun K x qual st f (PySem.W.fnOf x qual (defArgs st) (defBody st) (defScope st) .none kV doc pm an cdv ct) := ⟨⟨oc, od, kV, doc, pm, an, cdv, ct, osl, rfl, l, c⟩, k⟩
end
theorem small1000 {n : Nat} (h : n ≤ 1000) : n < sizeLine := Nat.lt_of_le_of_lt h (by decide)
section
variable {X : Cx}
theorem pv (i : Nat) {x : Str} {pos : Pos} (hN : X.N[i]? = some x := by rfl) (hv : Vis X.env.scope x := by first | exact Or.inl rfl | exact Or.inr (Or.inl rfl) | exact Or.inr (Or.inr rfl)) (hd : (x == ("__debug__" : Str)) = false := by decide)
    (hcd : (x == ("__classdict__" : Str)) = false := by decide) : PE X (.Name x pos) (tVar i) := pe_var hN hv hd hcd
end
theorem iteT {A B : Prop} (h : A) : if true = true then A else B := by
  rw [if_pos rfl]
  exact h
theorem ite2 {c A B : Prop} [Decidable c] (h1 : c → A) (h2 : ¬ c → B) : if c then A else B := by
  by_cases h : c
  · rw [if_pos h]
    exact h1 h
  · rw [if_neg h]
    exact h2 h
def Same (H H' : Hp) : Prop := ∀ b o, H b = some o → H' b = some o
theorem Same.refl (H : Hp) : Same H H := fun _ _ h => h
theorem Same.trans {H H1 H2 : Hp} (a : Same H H1) (b : Same H1 H2) : Same H H2 := fun c o h => b c o (a c o h)
theorem Same.free {H H' : Hp} (e : Same H H') {l : Addr} (h : H' l = Option.none) : H l = Option.none := by
  cases q : H l with
  | none => rfl
  | some o =>
    rw [e l o q] at h
    cases h
theorem Same.seq {K : PySem.W.Frag} {H H' : Hp} {a : Addr} {xs : List V} (e : Same H H') (h : SqL K H a xs) : SqL K H' a xs := by
  rcases h with (h | ⟨o, h⟩) | h
  · exact .inl (.inl (e _ _ h))
  · exact .inl (.inr ⟨o, e _ _ h⟩)
  · exact .inr h
end L2
namespace L2
open PySem PySem.Spec PyProof.Rows
section
variable {κ : Type} [DecidableEq κ]
def valV (kvs : List (κ × V)) (k : κ) : Option V := (kvs.find? fun kv => decide (kv.1 = k)).map (·.2)
def putK (kvs : List (κ × V)) (k : κ) (v : V) : List (κ × V) :=
  if (kvs.any fun kv => decide (kv.1 = k)) = true then kvs.map (fun kv => if kv.1 = k then (kv.1, v) else kv) else kvs ++ [(k, v)]
def dropK (kvs : List (κ × V)) (k : κ) : List (κ × V) := kvs.filter fun kv => decide (kv.1 ≠ k)
theorem valV_pos {p : κ × V} {r : List (κ × V)} {k : κ} (e : p.1 = k) : valV (p :: r) k = some p.2 := by simp [valV, List.find?_cons, e]
theorem valV_neg {p : κ × V} {r : List (κ × V)} {k : κ} (e : ¬ p.1 = k) : valV (p :: r) k = valV r k := by simp [valV, List.find?_cons, e]
theorem valV_any (k : κ) : ∀ kvs : List (κ × V), (kvs.any fun kv => decide (kv.1 = k)) = (valV kvs k).isSome
  | [] => rfl
  | p :: r => by
    rw [List.any_cons]
    by_cases e : p.1 = k
    · simp only [valV_pos e, decide_eq_true e, Bool.true_or, Option.isSome_some]
    · rw [valV_neg e, decide_eq_false e, Bool.false_or]; exact valV_any k r
theorem RelO.isSome_eq {o : Option V} {u : Option Value} (r : RelO o u) : o.isSome = u.isSome := by
  cases o with
  | none => cases u with
    | none => rfl
    | some _ => exact (show False from r).elim
  | some _ => cases u with
    | none => exact (show False from r).elim
    | some _ => rfl
theorem RelO.getD {o : Option V} {u : Option Value} {d : V} {d' : Value} (r : RelO o u) (rd : RelV d d') : RelV (o.getD d) (u.getD d') := by
  cases o with
  | none => cases u with
    | none => exact rd
    | some _ => exact (show False from r).elim
  | some _ => cases u with
    | none => exact (show False from r).elim
    | some _ => exact r
theorem KV.val {kvs : List (κ × V)} {vs : List (κ × Value)} (r : KV kvs vs) (k : κ) : RelO (valV kvs k) (valueAt vs k) := by
  unfold KV at r
  induction r with
  | nil => exact True.intro
  | @cons p q ps qs h t ih =>
    obtain ⟨h1, h2⟩ := h
    by_cases e : p.1 = k
    · have e' : q.1 = k := h1.symm.trans e
      have b : valueAt (q :: qs) k = some q.2 := by simp [valueAt, List.find?_cons, e']
      rw [valV_pos e, b]; exact h2
    · have e' : ¬ q.1 = k := fun z => e (h1.trans z)
      have b : valueAt (q :: qs) k = valueAt qs k := by simp [valueAt, List.find?_cons, e']
      rw [valV_neg e, b]; exact ih
theorem KV.any {kvs : List (κ × V)} {vs : List (κ × Value)} (r : KV kvs vs) (k : κ) : (kvs.any fun kv => decide (kv.1 = k)) = vs.any fun kv => decide (kv.1 = k) := by
  unfold KV at r
  induction r with
  | nil => rfl
  | cons h t ih => rw [List.any_cons, List.any_cons, ih, h.1]
theorem KV.repl {kvs : List (κ × V)} {vs : List (κ × Value)} (r : KV kvs vs) (k : κ) {y : V} {u : Value} (ry : RelV y u) :
    KV (kvs.map fun kv => if kv.1 = k then (kv.1, y) else kv) (vs.map fun kv => if kv.1 = k then (kv.1, u) else kv) := by
  unfold KV at r ⊢
  induction r with
  | nil => exact .nil
  | @cons p q ps qs h t ih =>
    rw [List.map_cons, List.map_cons]
    refine .cons ?_ ih
    obtain ⟨h1, h2⟩ := h
    by_cases e : p.1 = k
    · rw [if_pos e, if_pos (h1.symm.trans e)]; exact ⟨h1, ry⟩
    · rw [if_neg e, if_neg (fun z => e (h1.trans z))]; exact ⟨h1, h2⟩
theorem KV.put {kvs : List (κ × V)} {vs : List (κ × Value)} (r : KV kvs vs) (k : κ) {y : V} {u : Value} (ry : RelV y u) : KV (putK kvs k y) (stored vs k u) := by
  unfold putK stored
  rw [r.any k]
  by_cases e : (vs.any fun kv => decide (kv.1 = k)) = true
  · rw [if_pos e, if_pos e]; exact r.repl k ry
  · rw [if_neg e, if_neg e]; exact Paired.snoc r ⟨rfl, ry⟩
theorem KV.drop {kvs : List (κ × V)} {vs : List (κ × Value)} (r : KV kvs vs) (k : κ) : KV (dropK kvs k) (without vs k) := by
  unfold KV at r ⊢
  unfold dropK without
  induction r with
  | nil => exact .nil
  | @cons p q ps qs h t ih =>
    obtain ⟨h1, h2⟩ := h
    rw [List.filter_cons, List.filter_cons]
    by_cases e : p.1 = k
    · have a : ¬ decide (p.1 ≠ k) = true := by simp [e]
      have b : ¬ decide (q.1 ≠ k) = true := by simp [h1.symm.trans e]
      rw [if_neg a, if_neg b]; exact ih
    · have e' : ¬ q.1 = k := fun z => e (h1.trans z)
      have a : decide (p.1 ≠ k) = true := by simp [e]
      have b : decide (q.1 ≠ k) = true := by simp [e']
      rw [if_pos a, if_pos b]; exact .cons ⟨h1, h2⟩ ih
theorem KV.keys {kvs : List (κ × V)} {vs : List (κ × Value)} (r : KV kvs vs) : kvs.map (·.1) = vs.map (·.1) := by
  unfold KV at r
  induction r with
  | nil => rfl
  | cons h t ih => rw [List.map_cons, List.map_cons, ih, h.1]
theorem KV.length {kvs : List (κ × V)} {vs : List (κ × Value)} (r : KV kvs vs) : kvs.length = vs.length := Paired.length r
end
abbrev KT (H : Hp) : List (List Key × V) → List (List Key × Addr × Value) → Prop := Paired fun p q => p.1 = q.1 ∧ H q.2.1 = some (.tup (p.1.map kV)) ∧ RelV p.2 q.2.2
theorem KT.val {H : Hp} {kvs : List (List Key × V)} {xs : List (List Key × Addr × Value)} (r : KT H kvs xs) (k : List Key) : RelO (valV kvs k) ((atKey xs k).map (·.2)) := by
  induction r with
  | nil => exact True.intro
  | @cons p q ps qs h t ih =>
    obtain ⟨h1, _, h2⟩ := h
    by_cases e : p.1 = k
    · have e' : q.1 = k := h1.symm.trans e
      have b : atKey (q :: qs) k = some q.2 := by simp [atKey, List.find?_cons, e']
      rw [valV_pos e, b]; exact h2
    · have e' : ¬ q.1 = k := fun z => e (h1.trans z)
      have b : atKey (q :: qs) k = atKey qs k := by simp [atKey, List.find?_cons, e']
      rw [valV_neg e, b]; exact ih
theorem KT.repl {H : Hp} {kvs : List (List Key × V)} {xs : List (List Key × Addr × Value)} (r : KT H kvs xs) (k : List Key) {y : V} {u : Value} (ry : RelV y u) :
    KT H (kvs.map fun kv => if kv.1 = k then (kv.1, y) else kv) (xs.map (putAt k u)) := by
  induction r with
  | nil => exact .nil
  | @cons p q ps qs h t ih =>
    rw [List.map_cons, List.map_cons]
    refine .cons ?_ ih
    obtain ⟨h1, h2, h3⟩ := h
    unfold putAt
    by_cases e : p.1 = k
    · rw [if_pos e, if_pos (h1.symm.trans e)]; exact ⟨h1, h2, ry⟩
    · rw [if_neg e, if_neg (fun z => e (h1.trans z))]; exact ⟨h1, h2, h3⟩
theorem KT.put {H : Hp} {kvs : List (List Key × V)} {xs : List (List Key × Addr × Value)} (r : KT H kvs xs) (k : List Key) {b : Addr} {y : V} {u : Value} (hb : H b = some (.tup (k.map kV))) (ry : RelV y u) :
    KT H (putK kvs k y) (storedH xs k b u) := by
  have e : (kvs.any fun kv => decide (kv.1 = k)) = (atKey xs k).isSome := by
    rw [valV_any, (r.val k).isSome_eq, Option.isSome_map]
  unfold putK storedH
  rw [e]
  by_cases q : (atKey xs k).isSome = true
  · rw [if_pos q, if_pos q]; exact r.repl k ry
  · rw [if_neg q, if_neg q]; exact Paired.snoc r ⟨rfl, hb, ry⟩
theorem KT.keeps {H H' : Hp} {kvs : List (List Key × V)} {xs : List (List Key × Addr × Value)} (r : KT H kvs xs) (ht : ∀ b ys, H b = some (.tup ys) → H' b = some (.tup ys)) : KT H' kvs xs :=
  Paired.mapP r fun _ _ z => ⟨z.1, ht _ _ z.2.1, z.2.2⟩
section
variable {P : Program} {w : World} {H : Hp} {h : Heap} {a : Addr}
end
def DGet (H : Hp) (a : Addr) (y : V) (r : Option V) : Prop :=
  (∃ kvs k, Rd H a (.dK kvs) ∧ y = kV k ∧ r = valV kvs k) ∨ ∃ kvs k b, Rd H a (.dT kvs) ∧ y = .ref b ∧ H b = some (.tup (k.map kV)) ∧ r = valV kvs k
def DPut (H : Hp) (a : Addr) (y v : V) (H' : Hp) : Prop :=
  (∃ kvs k, H a = some (.dK kvs) ∧ y = kV k ∧ kvs.length < sizeLine ∧ H' = upd H a (.dK (putK kvs k v))) ∨
  ∃ kvs k b, H a = some (.dT kvs) ∧ y = .ref b ∧ H b = some (.tup (k.map kV)) ∧ kvs.length < sizeLine ∧ H' = upd H a (.dT (putK kvs k v))
theorem DGet.k {H : Hp} {a : Addr} {kvs : List (Key × V)} {k : Key} (e : H a = some (.dK kvs)) : DGet H a (kV k) (valV kvs k) := .inl ⟨kvs, k, .inl e, rfl, rfl⟩
theorem DGet.t {H : Hp} {a b : Addr} {kvs : List (List Key × V)} {k : List Key} (e : H a = some (.dT kvs)) (eb : H b = some (.tup (k.map kV))) : DGet H a (.ref b) (valV kvs k) := .inr ⟨kvs, k, b, .inl e, rfl, eb, rfl⟩
theorem DPut.k {H : Hp} {a : Addr} {kvs : List (Key × V)} {k : Key} {v : V} (e : H a = some (.dK kvs)) (hl : kvs.length < sizeLine) : DPut H a (kV k) v (upd H a (.dK (putK kvs k v))) := .inl ⟨kvs, k, e, rfl, hl, rfl⟩
theorem DPut.t {H : Hp} {a b : Addr} {kvs : List (List Key × V)} {k : List Key} {v : V} (e : H a = some (.dT kvs)) (eb : H b = some (.tup (k.map kV))) (hl : kvs.length < sizeLine) :
    DPut H a (.ref b) v (upd H a (.dT (putK kvs k v))) := .inr ⟨kvs, k, b, e, rfl, eb, hl, rfl⟩
section
variable {X : Cx} {pins : List (Addr × Obj)} {σ : St} {H : Hp} {s : Shared} {a : Addr} {y v : V} {u r : Value} {o : Option V} {A : Around} {E : Value → Shared → Prop}
end
section
variable {X : Cx} {pins : List (Addr × Obj)} {σ : St} {H : Hp} {s : Shared} {a : Addr} {kvs : List (Key × V)} {k : Key} {u : Value} {A : Around} {E : Value → Shared → Prop}
end
section
variable {X : Cx} {o i e value : Expr} {pos pos' tpos : Pos} {td ty tv : TE}
end
section
variable {X : Cx} {pos : Pos}
end
structure M1 (X : Cx) (o : Expr) (m : Str) (apos : Pos) (e : Expr) (cpos : Pos) : Prop where
  base : attributeBase o m X.env (eval o X.env) = eval o X.env
  few : ((backTo cpos (starEach [e] X.env)).all (fun x => !x.1) && (backToKw cpos (keywordEach [] X.env)).all (fun x => x.1.isSome)
    && decide (([e] : List Expr).length + ([] : List Keyword).length + (if ([] : List Keyword).isEmpty then 0 else 1) < 30)) = true
  line : (apos.endLine == cpos.line) = true
  trees : backTo cpos (starEach [e] X.env) = [(false, eval e X.env)]
structure M2 (X : Cx) (o : Expr) (m : Str) (apos : Pos) (e f : Expr) (cpos : Pos) : Prop where
  base : attributeBase o m X.env (eval o X.env) = eval o X.env
  few : ((backTo cpos (starEach [e, f] X.env)).all (fun x => !x.1) && (backToKw cpos (keywordEach [] X.env)).all (fun x => x.1.isSome)
    && decide (([e, f] : List Expr).length + ([] : List Keyword).length + (if ([] : List Keyword).isEmpty then 0 else 1) < 30)) = true
  line : (apos.endLine == cpos.line) = true
  trees : backTo cpos (starEach [e, f] X.env) = [(false, eval e X.env), (false, eval f X.env)]
section
variable {X : Cx} {pins : List (Addr × Obj)} {σ : St} {H : Hp} {s : Shared} {a : Addr} {y d : V} {u r : Value} {o : Option V} {A : Around} {E : Value → Shared → Prop}
end
section
variable {X : Cx} {o e f : Expr} {apos cpos : Pos} {td ty tx : TE}
end
section
variable {X : Cx} {pins : List (Addr × Obj)} {σ : St} {H : Hp} {s : Shared} {a : Addr} {kvs : List (Key × V)} {A : Around} {E : Value → Shared → Prop}
end
section
variable {X : Cx} {pins : List (Addr × Obj)} {σ : St} {H : Hp} {s : Shared} {a : Addr} {y : V} {u : Value} {A : Around} {E : Value → Shared → Prop}
end
end L2
namespace L2
open PySem PySem.Spec PyProof.Rows
section
variable {κ : Type} [DecidableEq κ]
end
end L2
namespace L2
open PySem PySem.Spec PyProof.Rows
def Sz (n : Nat) (x : Int) : Prop := x.natAbs < 2 ^ n
section
variable {m n : Nat} {x y : Int}
theorem Sz.bits (h : Sz n x) : Builtin.Int.intBits x ≤ n := intBits_le_iff.mpr h
theorem Sz.of_bits (h : Builtin.Int.intBits x ≤ n) : Sz n x := intBits_le_iff.mp h
theorem Sz.mono (h : Sz m x) (l : m ≤ n) : Sz n x := .of_bits (Nat.le_trans h.bits l)
theorem Sz.mul (h : Sz m x) (k : Sz n y) : Sz (m + n) (x * y) := .of_bits (intBits_mul_le h.bits k.bits)
theorem Sz.add (h : Sz m x) (k : Sz n y) : Sz (max m n + 1) (x + y) := .of_bits (intBits_add_le h.bits k.bits)
theorem Sz.sub (h : Sz m x) (k : Sz n y) : Sz (max m n + 1) (x - y) := .of_bits (intBits_sub_le h.bits k.bits)
theorem Sz.neg (h : Sz m x) : Sz m (-x) := .of_bits (intBits_neg_le h.bits)
theorem Sz.fdiv (h : Sz m x) : Sz m (x.fdiv y) := .of_bits (intBits_fdiv_le h.bits)
theorem Sz.abs (h : Sz m x) : Sz m (if x < 0 then -x else x) := by
  by_cases c : x < 0
  · rw [if_pos c]; exact h.neg
  · rw [if_neg c]; exact h
theorem szd (n : Nat) {x : Int} (h : decide (x.natAbs < 2 ^ n) = true := by decide +kernel) : Sz n x := (show x.natAbs < 2 ^ n from of_decide_eq_true h)
theorem sz_of (h : -(2 ^ n : Nat) < x) (k : x < (2 ^ n : Nat)) : Sz n x := by
  unfold Sz
  generalize 2 ^ n = p at h k ⊢
  omega
end
def CMulB (i j : Int) : Prop := ∃ m n, Sz m i ∧ Sz n j ∧ m + n ≤ 134217728
def CDivB (_ j : Int) : Prop := j ≠ 0 ∧ Sz 9000 j
section
variable {X : Cx}
theorem op_mulB : OpR X (binaryOp .Mult) (rI CMulB fun i j => .int (i * j)) := opI fun _ _ _ _ _ _ _ hc q =>
  mul_int q (let ⟨_, _, a, b, c⟩ := hc; IntMulOk.of_le a.bits b.bits c)
theorem op_fdivB : OpR X (binaryOp .FloorDiv) (rI CDivB fun i j => .int (i.fdiv j)) := opI fun _ j _ _ _ _ _ hc q =>
  floordiv_int hc.1 q (.inl (PyProof.noPylong_of_log2 ((Nat.log2_lt (by have := hc.1; omega)).mpr hc.2)))
theorem call_isi : CallR X (.builtin "isinstance") (fun xs H Q => ∃ x t c b, xs = [x, .ty c] ∧ TyOf X.K H x t ∧ PySem.W.kitOne X.K t (.type c) = some b ∧ Q (.bl b) H) := by
  intro pins s σ H xs us Q I rv h
  obtain ⟨x, t, c, b, rfl, ty, e, q⟩ := h
  obtain ⟨u, u', rfl, r1, r2⟩ := vals2 rv
  cases (show u' = Value.type c from r2)
  exact isinst_ok I r1 ty e fun tk => ⟨.bl b, H, I.tok tk, rfl, q⟩
end
section
variable {K : PySem.W.Frag}
theorem kit_int_int : PySem.W.kitOne K (.type "int") (.type "int") = some true := by
  show (if ((Value.type "int") == (Value.type "int")) = true then some true else (if PySem.W.kitMeta "int" = true then (PySem.fastBuiltinMro "int").map (·.contains (Value.type "int")) else none)) = some true
  decide +kernel
theorem kit_int_bool : PySem.W.kitOne K (.type "int") (.type "bool") = some false := by
  show (if ((Value.type "int") == (Value.type "bool")) = true then some true else (if PySem.W.kitMeta "bool" = true then (PySem.fastBuiltinMro "int").map (·.contains (Value.type "bool")) else none)) = some false
  decide +kernel
theorem kit_bool_bool : PySem.W.kitOne K (.type "bool") (.type "bool") = some true := by
  show (if ((Value.type "bool") == (Value.type "bool")) = true then some true else (if PySem.W.kitMeta "bool" = true then (PySem.fastBuiltinMro "bool").map (·.contains (Value.type "bool")) else none)) = some true
  decide +kernel
theorem kit_list_list : PySem.W.kitOne K (.type "list") (.type "list") = some true := by
  show (if ((Value.type "list") == (Value.type "list")) = true then some true else (if PySem.W.kitMeta "list" = true then (PySem.fastBuiltinMro "list").map (·.contains (Value.type "list")) else none)) = some true
  decide +kernel
end
def tIfJ (c : TT) (t u : TS) : TS := fun D σ H => ∃ M : St → Hp → Prop, (c σ H fun b H1 => if b = true then t { D with nx := M } σ H1 else u { D with nx := M } σ H1) ∧ ∀ σ' H', M σ' H' → D.nx σ' H'
theorem ps_ifJ {X : Cx} {c : Expr} {a b : List Stmt} {tc : TT} {t u : TS} {pos : Pos} (hc : PT X c tc) (ha : PSs X a t) (hb : PSs X b u) : PS X (.If c a b pos) (tIfJ tc t u) := by
  intro pins s σ H D I h
  obtain ⟨M, h, hM⟩ := h
  have up : ∀ (f : Flow) (s' : Shared), SP X pins { D with nx := M } f s' → SP X pins D f s' := fun f s' q => by
    cases f with
    | next =>
      obtain ⟨σ', H', I', q⟩ := q
      exact ⟨σ', H', I', hM σ' H' q⟩
    | ret v => exact q
    | brk => exact q
    | cont => exact q
  refine wpAny_If (thn (hc pins s σ H _ I h) fun d s1 ⟨H1, I1, q1⟩ => ?_)
  cases d with
  | true => exact thn (ha pins s1 σ H1 _ I1 q1) up
  | false => exact thn (hb pins s1 σ H1 _ I1 q1) up
theorem cpow40 : CPow 10 40 := ⟨by decide, by decide, by decide⟩
theorem small63 {n : Nat} (h : n ≤ 1000) : n ≤ sizeLine := Nat.le_of_lt (small1000 h)
theorem item_at {ns : List Int} {k : Int} (h0 : 0 ≤ k) (h : k < (ns.length : Int)) : ∃ v : Int, atI (ns.map V.int) k = some (.int v) := by
  have hk : k.toNat < ns.length := by omega
  have ek : k = ((k.toNat : Nat) : Int) := by omega
  have q : atI (ns.map V.int) ((k.toNat : Nat) : Int) = some (.int ns[k.toNat]) := atI_nat (by rw [List.getElem?_map, List.getElem?_eq_getElem hk] <;> rfl)
  rw [← ek] at q
  exact ⟨_, q⟩
end L2
namespace L2
open PySem PySem.Spec PyProof.Rows
def Cx.inComp (X : Cx) (Nc : List Str) (sc : Scope) (cl : List (Str × Addr)) (s : Shared) (H : Hp) (ex : List Addr) : Cx :=
  { X with N := Nc, s₀ := s, H₀ := H, env := compEnvC sc cl s.heap.objs.size X.env, outer := X.stack, stack := X.stack, ex := ex, fn := fun _ => false, pn := [], xe := fun _ _ => False }
theorem closure_go {env : Env} {f : Str × NameKind → List (Str × Addr) → Sem (ForInStep (List (Str × Addr)))}
    (hf : ∀ n k r, f (n, k) r = if (k == NameKind.free) = true then (cellOf env n >>= fun c => pure (ForInStep.yield ((n, c) :: r))) else pure (ForInStep.yield r)) :
    ∀ (l : List (Str × NameKind)) (cs : List (Str × Addr)), (∀ x ∈ l, x.2 = .free → ∃ c, env.cells.lookup x.1 = some c) →
      ∃ cl, (forIn l cs f : Sem (List (Str × Addr))) = pure cl ∧ (∀ p ∈ cl, p ∈ cs ∨ env.cells.lookup p.1 = some p.2) ∧ (∀ p ∈ cs, p ∈ cl) ∧ ∀ x ∈ l, x.2 = .free → ∃ c, (x.1, c) ∈ cl := by
  intro l
  induction l with
  | nil =>
    intro cs _
    exact ⟨cs, by rw [List.forIn_nil], fun p hp => .inl hp, fun p hp => hp, fun x hx => absurd hx (by simp)⟩
  | cons y r ih =>
    intro cs h
    obtain ⟨n, k⟩ := y
    by_cases hk : k = .free
    · subst hk
      obtain ⟨c, hc⟩ := h (n, .free) (by simp) rfl
      have e : cellOf env n = pure c := by
        unfold cellOf
        rw [show env.cells.lookup n = some c from hc]
      obtain ⟨cl, h1, h2, h3, h4⟩ := ih ((n, c) :: cs) fun x hx => h x (List.mem_cons_of_mem _ hx)
      refine ⟨cl, ?_, fun p hp => ?_, fun p hp => h3 p (List.mem_cons_of_mem _ hp), fun x hx hf' => ?_⟩
      · rw [List.forIn_cons, hf, if_pos (by decide), e]
        simp only [pure_bind]
        exact h1
      · rcases h2 p hp with z | z
        · rcases List.mem_cons.mp z with z | z
          · subst z; exact .inr hc
          · exact .inl z
        · exact .inr z
      · rcases List.mem_cons.mp hx with z | z
        · subst z; exact ⟨c, h3 _ (by simp)⟩
        · exact h4 x z hf'
    · have hb : (k == NameKind.free) = false := by simpa using hk
      obtain ⟨cl, h1, h2, h3, h4⟩ := ih cs fun x hx => h x (List.mem_cons_of_mem _ hx)
      refine ⟨cl, ?_, h2, h3, fun x hx hf' => ?_⟩
      · rw [List.forIn_cons, hf, hb, if_neg (by decide)]
        simp only [pure_bind]
        exact h1
      · rcases List.mem_cons.mp hx with z | z
        · subst z; exact absurd hf' hk
        · exact h4 x z hf'
theorem lookup_has {α : Type} : ∀ {l : List (Str × α)} {n : Str} {c : α}, (n, c) ∈ l → ∃ d, l.lookup n = some d
  | (k, v) :: r, n, c, h => by
    rw [List.lookup_cons]
    cases hx : (n == k) with
    | true => exact ⟨v, rfl⟩
    | false =>
      rcases List.mem_cons.mp h with z | z
      · cases z
        simp at hx
      · exact lookup_has z
theorem closure_ok {env : Env} {sc : Scope} (h : ∀ x ∈ sc.names, x.2 = .free → ∃ c, env.cells.lookup x.1 = some c) :
    ∃ cl, closureFor sc env = pure cl ∧ (∀ y c, cl.lookup y = some c → env.cells.lookup y = some c) ∧ ∀ x ∈ sc.names, x.2 = .free → ∃ c, cl.lookup x.1 = some c := by
  obtain ⟨cl, h1, h2, _, h4⟩ := closure_go (env := env) (f := fun x r => if (x.2 == NameKind.free) = true then (cellOf env x.1 >>= fun c => pure (ForInStep.yield ((x.1, c) :: r))) else pure (ForInStep.yield r)) (fun _ _ _ => rfl) sc.names [] h
  refine ⟨cl, ?_, fun y c e => ?_, fun x hx hf => ?_⟩
  · unfold closureFor
    have : (forIn sc.names ([] : List (Str × Addr)) fun x r => (match x with | (name, kind) => if (kind == NameKind.free) = true then (do let __do_lift ← cellOf env name; pure (ForInStep.yield ((name, __do_lift) :: r))) else pure (ForInStep.yield r)) : Sem (List (Str × Addr))) = pure cl := h1
    first
      | (simp only [this, pure_bind]; done)
      | (simp only [h1, pure_bind]; done)
      | (rw [show (forIn sc.names ([] : List (Str × Addr)) _ : Sem (List (Str × Addr))) = pure cl from h1]; rfl)
  · rcases h2 (y, c) (PySem.mem_of_lookup e) with z | z
    · exact absurd z (by simp)
    · exact z
  · obtain ⟨c, hc⟩ := h4 x hx hf
    exact lookup_has hc
theorem lookup_relabel (env : Env) : ∀ (names : List (Str × NameKind)) (y : Str),
    (names.map fun (n, k) => if (k == NameKind.free && env.scope.kind == .function && env.kindOf n == some .cell) then (n, NameKind.cell) else (n, k)).lookup y
      = (names.lookup y).map fun k => if (k == NameKind.free && env.scope.kind == .function && env.kindOf y == some .cell) then NameKind.cell else k
  | [], y => rfl
  | (n, k) :: r, y => by
    have ih := lookup_relabel env r y
    rw [List.map_cons]
    dsimp only
    cases hx : (y == n) with
    | true =>
      have e : y = n := by simpa using hx
      subst e
      by_cases c : (k == NameKind.free && env.scope.kind == .function && env.kindOf y == some .cell) = true
      · rw [if_pos c]; simp only [List.lookup_cons, hx, Option.map_some]; rw [if_pos c]
      · rw [if_neg c]; simp only [List.lookup_cons, hx, Option.map_some]; rw [if_neg c]
    | false =>
      by_cases c : (k == NameKind.free && env.scope.kind == .function && env.kindOf n == some .cell) = true
      · rw [if_pos c]; simp only [List.lookup_cons, hx]; exact ih
      · rw [if_neg c]; simp only [List.lookup_cons, hx]; exact ih
def PIfs (X : Cx) (ifs : List Expr) (t : TT) : Prop :=
  ∀ (pins : List (Addr × Obj)) (s : Shared) (σ : St) (H : Hp) (Q : Bool → Hp → Prop), Inv X pins σ H s → t σ H Q →
    wpAny (model X.prog X.w) X.A (forIn ifs true fun c r => if r = true then do let ok ← isTrue c X.env (eval c X.env); pure (ForInStep.yield ok) else pure (ForInStep.yield r)) (TP X pins σ Q) X.xe s
def tYes : TT := fun _ H Q => Q true H
theorem yes {σ : St} {H : Hp} {Q : Bool → Hp → Prop} (h : Q true H) : tYes σ H Q := h
theorem pif_nil {X : Cx} : PIfs X [] tYes := by
  intro pins s σ H Q I h
  rw [List.forIn_nil]
  exact wpAny_pure ⟨H, I, h⟩
theorem pif_one {X : Cx} {c : Expr} {t : TT} (hc : PT X c t) : PIfs X [c] t := by
  intro pins s σ H Q I h
  rw [List.forIn_cons, if_pos rfl]
  refine wpAny_bind (wpAny_bind (thn (hc pins s σ H Q I h) fun b s1 q => wpAny_pure ?_))
  dsimp only
  rw [List.forIn_nil]
  exact wpAny_pure q
theorem thnF {α : Type} {t : Sem α} {Q Q' : α → Shared → Prop} {M : Model} {A : Around} {E : Value → Shared → Prop} {s : Shared} (h : wpAny M A t Q (fun _ _ => False) s) (hQ : ∀ a s, Q a s → Q' a s) : wpAny M A t Q' E s := wpAny_mono h hQ fun _ _ z => z.elim
def tComp (wi : TI) (tt : TT) (te : TE) : TE := fun σ H Q => wi σ H fun J H1 => ∀ D, H1 D = none → ∃ W : Nat → Nat → List V → Hp → Prop, (∃ m, W 0 m [] (upd H1 D (.lst []))) ∧ ∀ i m ys H2, W i m ys H2 →
  H2 D = some (.lst ys) ∧ ((J.stop i H2 ∧ Q (.ref D) H2) ∨ (J.go i H2 ∧ ys.length < sizeLine ∧ ∀ x H3, J.yld i H2 x H3 → tt (σ ++ [some x]) H3 fun b H4 => if b = true then te (σ ++ [some x]) H4 fun y H5 => H5 D = some (.lst ys) ∧ ∃ m', m' < m ∧ W (i + 1) m' (ys ++ [y]) (upd H5 D (.lst (ys ++ [y])))
    else ∃ m', m' < m ∧ W (i + 1) m' ys H4))
structure CompN (N Nc : List Str) (x : Str) (sc fsc : Scope) : Prop where
  kind : sc.kind = .function
  cell : ∀ y ∈ sc.names, y.2 ≠ .cell
  nm : ∀ y ∈ sc.names, y.2 = .local → sc.names.lookup y.1 = some .local
  own : sc.names.lookup x = some .local
  fr : ∀ y ∈ sc.names, y.2 = .free → fsc.names.lookup y.1 = some .cell ∨ fsc.names.lookup y.1 = some .free
  len : Nc.length = N.length + 1
  nd : Nc.Nodup
  last : Nc[N.length]? = some x
  slot : ((List.range N.length).all fun i => match Nc[i]? with
    | some y => (match sc.names.lookup y with | some .free => N[i]? == some y | some .local => false | some .cell => false | _ => true)
    | none => true) = true
theorem CompN.at {N Nc : List Str} {x : Str} {sc fsc : Scope} (C : CompN N Nc x sc fsc) {i : Nat} {y : Str} (hi : i < N.length) (h : Nc[i]? = some y) : sc.names.lookup y ≠ some .local ∧ sc.names.lookup y ≠ some .cell ∧ (sc.names.lookup y = some .free → N[i]? = some y) := by
  have q := List.all_eq_true.mp C.slot i (List.mem_range.mpr hi)
  rw [h] at q
  dsimp only at q
  cases e : sc.names.lookup y with
  | none => exact ⟨fun z => (nomatch z), fun z => (nomatch z), fun z => (nomatch z)⟩
  | some k =>
    rw [e] at q
    cases k with
    | «local» => exact absurd (show false = true from q) Bool.false_ne_true
    | cell => exact absurd (show false = true from q) Bool.false_ne_true
    | free => exact ⟨fun z => (nomatch z), fun z => (nomatch z), fun _ => by simpa using q⟩
    | _ => exact ⟨fun z => (nomatch z), fun z => (nomatch z), fun z => (nomatch z)⟩
section
variable {X : Cx} {elt iter : Expr} {x : Str} {px pos : Pos} {ifs : List Expr} {sc fsc : Scope} {N Nc : List Str} {wi : TI} {tt : TT} {te : TE}
structure CLoc (X : Cx) (pins : List (Addr × Obj)) (H : Hp) (C : Addr) : Prop where
  free : H C = none
  ne : C ≠ X.env.locals
  new : X.s₀.heap.objs.size ≤ C
  cells : ∀ x c, X.env.cells.lookup x = some c → c ≠ C
  pins : ∀ p ∈ X.pn ++ pins, p.1 ≠ C
theorem Inv.sameBut {pins : List (Addr × Obj)} {σ : St} {H : Hp} {s : Shared} {C : Addr} {h' : Heap} (I : Inv X pins σ H s) (c : CLoc X pins H C) (k : Heap.SameBut C s.heap h') : Inv X pins σ H { s with heap := h' } :=
  I.turned (t' := s.toks) (it := C) (fun b o hb e => (k.2 b hb).trans e) c.free c.ne (.inr c.new) c.cells c.pins
theorem set_last {σ : St} {o v : Option V} : (σ ++ [o]).set σ.length v = σ ++ [v] := by
  rw [List.set_append_right _ _ (Nat.le_refl _), Nat.sub_self]
  rfl
theorem comp_core (hE : X.env.scope = fsc) (hXN : X.N = N) (cn : CompN N Nc x sc fsc) (hc : X.calm = true)
    (ht : ∀ cl s H ex, PIfs (X.inComp Nc sc cl s H ex) ifs tt) (he : ∀ cl s H ex, PE (X.inComp Nc sc cl s H ex) elt te)
    {cl : List (Str × Addr)} (clS : ∀ y c, cl.lookup y = some c → X.env.cells.lookup y = some c) (clH : ∀ y ∈ sc.names, y.2 = .free → ∃ c, cl.lookup y.1 = some c)
    {pins : List (Addr × Obj)} {σ : St} {H2 : Hp} {s2 : Shared} {it : Addr} {fp : List Addr} {tn : Nat → Heap → Prop} {J : It} {Q : VK} {E : Value → Shared → Prop}
    (I2 : Inv X pins σ H2 s2) (T : Turn X.prog X.w X.K (.Name x px) J fp it tn) (st2 : tn 0 s2.heap) (f2 : ∀ b ∈ fp, FpOk X pins H2 b)
    (h2 : ∀ D, H2 D = none → ∃ W : Nat → Nat → List V → Hp → Prop, (∃ m, W 0 m [] (upd H2 D (.lst []))) ∧ ∀ i m ys H2, W i m ys H2 →
      H2 D = some (.lst ys) ∧ ((J.stop i H2 ∧ Q (.ref D) H2) ∨ (J.go i H2 ∧ ys.length < sizeLine ∧ ∀ x H3, J.yld i H2 x H3 → tt (σ ++ [some x]) H3 fun b H4 => if b = true then te (σ ++ [some x]) H4 fun y H5 => H5 D = some (.lst ys) ∧ ∃ m', m' < m ∧ W (i + 1) m' (ys ++ [y]) (upd H5 D (.lst (ys ++ [y])))
        else ∃ m', m' < m ∧ W (i + 1) m' ys H4))) :
    wpAny (model X.prog X.w) X.A (newList []) (fun acc s₃ => wpAny (model X.prog X.w) X.A (newFunctionEnv sc X.env.globals cl [] X.env.qual none .none (some X.env)) (fun cenv s₄ =>
      codeAny (model X.prog X.w) X.A (.compStart (.ListComp elt [⟨.Name x px, iter, ifs, 0⟩] sc pos) 0 (.ref it) acc { cenv with scope := relabel sc X.env })
        (fun r s' => r = .ok .next ∧ ∃ D H', acc = .ref D ∧ Inv X pins σ H' s' ∧ Q (.ref D) H' ∧ CLoc X pins H' cenv.locals ∧ ∃ m, s'.heap.Ns cenv.locals m) s₄) E s₃) E s2 := by
  refine wpAny_newObj_type (wpAny_newFunctionEnv cn.cell (by intro y hy; simp at hy) (fun h₁ hns₁ hsb₁ => ?_) cn.kind)
  dsimp only at hns₁ hsb₁ ⊢
  have hD : H2 s2.heap.objs.size = none := I2.hok.fresh (Nat.le_refl _)
  obtain ⟨W, ⟨m0, w0⟩, turn⟩ := h2 s2.heap.objs.size hD
  have I3 : Inv X pins σ (upd H2 s2.heap.objs.size (.lst [])) { s2 with heap := s2.heap.push { cls := .type "list", dict := none, data := .seq ([] : List Value).toArray } } :=
    I2.laid (t' := s2.toks) (fun b u e => Heap.get?_push_of_some _ e) (Nat.le_refl _) ⟨Nat.zero_le _, [], 0, .nil, Heap.get?_push_size _ rfl⟩
  generalize hs3 : ({ s2 with heap := s2.heap.push { cls := .type "list", dict := none, data := .seq ([] : List Value).toArray } } : Shared) = s3 at I3
  have eh : s3.heap = s2.heap.push { cls := .type "list", dict := none, data := .seq ([] : List Value).toArray } := by rw [← hs3]
  have e2 : ({ s2 with heap := h₁, toks := s2.toks + ([] : List (Str × Value)).length } : Shared) = { s3 with heap := h₁, toks := s3.toks } := by rw [← hs3]; rfl
  generalize hH3 : upd H2 s2.heap.objs.size (.lst []) = H3 at I3 w0
  rw [← eh] at hns₁ hsb₁ ⊢
  rw [e2]
  have below2 : ∀ b, b ∈ fp → b < s3.heap.objs.size := fun b hb => by
    obtain ⟨o, e, _⟩ := T.obj _ _ st2 b hb
    have : s2.heap.objs.size ≤ s3.heap.objs.size := by rw [eh, Heap.size_push]; exact Nat.le_succ _
    exact Nat.lt_of_lt_of_le (Heap.lt_size e) this
  have old : ∀ b o, s3.heap.get? b = some o → h₁.get? b = some o := fun b o e => (hsb₁.2 b (Nat.ne_of_lt (Heap.lt_size e))).trans (Heap.get?_push_of_some _ e)
  have old2 : ∀ b o, s2.heap.get? b = some o → s3.heap.get? b = some o := fun b o e => by rw [eh]; exact Heap.get?_push_of_some _ e
  have hsz3 : s2.heap.objs.size < s3.heap.objs.size := by rw [eh, Heap.size_push]; exact Nat.lt_succ_self _
  have fpFree : ∀ b ∈ fp, H3 b = none := fun b hb => by
    rw [← hH3, upd_ne (fun z => ?_)]
    · exact (f2 b hb).1
    · obtain ⟨o, e, _⟩ := T.obj _ _ st2 b hb
      have := Heap.lt_size e
      rw [z] at this
      exact Nat.lt_irrefl _ this
  have rl : ∀ y, (relabel sc X.env).names.lookup y = (sc.names.lookup y).map fun k => if (k == NameKind.free && X.env.scope.kind == .function && X.env.kindOf y == some .cell) then NameKind.cell else k := fun y => lookup_relabel X.env sc.names y
  have freeOf : ∀ y, sc.names.lookup y = some .free → ∃ c, cl.lookup y = some c := fun y e => clH (y, .free) (PySem.mem_of_lookup e) rfl
  have noCell : ∀ y, sc.names.lookup y ≠ some .cell := fun y e => cn.cell (y, .cell) (PySem.mem_of_lookup e) rfl
  have isFree : ∀ y, ((relabel sc X.env).names.lookup y = some .cell ∨ (relabel sc X.env).names.lookup y = some .free) → sc.names.lookup y = some .free := fun y h => by
    rw [rl y] at h
    cases e : sc.names.lookup y with
    | none => rw [e] at h; rcases h with z | z <;> exact absurd z (by simp)
    | some k =>
      rw [e] at h
      cases k with
      | free => rfl
      | cell => exact absurd e (noCell y)
      | «local» => rcases h with z | z <;> exact absurd z (by simp)
      | _ => rcases h with z | z <;> exact absurd z (by simp)
  have ownLoc : (relabel sc X.env).names.lookup x = some .local := by rw [rl x, cn.own]; rfl
  have exOk : ∀ b ∈ fp, b ≠ s3.heap.objs.size ∧ (∀ y c, X.env.cells.lookup y = some c → c ≠ b) ∧ b ∉ frs X.stack := fun b hb => by
    obtain ⟨g0, g1, g2, g3, g4, g5⟩ := f2 b hb
    refine ⟨Nat.ne_of_lt (below2 b hb), g4, fun z => ?_⟩
    rcases List.mem_cons.mp (I2.stkSub b z) with z | z
    · exact g1 z
    · exact g2 z
  have hCnew : X.s₀.heap.objs.size ≤ s3.heap.objs.size := I3.sz
  have hCcell : ∀ y c, X.env.cells.lookup y = some c → c ≠ s3.heap.objs.size := fun y c e z => by
    obtain ⟨v, q⟩ := I3.cell y c e
    have := q.lt
    rw [z] at this
    exact Nat.lt_irrefl _ this
  have hCpin : ∀ p ∈ X.pn ++ pins, p.1 ≠ s3.heap.objs.size := fun p hp z => by
    have := Heap.lt_size (I3.pin p hp).1
    rw [z] at this
    exact Nat.lt_irrefl _ this
  have okc : (X.inComp Nc sc cl s3 H3 fp).Ok := by
    refine ⟨I3.ok.mod, cn.kind, I3.ok.glob, I3.ok.blt, Nat.le_refl _, fun y z c h1 h2 => I3.ok.inj y z c (clS y c h1) (clS z c h2), fun y hy => freeOf y (isFree y hy), fun y c hf => absurd (show false = true from hf) Bool.false_ne_true, I3.ok.hd, I3.ok.frames, .inl rfl,
      fun b hb => ⟨(exOk b hb).1, fun y c e => (exOk b hb).2.1 y c (clS y c e)⟩, fun b o e => I3.bs b o e, Nat.le_trans I3.ok.bsz I3.sz, fun b o e hb => ?_, fun b hb => (exOk b hb).2.2, I3.stack, I3.stkFree⟩
    obtain ⟨g0, g1, g2, g3, g4, g5⟩ := f2 b hb
    rcases g3 with z | z
    · exact I3.ok.noex b o e z
    · exact absurd (Heap.lt_size (I3.ok.bs b o e).1) (Nat.not_lt.mpr z)
  have hlen : σ.length = N.length := by rw [I3.len, hXN]
  have Ic : Inv (X.inComp Nc sc cl s3 H3 fp) [] (σ ++ [none]) H3 { s3 with heap := h₁, toks := s3.toks } := by
    refine ⟨okc, rfl, I3.bare, Un.kept old, ⟨_, hns₁, fun i y v h1 h2 h3 => ?_⟩, fun y c e => ?_, I3.hok.fresh (Nat.le_refl _), fun y c e => I3.freeC y c (clS y c e), fun p hp => absurd (show p ∈ ([] : List (Addr × Obj)) from hp) (by simp), I3.hok.kept old, ?_⟩
    · have hi : i < σ.length := by
        by_cases hi : i < σ.length
        · exact hi
        · rw [List.getElem?_append_right (Nat.not_lt.mp hi)] at h2
          cases e : i - σ.length with
          | zero => rw [e] at h2; cases h2
          | succ k => rw [e] at h2; simp at h2
      rw [List.getElem?_append_left hi] at h2
      have hi' : i < N.length := by rw [← hlen]; exact hi
      obtain ⟨n1, n2, n3⟩ := cn.at hi' h1
      have hf : sc.names.lookup y = some .free := by
        rcases h3 with z | z
        · exfalso
          have z' : (relabel sc X.env).names.lookup y = some .local := z
          rw [rl y] at z'
          cases e : sc.names.lookup y with
          | none => rw [e] at z'; simp at z'
          | some k =>
            rw [e] at z'
            cases k with
            | «local» => exact n1 e
            | cell => exact n2 e
            | free =>
              simp only [Option.map_some, Option.some.injEq] at z'
              split at z' <;> cases z'
            | _ => simp at z'
        · exact isFree y z
      have hN : X.N[i]? = some y := by rw [hXN]; exact n3 hf
      obtain ⟨m, hn, hl⟩ := I3.loc
      have hv : fsc.names.lookup y = some .cell ∨ fsc.names.lookup y = some .free := cn.fr (y, .free) (PySem.mem_of_lookup hf) rfl
      have hv' : X.env.scope.names.lookup y = some .cell ∨ X.env.scope.names.lookup y = some .free := by rw [hE]; exact hv
      obtain ⟨u, ru, lk⟩ := hl i y v hN h2 (.inr hv')
      refine ⟨u, ru, .inr ⟨?_, ?_⟩⟩
      · show (relabel sc X.env).names.lookup y = some .cell ∨ (relabel sc X.env).names.lookup y = some .free
        rw [rl y, hf]
        simp only [Option.map_some, Option.some.injEq]
        split
        · exact .inl rfl
        · exact .inr rfl
      · rcases lk with ⟨kl, _⟩ | ⟨_, c, hc, hcell⟩
        · exfalso
          have kl' : X.env.scope.names.lookup y = some .local := kl
          rw [kl'] at hv'
          rcases hv' with z | z <;> cases z
        · obtain ⟨d, hd⟩ := freeOf y hf
          have ed := clS y d hd
          rw [hc] at ed
          cases ed
          exact ⟨c, hd, hcell.keeps old⟩
    · obtain ⟨v, q⟩ := I3.cell y c (clS y c e)
      exact ⟨v, q.keeps old⟩
    · show (σ ++ [none]).length = Nc.length
      rw [List.length_append, hlen, cn.len]
      rfl
  have stc : tn 0 ({ s3 with heap := h₁, toks := s3.toks } : Shared).heap := T.keep _ _ _ st2 fun b _ o e => old b o (old2 b o e)
  have hDf : s2.heap.objs.size ∉ fp := fun hm => by
    obtain ⟨o, e, _⟩ := T.obj _ _ st2 _ hm
    exact Nat.lt_irrefl _ (Heap.lt_size e)
  have fpc : ∀ {pins' : List (Addr × Obj)} {H' : Hp}, pins' = [] → (∀ b ∈ fp, H' b = none) → ∀ b ∈ fp, FpOk (X.inComp Nc sc cl s3 H3 fp) pins' H' b := fun {pins' H'} hp hn b hb => by
    subst hp
    exact ⟨hn b hb, (exOk b hb).1, (exOk b hb).2.2, .inl hb, fun y c e => (exOk b hb).2.1 y c (clS y c e), fun p hp => absurd (show p ∈ ([] : List (Addr × Obj)) from hp) (by simp)⟩
  have hg : PG (X.inComp Nc sc cl s3 H3 fp) (.Name x px) (gName σ.length) := pg_name (X := X.inComp Nc sc cl s3 H3 fp) cn.nd (by show Nc[σ.length]? = some x; rw [hlen]; exact cn.last) (.inl ownLoc) (.inr ownLoc)
  have loop : ∀ s₄ : Shared, s₄ = { s3 with heap := h₁, toks := s3.toks } →
      codeAny (model X.prog X.w) X.A (.compLoop (.ListComp elt [⟨.Name x px, iter, ifs, 0⟩] sc pos) 0 (.ref it) (.ref s2.heap.objs.size) (compEnvC sc cl s3.heap.objs.size X.env))
        (fun r s' => r = .ok .next ∧ ∃ D H', (Value.ref s2.heap.objs.size) = .ref D ∧ Inv X pins σ H' s' ∧ Q (.ref D) H' ∧ CLoc X pins H' s3.heap.objs.size ∧ ∃ m, s'.heap.Ns s3.heap.objs.size m) s₄ := by
    rintro s₄ rfl
    refine codeAny_compLoop_tests (fun n s' => ∃ (i : Nat) (o : Option V) (H' : Hp) (ys : List V), Inv (X.inComp Nc sc cl s3 H3 fp) [] (σ ++ [o]) H' s' ∧ tn i s'.heap ∧ (∀ b ∈ fp, H' b = none) ∧ W i n ys H') ?_ m0 ⟨0, none, H3, [], Ic, stc, fpFree, w0⟩
    rintro n s' ⟨i, o, H', ys, I', st', fr', w'⟩
    obtain ⟨hDl, tw⟩ := turn i n ys H' w'
    rcases tw with ⟨stop, q⟩ | ⟨go, hz, step⟩
    ·
      refine thn (T.done (X.inComp Nc sc cl s3 H3 fp) rfl rfl rfl hc i [] s' _ H' _ I' (fpc rfl fr') st' stop) fun r s5 ⟨hr, I5⟩ => ?_
      subst hr
      have Ix : Inv X pins σ H' s5 := I3.call' (ch := fp) I5.os I5.base I5.hok I5.bare fun b hb => by
        obtain ⟨g0, g1, g2, g3, g4, g5⟩ := f2 b hb
        exact ⟨g3, g1, g4, g5⟩
      have hCf : H' s3.heap.objs.size = none := I5.free
      obtain ⟨m, hn, _⟩ := I5.loc
      exact ⟨rfl, s2.heap.objs.size, H', rfl, Ix, q, ⟨hCf, fun z => Nat.lt_irrefl _ (by have := I3.lt; rw [← z] at this; exact this), hCnew, hCcell, hCpin⟩, m, hn⟩
    ·
      refine thn (T.item (X.inComp Nc sc cl s3 H3 fp) rfl rfl rfl hc i [] s' _ H' _ I' (fpc rfl fr') st' go) fun r s5 ⟨u, hr, h4⟩ => ?_
      subst hr
      dsimp only
      have e0 : letOwnedTupleGo (.Name x px) (.ref it) u = pure () := rfl
      have e1 : (letOwnedTupleGo (.Name x px) (.ref it) u >>= fun _ => assign (.Name x px) (compEnvC sc cl s3.heap.objs.size X.env) u) = assign (.Name x px) (compEnvC sc cl s3.heap.objs.size X.env) u := by rw [e0, pure_bind]
      rw [← e1]
      refine wpAny_bind (thn h4 fun _ s6 ⟨xv, H5, I5, r5, y5, st5, fr5⟩ => ?_)
      have I5' := I5.pinned (fpc rfl fr5) (T.obj _ _ st5)
      have again : ∀ {H7 : Hp} {s7 : Shared} {m' : Nat} {ys' : List V}, Inv (X.inComp Nc sc cl s3 H3 fp) ([] ++ pinsAt fp s6.heap) (σ ++ [some xv]) H7 s7 → m' < n → W (i + 1) m' ys' H7 →
          ∃ m, m < n ∧ ∃ (i : Nat) (o : Option V) (H' : Hp) (ys : List V), Inv (X.inComp Nc sc cl s3 H3 fp) [] (σ ++ [o]) H' s7 ∧ tn i s7.heap ∧ (∀ b ∈ fp, H' b = none) ∧ W i m ys H' := fun {H7 s7 m' ys'} I7 hm w7 => by
        refine ⟨m', hm, i + 1, some xv, H7, ys', I7.unpinned, T.keep _ _ _ st5 fun b hb o e => (I7.pin (b, o) (List.mem_append_right _ (List.mem_append_right _ (mem_pinsAt hb e)))).1, fun b hb => ?_, w7⟩
        obtain ⟨o', e, d⟩ := T.obj _ _ st5 b hb
        exact (I7.pin (b, o') (List.mem_append_right _ (List.mem_append_right _ (mem_pinsAt hb e)))).2.1
      refine thnF (hg _ s6 _ H5 xv u (fun σ' H'' => σ' = σ ++ [some xv] ∧ H'' = H5) I5' r5 ⟨set_last, rfl⟩) fun _ s7 ⟨σ7, H7, I7, e7, e7'⟩ => ?_
      subst e7
      subst e7'
      refine thnF (ht cl s3 H3 fp _ s7 _ _ _ I7 (step xv _ y5)) fun b s8 ⟨H8, I8, q8⟩ => ?_
      cases b with
      | false =>
        rw [if_neg Bool.false_ne_true] at q8 ⊢
        obtain ⟨m', hm, w8⟩ := q8
        exact again I8 hm w8
      | true =>
        rw [if_pos rfl] at q8 ⊢
        refine thnF (he cl s3 H3 fp _ s8 _ H8 _ I8 q8) fun y s9 ⟨yv, H9, I9, r9, hD9, m', hm, w9⟩ => ?_
        refine thnF (mt_append _ s9 _ H9 (.ref s2.heap.objs.size) [yv] (.ref s2.heap.objs.size) [y] (fun v H => v = .non ∧ H = upd H9 s2.heap.objs.size (.lst (ys ++ [yv]))) I9 rfl (.cons r9 .nil) ⟨_, ys, yv, rfl, rfl, hD9, hz, rfl, rfl⟩) fun _ s10 ⟨v10, H10, I10, r10, e10, e11⟩ => ?_
        subst e11
        exact again I10 hm w9
  exact codeAny_compStart_list (loop _ rfl) (T.self _ 0 _ _ _ stc (loop _ rfl))
theorem comp_has (I : ∀ y, (X.env.kindOf y = some .cell ∨ X.env.kindOf y = some .free) → ∃ c, X.env.cells.lookup y = some c) (hE : X.env.scope = fsc) (cn : CompN N Nc x sc fsc) : ∀ y ∈ sc.names, y.2 = .free → ∃ c, X.env.cells.lookup y.1 = some c := fun y hy hf => by
  refine I y.1 ?_
  show X.env.scope.names.lookup y.1 = some .cell ∨ X.env.scope.names.lookup y.1 = some .free
  rw [hE]
  exact cn.fr y hy hf
theorem pe_comp (hE : X.env.scope = fsc) (hXN : X.N = N) (cn : CompN N Nc x sc fsc) (hc : X.calm = true) (hi : PI X (.Name x px) iter wi)
    (ht : ∀ cl s H ex, PIfs (X.inComp Nc sc cl s H ex) ifs tt) (he : ∀ cl s H ex, PE (X.inComp Nc sc cl s H ex) elt te)
    (hs : ∀ v, foldedSetIterable iter X.env v = pure v := by intro _; rfl) : PE X (.ListComp elt [⟨.Name x px, iter, ifs, 0⟩] sc pos) (tComp wi tt te) := by
  intro pins s σ H Q I h
  obtain ⟨cl, hcl, clS, clH⟩ := closure_ok (env := X.env) (sc := sc) (comp_has I.ok.has hE cn)
  rw [eval_ListComp]
  refine wpAny_comprehension_free (use := none) rfl hs hcl cn.kind cn.nm (thn (hi pins s σ H _ I h) fun v s1 h1 => thn h1 fun itv s2 h2 => ?_)
  obtain ⟨it, fp, tn, J, H2, rfl, I2, T, st2, f2, h2⟩ := h2
  refine thn (comp_core (pos := pos) (iter := iter) hE hXN cn hc ht he clS clH I2 T st2 f2 h2) fun acc s3 h3 => thn h3 fun cenv s4 h4 => codeAny_mono h4 fun r s' h5 => ?_
  obtain ⟨rfl, D, H', rfl, I', q, cloc, m, hn⟩ := h5
  exact ⟨m, hn, fun h' k => ⟨.ref D, H', I'.sameBut cloc k, rfl, q⟩⟩
theorem ps_setC {j : Nat} {y : Str} {py spos : Pos} (hE : X.env.scope = fsc) (hXN : X.N = N) (cn : CompN N Nc x sc fsc) (hc : X.calm = true) (hnd : X.N.Nodup) (hj : X.N[j]? = some y) (hy : X.env.scope.names.lookup y = some .local) (hi : PI X (.Name x px) iter wi)
    (ht : ∀ cl s H ex, PIfs (X.inComp Nc sc cl s H ex) ifs tt) (he : ∀ cl s H ex, PE (X.inComp Nc sc cl s H ex) elt te)
    (hsw : swapsWith (.ListComp elt [⟨.Name x px, iter, ifs, 0⟩] sc pos) (some (.Name y py)) spos.line X.env = pure true)
    (hs : ∀ v, foldedSetIterable iter X.env v = pure v := by intro _; rfl) : PS X (.Assign [.Name y py] (.ListComp elt [⟨.Name x px, iter, ifs, 0⟩] sc pos) spos) (tAsg (tComp wi tt te) (gName j)) := by
  intro pins s σ H D I h
  obtain ⟨cl, hcl, clS, clH⟩ := closure_ok (env := X.env) (sc := sc) (comp_has I.ok.has hE cn)
  rw [exec_Assign_Name_used _ _ _ _ hsw]
  refine wpAny_bind (wpAny_standAt (wpAny_bind ?_))
  show wpAny _ X.A (do let _ ← comprehension (.ListComp elt [⟨.Name x px, iter, ifs, 0⟩] sc pos) sc X.env _ (newList []) false (eval iter X.env) (some (assign (.Name y py) X.env))) _ _ s
  refine wpAny_bind (thn (wpAny_comprehension_free (Q := fun _ s' => SP X pins D .next s') rfl hs hcl cn.kind cn.nm (thn (hi pins s σ H _ I h) fun v s1 h1 => thn h1 fun itv s2 h2 => ?_)) fun _ s' hq => wpAny_pure (wpAny_pure hq))
  obtain ⟨it, fp, tn, J, H2, rfl, I2, T, st2, f2, h2⟩ := h2
  refine thn (comp_core (pos := pos) (iter := iter) (Q := fun x H1 => gName j x σ H1 D.nx) hE hXN cn hc ht he clS clH I2 T st2 f2 h2) fun acc s3 h3 => thn h3 fun cenv s4 h4 => codeAny_mono h4 fun r s' h5 => ?_
  obtain ⟨rfl, D', H', rfl, I', q, cloc, m, hn⟩ := h5
  refine wpAny_assign_Name (store_ok2 (v := .ref D') I' hnd hj (.inl hy) rfl (fun s6 I6 sb => ?_) (.inr hy))
  obtain ⟨a, k, ha⟩ := sb
  refine ⟨m, hn.sameBut k (fun z => ?_), fun h' k' => ⟨_, H', I6.sameBut cloc k', q⟩⟩
  rcases ha with ha | ha
  · exact cloc.ne (z.trans ha)
  · exact cloc.cells _ _ ha z.symm
end
theorem comp_range {lo : Int} {n : Nat} {tt : TT} {te : TE} {σ : St} {H1 : Hp} {Q : Addr → Hp → Prop} (hn : n ≤ sizeLine) (Pv : Addr → Nat → List V → Hp → Prop)
    (h0 : ∀ D, H1 D = none → Pv D 0 [] (upd H1 D (.lst []))) (hD : ∀ D i ys H, Pv D i ys H → H D = some (.lst ys) ∧ ys.length ≤ i)
    (hs : ∀ D i ys H (K1 : VK) (K2 : Hp → Prop), H1 D = none → i < n → Pv D i ys H → (∀ y H5, H5 D = some (.lst ys) → Pv D (i + 1) (ys ++ [y]) (upd H5 D (.lst (ys ++ [y]))) → K1 y H5) → (∀ H4, Pv D (i + 1) ys H4 → K2 H4) →
      tt (σ ++ [some (.int (lo + i))]) H fun b H4 => if b = true then te (σ ++ [some (.int (lo + i))]) H4 K1 else K2 H4)
    (hd : ∀ D ys H, H1 D = none → Pv D n ys H → Q D H) :
    ∀ D, H1 D = none → ∃ W : Nat → Nat → List V → Hp → Prop, (∃ m, W 0 m [] (upd H1 D (.lst []))) ∧ ∀ i m ys H2, W i m ys H2 →
      H2 D = some (.lst ys) ∧ (((Itr lo n).stop i H2 ∧ Q D H2) ∨ ((Itr lo n).go i H2 ∧ ys.length < sizeLine ∧ ∀ x H3, (Itr lo n).yld i H2 x H3 → tt (σ ++ [some x]) H3 fun b H4 => if b = true then te (σ ++ [some x]) H4 fun y H5 => H5 D = some (.lst ys) ∧ ∃ m', m' < m ∧ W (i + 1) m' (ys ++ [y]) (upd H5 D (.lst (ys ++ [y])))
        else ∃ m', m' < m ∧ W (i + 1) m' ys H4)) := by
  intro D hDn
  refine ⟨fun i m ys H => m = n - i ∧ i ≤ n ∧ Pv D i ys H, ⟨n, rfl, Nat.zero_le _, h0 D hDn⟩, ?_⟩
  rintro i m ys H2 ⟨rfl, hi, p⟩
  obtain ⟨e, l⟩ := hD D i ys H2 p
  refine ⟨e, ?_⟩
  by_cases hlt : i < n
  · refine .inr ⟨hlt, Nat.lt_of_le_of_lt l (Nat.lt_of_lt_of_le hlt hn), fun x H3 y => ?_⟩
    obtain ⟨e1, e2⟩ := y
    subst e1 e2
    exact hs D i ys _ _ _ hDn hlt p (fun y H5 h5 p5 => ⟨h5, n - (i + 1), by omega, rfl, hlt, p5⟩) fun H4 p4 => ⟨n - (i + 1), by omega, rfl, hlt, p4⟩
  · have ei : i = n := by omega
    subst ei
    exact .inl ⟨Nat.le_refl _, hd D ys H2 hDn p⟩
theorem comp_list {K : PySem.W.Frag} {a : Addr} {xs : List V} {tt : TT} {te : TE} {σ : St} {H1 : Hp} {Q : Addr → Hp → Prop} (hn : xs.length ≤ sizeLine) (Pv : Addr → Nat → List V → Hp → Prop)
    (h0 : ∀ D, H1 D = none → Pv D 0 [] (upd H1 D (.lst []))) (hD : ∀ D i ys H, Pv D i ys H → H D = some (.lst ys) ∧ ys.length ≤ i) (hl : ∀ D i ys H, H1 D = none → Pv D i ys H → SqL K H a xs)
    (hs : ∀ D i x ys H (K1 : VK) (K2 : Hp → Prop), H1 D = none → xs[i]? = some x → Pv D i ys H → (∀ y H5, H5 D = some (.lst ys) → Pv D (i + 1) (ys ++ [y]) (upd H5 D (.lst (ys ++ [y]))) → K1 y H5) → (∀ H4, Pv D (i + 1) ys H4 → K2 H4) →
      tt (σ ++ [some x]) H fun b H4 => if b = true then te (σ ++ [some x]) H4 K1 else K2 H4)
    (hd : ∀ D ys H, H1 D = none → Pv D xs.length ys H → Q D H) :
    ∀ D, H1 D = none → ∃ W : Nat → Nat → List V → Hp → Prop, (∃ m, W 0 m [] (upd H1 D (.lst []))) ∧ ∀ i m ys H2, W i m ys H2 →
      H2 D = some (.lst ys) ∧ (((Itl K a).stop i H2 ∧ Q D H2) ∨ ((Itl K a).go i H2 ∧ ys.length < sizeLine ∧ ∀ x H3, (Itl K a).yld i H2 x H3 → tt (σ ++ [some x]) H3 fun b H4 => if b = true then te (σ ++ [some x]) H4 fun y H5 => H5 D = some (.lst ys) ∧ ∃ m', m' < m ∧ W (i + 1) m' (ys ++ [y]) (upd H5 D (.lst (ys ++ [y])))
        else ∃ m', m' < m ∧ W (i + 1) m' ys H4)) := by
  intro D hDn
  refine ⟨fun i m ys H => m = xs.length - i ∧ i ≤ xs.length ∧ Pv D i ys H, ⟨xs.length, rfl, Nat.zero_le _, h0 D hDn⟩, ?_⟩
  rintro i m ys H2 ⟨rfl, hi, p⟩
  obtain ⟨e, l⟩ := hD D i ys H2 p
  have q := hl D i ys H2 hDn p
  refine ⟨e, ?_⟩
  by_cases hlt : i < xs.length
  · refine .inr ⟨⟨xs, xs[i], q, by simp [hlt]⟩, Nat.lt_of_le_of_lt l (Nat.lt_of_lt_of_le hlt hn), fun x H3 y => ?_⟩
    obtain ⟨e1, y⟩ := y
    subst e1
    exact hs D i x ys _ _ _ hDn (y xs q) p (fun y H5 h5 p5 => ⟨h5, xs.length - (i + 1), by omega, rfl, hlt, p5⟩) fun H4 p4 => ⟨xs.length - (i + 1), by omega, rfl, hlt, p4⟩
  · have ei : i = xs.length := by omega
    subst ei
    exact .inl ⟨⟨xs, q, Nat.le_refl _⟩, hd D ys H2 hDn p⟩
section
variable {X : Cx}
theorem ix_listK (K : PySem.W.Frag) (h : X.K = K := by rfl) : IxR X (rIxL K) := by subst h; exact ix_list
theorem ix_tupK (K : PySem.W.Frag) (h : X.K = K := by rfl) : IxR X (rIxT K) := by subst h; exact ix_tup
theorem call_lenK (K : PySem.W.Frag) (h : X.K = K := by rfl) : CallR X (.builtin "len") (fun xs H Q => ∃ x n, xs = [x] ∧ LenV K x H n ∧ Q (.int n) H) := by subst h; exact call_len
end
end L2
namespace L2
open PySem PySem.Spec PyProof.Rows
section
variable {X : Cx}
end
end L2
namespace L2
open PySem PySem.Spec PyProof.Rows
def Rec (h : Heap) (e : Addr) (cls : Value) (od T : Option Addr) (fl : Value) : Prop :=
  ∃ oe vs, h.get? e = some oe ∧ oe.cls = cls ∧ oe.dict = od ∧ oe.data = .fields vs ∧
    match T with
    | none => vs[1]? = some .none
    | some t => vs[1]? = some (.ref t) ∧ t ≠ e ∧ ∃ oT ts, h.get? t = some oT ∧ oT.data = .fields ts ∧ ts[3]? = some fl
structure Keep (fs xs : List Addr) (h h' : Heap) : Prop where
  keep : ∀ b o, h.get? b = some o → b ∉ fs → b ∉ xs → h'.get? b = some o
  slot : ∀ b o, h.get? b = some o → b ∈ fs → b ∉ xs → ∃ sl, h'.get? b = some { o with slots := sl }
  there : ∀ b o, h.get? b = some o → ∃ o', h'.get? b = some o'
theorem Keep.any {fs xs : List Addr} {h h' : Heap} (k : Keep fs xs h h') {b : Addr} {o : Obj} (e : h.get? b = some o) (n : b ∉ xs) : ∃ sl, h'.get? b = some { o with slots := sl } := by
  by_cases hb : b ∈ fs
  · exact k.slot b o e hb n
  · exact ⟨o.slots, k.keep b o e hb n⟩
theorem Keep.mono {fs fs' xs xs' : List Addr} {h h' : Heap} (k : Keep fs xs h h') (hf : ∀ b ∈ fs, b ∈ fs') (hx : ∀ b ∈ xs, b ∈ xs') : Keep fs' xs' h h' :=
  ⟨fun b o e n m => k.keep b o e (fun z => n (hf b z)) fun z => m (hx b z), fun b o e _ m => k.any e fun z => m (hx b z), k.there⟩
theorem Keep.trans {fs xs : List Addr} {h h1 h2 : Heap} (a : Keep fs xs h h1) (b : Keep fs xs h1 h2) : Keep fs xs h h2 where
  keep := fun c o e n m => b.keep c o (a.keep c o e n m) n m
  slot := fun c o e n m => by
    obtain ⟨sl, e1⟩ := a.slot c o e n m
    obtain ⟨sl', e2⟩ := b.slot c _ e1 n m
    exact ⟨sl', e2⟩
  there := fun c o e => let ⟨o1, e1⟩ := a.there c o e; b.there c o1 e1
section
variable {M : Model} {A : Around} {E : Value → Shared → Prop} {s : Shared} {env : Env} {outer : List Env} {L e : Addr} {base : Heap}
end
end L2
namespace L2
open PySem PySem.Spec PyProof.Rows
structure Mine (X : Cx) (pins : List (Addr × Obj)) (H : Hp) (b : Addr) : Prop where
  un : H b = none
  new : X.s₀.heap.get? b = none
  loc : b ≠ X.env.locals
  cel : ∀ x c, X.env.cells.lookup x = some c → c ≠ b
  pin : ∀ p ∈ X.pn ++ pins, p.1 ≠ b
def Fly (X : Cx) (pins : List (Addr × Obj)) (H : Hp) (e : Addr) (cls : Value) (od : Option Addr) (s : Shared) : Prop :=
  ∃ T fl, Rec s.heap e cls od T fl ∧ (T = none ∨ fl = .none ∨ ∃ L : Addr, X.env.frame = some L ∧ fl = rawInt L) ∧ ∀ b ∈ e :: T.toList, Mine X pins H b
structure Body (X : Cx) : Prop where
  stk : X.stack = X.env :: X.outer
  fr : X.env.frame = some X.env.locals
  ex : X.ex = []
theorem HOk.there {P : Program} {w : World} {H : Hp} {h : Heap} {a : Addr} {o : HO} (k : HOk P w H h) (z : H a = some o) : ∃ ob, h.get? a = some ob := by
  have x := k a o z
  cases o with
  | lst xs => obtain ⟨_, _, _, _, e⟩ := x; exact ⟨_, e⟩
  | tup xs => obtain ⟨_, _, _, ob, e, _⟩ := x; exact ⟨ob, e⟩
  | dK kvs => obtain ⟨_, _, _, _, ob, _, _, e, _⟩ := x; exact ⟨ob, e⟩
  | dT kvs => obtain ⟨_, _, _, _, ob, _, _, e, _⟩ := x; exact ⟨ob, e⟩
  | set S n => obtain ⟨ob, _, _, _, e, _⟩ := x; exact ⟨ob, e⟩
  | ins C dx fs => obtain ⟨_, _, _, e, _⟩ := x; exact ⟨_, e⟩
  | own y => exact x
  | xd fs => obtain ⟨_, ⟨ob, _, _, e, _⟩, _⟩ := x; exact ⟨ob, e⟩
  | rng lo hi => obtain ⟨_, _, _, e⟩ := x; exact ⟨_, e⟩
  | frz ob u => obtain ⟨e, _⟩ := x; exact ⟨ob, e⟩
  | tbl ps => exact ⟨_, (show h.get? a = some _ from x)⟩
  | met f y => exact ⟨_, (show h.get? a = some _ from x)⟩
  | ext φ => obtain ⟨_, e, _⟩ := x; exact e
section
variable {X : Cx} {pins : List (Addr × Obj)} {σ : St} {H : Hp} {s : Shared} {e : Addr} {cls : Value} {od : Option Addr}
end
def Wish (X : Cx) (W : St → XK) (ev : Value) (s : Shared) : Prop := ∃ σ H e cls od, ev = .ref e ∧ Inv X [] σ H s ∧ Fly X [] H e cls od s ∧ W σ cls od H
abbrev Cx.wants (X : Cx) (W : St → XK) : Cx := X.wish (Wish X W)
def CX1 (P : Program) (w : World) : CXT := fun outer H s E ev s' => ∃ e cls od H' t, ev = .ref e ∧ s'.os = s.os ∧ AllBare s'.gens ∧ Un (frs outer) [] H H' s.heap s'.heap ∧ HOk P w H' s'.heap ∧
  Rec s'.heap e cls od (some t) .none ∧ (∀ b ∈ [e, t], H' b = none ∧ s.heap.get? b = none) ∧ E cls od H'
section
variable {X : Cx} {pins : List (Addr × Obj)} {σ : St} {H : Hp} {s s' : Shared} {E : XK} {ev : Value}
end
theorem FnOk.up {P : Program} {w : World} {K : PySem.W.Frag} {mg : Str → Option Value} {base : Heap} {k : Nat} {f : Addr} {fd : FuncData} {ps : List Str} {sp : Sp} (F : FnOk P w K mg base CX0 k f fd ps sp) : FnOk P w K mg base (CX1 P w) k f fd ps sp :=
  ⟨F.len, fun A outer s H args us vs Q E hr he hb hv hs => codeAny_mono (F.run A outer s H args us vs Q E hr he hb hv hs) fun r s' z => by
    cases r with
    | error e => exact False.elim z
    | ok fl => cases fl <;> exact z⟩
section
variable {X : Cx} {W : St → XK} {k : Nat} {f : Addr} {fd : FuncData} {ps : List Str} {sp : Sp} {dvs : List V} {ds : List Value} {x : Str} {p pos : Pos} {e : Expr} {es : List Expr} {t : TA}
end
end L2
namespace L2
open PySem PySem.Spec PyProof.Rows
abbrev veMro : List Value := [.type "ValueError", .type "Exception", .type "BaseException", .type "object"]
abbrev XCls (K : PySem.W.Frag) (C : Addr) : Prop := PySem.W.excIn K C veMro "ValueError.__new__" = true
section
variable {X : Cx} {W : St → XK} {C : Addr} {x : Str} {p cpos pos : Pos} {e : Expr} {es : List Expr} {t : TA}
end
def ExcO (e : Addr) (cls : Value) (od : Option Addr) : Heap → Prop := fun h => ∃ oe vs, h.get? e = some oe ∧ oe.cls = cls ∧ oe.dict = od ∧ oe.data = .fields vs
abbrev hoX (e : Addr) (cls : Value) (od : Option Addr) : HO := .ext (ExcO e cls od)
theorem ExcO.ok {P : Program} {w : World} {H : Hp} {h : Heap} {e : Addr} {cls : Value} {od : Option Addr} (x : ExcO e cls od h) : ObjOk P w H h e (hoX e cls od) := by
  refine ⟨x, ?_, fun h1 h2 y k => ?_⟩
  · obtain ⟨oe, _, z, _⟩ := x; exact ⟨oe, z⟩
  · obtain ⟨oe, vs, z, r⟩ := y; exact ⟨oe, vs, k _ z, r⟩
section
variable {X : Cx} {pins : List (Addr × Obj)} {σ : St} {H : Hp} {s : Shared} {e : Addr} {cls : Value} {od : Option Addr}
end
abbrev Cx.suite (X : Cx) (e : Addr) : Cx := { X with A := X.A.mark (some (.ref e)), calm := false, xe := fun _ _ => False }
theorem Inv.suite {X : Cx} {pins : List (Addr × Obj)} {σ : St} {H : Hp} {s : Shared} (I : Inv X pins σ H s) (e : Addr) : Inv (X.suite e) pins σ H s :=
  ⟨⟨I.ok.mod, I.ok.kind, I.ok.glob, I.ok.blt, I.ok.above, I.ok.inj, I.ok.has, I.ok.cab, (fun z => absurd (show false = true from z) Bool.false_ne_true), I.ok.frames, I.ok.stk, I.ok.exf, I.ok.bs, I.ok.bsz, I.ok.noex, I.ok.exfs, I.ok.funs, I.ok.frf⟩, I.os, I.bare, I.base, I.loc, I.cell, I.free, I.freeC, I.pin, I.hok, I.len⟩
abbrev Cx.pin (X : Cx) (pins : List (Addr × Obj)) : Cx := { X with pn := X.pn ++ pins }
theorem Cx.Ok.pin {X : Cx} (ok : X.Ok) (pins : List (Addr × Obj)) : (X.pin pins).Ok :=
  ⟨ok.mod, ok.kind, ok.glob, ok.blt, ok.above, ok.inj, ok.has, ok.cab, ok.hd, ok.frames, ok.stk, ok.exf, ok.bs, ok.bsz, ok.noex, ok.exfs, ok.funs, ok.frf⟩
theorem Fly.unpinned {X : Cx} {pins : List (Addr × Obj)} {H : Hp} {s : Shared} {e : Addr} {cls : Value} {od : Option Addr} (F : Fly (X.pin pins) [] H e cls od s) : Fly X pins H e cls od s := by
  obtain ⟨T, fl, R, hf, hm⟩ := F
  exact ⟨T, fl, R, hf, fun b hb => let m := hm b hb; ⟨m.un, m.new, m.loc, m.cel, fun p hp => m.pin p (by rw [List.append_nil]; exact hp)⟩⟩
abbrev TH := Value → Option Addr → TS
structure HCls (K : PySem.W.Frag) (C : Addr) : Prop where
  ty : PySem.W.typeIn K (.ref C) = some (.type "type")
  ex : PySem.W.mroIn K C (.type "BaseException") = some true
section
variable {X : Cx} {pins : List (Addr × Obj)} {σ : St} {H : Hp} {s : Shared} {e C : Addr} {cls : Value} {od : Option Addr} {x n : Str} {i : Nat} {np pos : Pos} {b₀ : Stmt} {suite : List Stmt} {rest : List ExceptHandler} {ts : TS} {tr : TH}
end
end L2
namespace L2
open PySem PySem.Spec PyProof.Rows
structure XGet (K : PySem.W.Frag) (C : Addr) : Prop where
  ga : PySem.W.findIn K (.ref C) "__getattribute__" = some (some (.builtin "BaseException.__getattribute__"))
  gh : PySem.W.findIn K (.ref C) "__getattr__" = some none
  be : PySem.W.mroIn K C (.type "BaseException") = some true
section
variable {prog : Program} {w : World} {A : Around} {E : Value → Shared → Prop} {s : Shared} {K : PySem.W.Frag} {a C : Addr} {o : Obj} {od : Option Obj} {name : Str} {tk : Tok}
end
structure XKit (K : PySem.W.Frag) (C : Addr) : Prop extends XGet K C where
  cl : PySem.W.findIn K (.ref C) "__class__" = some (some (.builtin "object.__class__"))
  gt : PySem.W.specialIn K (.builtin "object.__class__") "__get__" = some (some (.builtin "getset_descriptor.__get__"))
  tk : PySem.W.takesIn K (.builtin "object.__class__") = some true
  ob : PySem.W.mroIn K C (.type "object") = some true
def XdO (dx : Addr) (fs : List (Str × V)) : Heap → Prop := fun h => ∃ mA, h.Ns1 dx mA ∧ (∀ f, RelO (fs.lookup f) (mA f)) ∧ PySem.Within mA (fs.map (·.1))
abbrev hoD (dx : Addr) (fs : List (Str × V)) : HO := .ext (XdO dx fs)
theorem XdO.ok {P : Program} {w : World} {H : Hp} {h : Heap} {dx : Addr} {fs : List (Str × V)} (x : XdO dx fs h) : ObjOk P w H h dx (hoD dx fs) := by
  refine ⟨x, ?_, fun h1 h2 y k => ?_⟩
  · obtain ⟨mA, ⟨o, _, _, z, _⟩, _⟩ := x; exact ⟨o, z⟩
  · obtain ⟨mA, n, r⟩ := y
    exact ⟨mA, n.at fun o q => k o q, r⟩
def XDict (H : Hp) (od : Option Addr) : Prop := od = none ∨ ∃ dx fs, od = some dx ∧ H dx = some (hoD dx fs)
theorem XDict.same {H H' : Hp} {od : Option Addr} (e : Same H H') (h : XDict H od) : XDict H' od := by
  rcases h with h | ⟨dx, fs, h1, h2⟩
  · exact .inl h
  · exact .inr ⟨dx, fs, h1, e _ _ h2⟩
section
variable {X : Cx}
end
end L2
namespace L2
open PySem PySem.Spec PyProof.Rows
section
variable {X : Cx}
end
section
variable {K : PySem.W.Frag} {H H' : Hp} {x : V} {b : Bool}
theorem kit_tt {T c : String} (h : (if ((Value.type T) == (Value.type c)) = true then some true else (if PySem.W.kitMeta c = true then (PySem.fastBuiltinMro T).map (·.contains (Value.type c)) else none)) = some b) : PySem.W.kitOne K (.type T) (.type c) = some b := h
def Wh (K : PySem.W.Frag) (H : Hp) (x : V) (b : Bool) : Prop := ∃ t b1 b2, TyOf K H x t ∧ PySem.W.kitOne K t (.type "int") = some b1 ∧ PySem.W.kitOne K t (.type "bool") = some b2 ∧ (b1 && !b2) = b
theorem Wh.int (i : Int) : Wh K H (.int i) true := ⟨_, _, _, .int i, kit_int_int, kit_int_bool, rfl⟩
theorem Wh.bl (c : Bool) : Wh K H (.bl c) false := ⟨_, true, true, .bl c, kit_tt (by decide +kernel), kit_bool_bool, rfl⟩
theorem Wh.non : Wh K H .non false := ⟨_, false, false, .non, kit_tt (by decide +kernel), kit_tt (by decide +kernel), rfl⟩
theorem Wh.str (z : Str) : Wh K H (.str z) false := ⟨_, false, false, .str z, kit_tt (by decide +kernel), kit_tt (by decide +kernel), rfl⟩
theorem Wh.tup {a : Addr} {xs : List V} (h : H a = some (.tup xs)) : Wh K H (.ref a) false := ⟨_, false, false, .tup h, kit_tt (by decide +kernel), kit_tt (by decide +kernel), rfl⟩
theorem Wh.lst {a : Addr} {xs : List V} (h : H a = some (.lst xs)) : Wh K H (.ref a) false := ⟨_, false, false, .lst h, kit_tt (by decide +kernel), kit_tt (by decide +kernel), rfl⟩
theorem Wh.dK {a : Addr} {kvs : List (Key × V)} (h : H a = some (.dK kvs)) : Wh K H (.ref a) false := ⟨_, false, false, .dK h, kit_tt (by decide +kernel), kit_tt (by decide +kernel), rfl⟩
theorem TyOf.same {t : Value} (e : Same H H') (h : TyOf K H x t) : TyOf K H' x t := by
  cases h with
  | non => exact .non
  | bl c => exact .bl c
  | int i => exact .int i
  | str z => exact .str z
  | flt z => exact .flt z
  | lst q => exact .lst (e _ _ q)
  | frz q => exact .frz (e _ _ q)
  | tup q => exact .tup (e _ _ q)
  | dK q => exact .dK (e _ _ q)
  | dT q => exact .dT (e _ _ q)
  | ins q cl ha hn htk hm => exact .ins (e _ _ q) cl ha hn htk hm
theorem Wh.same (e : Same H H') (h : Wh K H x b) : Wh K H' x b := by
  obtain ⟨t, b1, b2, ty, r⟩ := h
  exact ⟨t, b1, b2, ty.same e, r⟩
end
section
variable {K : PySem.W.Frag} {A B : Addr}
theorem HCls.some {C : Addr} (c : HCls K C) : (PySem.W.clsIn K C).isSome = true := by
  obtain ⟨cd, h1, _⟩ := Option.bind_eq_some_iff.mp c.ex
  rw [h1]; rfl
end
end L2
namespace L2
open PySem PySem.Spec PyProof.Rows
end L2
namespace L2
open PySem PySem.Spec PyProof.Rows
structure ICls (K : PySem.W.Frag) (C P f : Addr) : Prop where
  obj : ∃ nm qn N bs sn sub ab col dd k0 k1 k2 k3 k5, K.lookup C = some (excClassObj nm qn C N bs (.ref P :: veMro) true sn sub ab col dd k0 k1 k2 k3 k5 "ValueError.__new__") ∧ PySem.W.nsOkIn K N = true ∧ PySem.W.nsIn K N "__init__" = some (some (.ref f))
  up : XCls K P
  fn : PySem.W.typeIn K (.ref f) = some (.type "function")
  sa : PySem.W.findIn K (.ref C) "__setattr__" = some (some (.builtin "object.__setattr__"))
theorem ICls.cls {K : PySem.W.Frag} {C P f : Addr} (c : ICls K C P f) : ∃ cd, PySem.W.clsIn K C = some cd ∧ cd.mro = .ref C :: .ref P :: veMro ∧ cd.hasDict = true := by
  obtain ⟨nm, qn, N, bs, sn, sub, ab, col, dd, k0, k1, k2, k3, k5, look, _⟩ := c.obj
  unfold PySem.W.clsIn
  rw [look]
  exact ⟨_, rfl, rfl, rfl⟩
section
variable {prog : Program} {w : World} {A : Around} {E : Value → Shared → Prop} {s : Shared} {K : PySem.W.Frag} {C P f x : Addr} {ox : Obj} {od : Option Obj} {name : Str} {v : Value}
end
def ExcV (e : Addr) (cls : Value) (od : Option Addr) (vs : Array Value) : Heap → Prop := fun h => ∃ oe, h.get? e = some oe ∧ oe.cls = cls ∧ oe.dict = od ∧ oe.data = .fields vs
abbrev hoV (e : Addr) (cls : Value) (od : Option Addr) (vs : Array Value) : HO := .ext (ExcV e cls od vs)
theorem ExcV.ok {P : Program} {w : World} {H : Hp} {h : Heap} {e : Addr} {cls : Value} {od : Option Addr} {vs : Array Value} (x : ExcV e cls od vs h) : ObjOk P w H h e (hoV e cls od vs) := by
  refine ⟨x, ?_, fun h1 h2 y k => ?_⟩
  · obtain ⟨oe, z, _⟩ := x; exact ⟨oe, z⟩
  · obtain ⟨oe, z, r⟩ := y; exact ⟨oe, k _ z, r⟩
end L2
namespace L2
open PySem PySem.Spec PyProof.Rows
section
variable {prog : Program} {w : World} {A : Around} {E : Value → Shared → Prop} {h : Heap} {g : Array GenState} {d : Drawn} {t : Nat} {os : OsState}
variable {nm q : Str} {C N : Addr} {bs bm : List Value} {hd : Bool} {sn : List Str} {sub : List Value} {ab : Bool} {col : Option Bool} {dd : Option Addr} {k0 k1 k2 k3 k5 : Option Value}
end
section
variable {X : Cx} {W : St → XK} {C P fi : Addr} {k : Nat} {fd : FuncData} {ps ns : List Str} {x : Str} {p cpos pos : Pos} {e : Expr} {es : List Expr} {t : TA}
end
end L2
namespace L2
open PySem PySem.Spec PyProof.Rows
mutual
inductive Rep (K : PySem.W.Frag) (H : Hp) : V → PyData → Prop
  | non : Rep K H .non .none
  | bl (b : Bool) : Rep K H (.bl b) (.bool b)
  | int (i : Int) : Rep K H (.int i) (.int i)
  | str (x : Str) : Rep K H (.str x) (.str x)
  | lst {a : Addr} {xs : List V} {ds : List PyData} : SqL K H a xs → Reps K H xs ds → Rep K H (.ref a) (.list ds)
  | tup {a : Addr} {xs : List V} {ds : List PyData} : SqT K H a xs → Reps K H xs ds → Rep K H (.ref a) (.tuple ds)
inductive Reps (K : PySem.W.Frag) (H : Hp) : List V → List PyData → Prop
  | nil : Reps K H [] []
  | cons {x : V} {xs : List V} {d : PyData} {ds : List PyData} : Rep K H x d → Reps K H xs ds → Reps K H (x :: xs) (d :: ds)
end
section
variable {K : PySem.W.Frag} {H H' : Hp}
mutual
theorem Rep.same (e : Same H H') : ∀ {x : V} {d : PyData}, Rep K H x d → Rep K H' x d
  | _, _, .non => .non
  | _, _, .bl b => .bl b
  | _, _, .int i => .int i
  | _, _, .str x => .str x
  | _, _, .lst h r => .lst (e.seq h) (Reps.same e r)
  | _, _, .tup h r => .tup (by
      rcases h with (h | ⟨o, h⟩) | h
      · exact .inl (.inl (e _ _ h))
      · exact .inl (.inr ⟨o, e _ _ h⟩)
      · exact .inr h) (Reps.same e r)
theorem Reps.same (e : Same H H') : ∀ {xs : List V} {ds : List PyData}, Reps K H xs ds → Reps K H' xs ds
  | _, _, .nil => .nil
  | _, _, .cons r t => .cons (Rep.same e r) (Reps.same e t)
end
theorem Reps.length : ∀ {xs : List V} {ds : List PyData}, Reps K H xs ds → xs.length = ds.length
  | _, _, .nil => rfl
  | _, _, .cons _ t => by rw [List.length_cons, List.length_cons, Reps.length t]
theorem Reps.append : ∀ {xs ys : List V} {ds es : List PyData}, Reps K H xs ds → Reps K H ys es → Reps K H (xs ++ ys) (ds ++ es)
  | _, _, _, _, .nil, r => r
  | _, _, _, _, .cons a t, r => .cons a (Reps.append t r)
theorem Reps.get : ∀ {xs : List V} {ds : List PyData} {i : Nat} {d : PyData}, Reps K H xs ds → ds[i]? = some d → ∃ x, xs[i]? = some x ∧ Rep K H x d
  | _, _, _, _, .nil, e => by simp at e
  | _, _, 0, _, .cons r _, e => by simp at e; subst e; exact ⟨_, rfl, r⟩
  | _, _, i + 1, _, .cons _ t, e => by
    obtain ⟨x, h1, h2⟩ := Reps.get t (i := i) (by simpa using e)
    exact ⟨x, by simpa using h1, h2⟩
theorem Reps.take : ∀ {xs : List V} {ds : List PyData} (n : Nat), Reps K H xs ds → Reps K H (xs.take n) (ds.take n)
  | _, _, 0, _ => .nil
  | _, _, _ + 1, .nil => .nil
  | _, _, n + 1, .cons r t => .cons r (Reps.take n t)
theorem Reps.drop : ∀ {xs : List V} {ds : List PyData} (n : Nat), Reps K H xs ds → Reps K H (xs.drop n) (ds.drop n)
  | _, _, 0, r => r
  | _, _, _ + 1, .nil => .nil
  | _, _, n + 1, .cons _ t => Reps.drop n t
theorem Reps.reverse : ∀ {xs : List V} {ds : List PyData}, Reps K H xs ds → Reps K H xs.reverse ds.reverse
  | _, _, .nil => .nil
  | _, _, .cons r t => by
    rw [List.reverse_cons, List.reverse_cons]
    exact (Reps.reverse t).append (.cons r .nil)
theorem Reps.ints : ∀ (ns : List Int), Reps K H (ns.map V.int) (ns.map PyData.int)
  | [] => .nil
  | n :: ns => .cons (.int n) (Reps.ints ns)
end
section
variable {X : Cx} {pins : List (Addr × Obj)} {σ : St} {H : Hp} {s : Shared}
mutual
theorem Inv.reads (I : Inv X pins σ H s) : ∀ {x : V} {d : PyData}, Rep X.K H x d → ∀ {v : Value}, RelV x v → ∃ as, Reads s.heap v d as
  | _, _, .non, v, r => by cases (show v = Value.none from r); exact ⟨_, .none⟩
  | _, _, .bl b, v, r => by cases (show v = Value.bool b from r); exact ⟨_, .bool b⟩
  | _, _, .int i, v, r => by obtain ⟨t, e⟩ := (show ∃ t, v = Value.int i t from r); cases e; exact ⟨_, .int i t⟩
  | _, _, .str x, v, r => by obtain ⟨t, e⟩ := (show ∃ t, v = Value.str x t from r); cases e; exact ⟨_, .str x t⟩
  | _, _, .lst (a := a) h rs, v, r => by
    cases (show v = Value.ref a from r)
    obtain ⟨its, rv, ⟨o, n, e1, e2, _, e4⟩, _⟩ := I.list h
    obtain ⟨as, q⟩ := Inv.readsAll I rs rv
    exact ⟨_, .list e1 e2 e4 q⟩
  | _, _, .tup (a := a) h rs, v, r => by
    cases (show v = Value.ref a from r)
    obtain ⟨its, rv, ⟨o, e1, e2, n, e4⟩, _⟩ := I.tuple h
    obtain ⟨as, q⟩ := Inv.readsAll I rs rv
    exact ⟨_, .tuple e1 e2 e4 q⟩
theorem Inv.readsAll (I : Inv X pins σ H s) : ∀ {xs : List V} {ds : List PyData}, Reps X.K H xs ds → ∀ {vs : List Value}, Vals xs vs → ∃ as, ReadsAll s.heap vs ds as
  | _, _, .nil, _, .nil => ⟨_, .nil⟩
  | _, _, .cons r t, _, .cons q u => by
    obtain ⟨a1, h1⟩ := Inv.reads I r q
    obtain ⟨a2, h2⟩ := Inv.readsAll I t u
    exact ⟨_, .cons h1 h2⟩
end
def rEqD (K : PySem.W.Frag) : R2 := fun x y H Q => ∃ d e, Rep K H x d ∧ Rep K H y e ∧ PySem.SeqAt.shaped d = true ∧ PySem.SeqAt.shaped e = true ∧ Q (.bl (PyData.eqv d e)) H
def rNeD (K : PySem.W.Frag) : R2 := fun x y H Q => ∃ d e, Rep K H x d ∧ Rep K H y e ∧ PySem.SeqAt.shaped d = true ∧ PySem.SeqAt.shaped e = true ∧ Q (.bl (!PyData.eqv d e)) H
theorem op_eqD {K : PySem.W.Frag} (hu : X.A.units + 64 < cLine) (hK : X.K = K := by rfl) : OpR X (compareOp .Eq) (rEqD K) := by
  subst hK
  intro pins s σ H x y v u Q I rx ry h
  obtain ⟨d, e, hx, hy, s1, s2, q⟩ := h
  obtain ⟨as, r1⟩ := I.reads hx rx
  obtain ⟨bs, r2⟩ := I.reads hy ry
  exact eq_dataH r1 r2 s1 s2 hu ⟨.bl _, H, I, rfl, q⟩
theorem op_neD {K : PySem.W.Frag} (hu : X.A.units + 64 < cLine) (hK : X.K = K := by rfl) : OpR X (compareOp .NotEq) (rNeD K) := by
  subst hK
  intro pins s σ H x y v u Q I rx ry h
  obtain ⟨d, e, hx, hy, s1, s2, q⟩ := h
  obtain ⟨as, r1⟩ := I.reads hx rx
  obtain ⟨bs, r2⟩ := I.reads hy ry
  exact ne_dataH r1 r2 s1 s2 hu ⟨.bl _, H, I, rfl, q⟩
end
end L2
namespace L2
open PySem PySem.W PySem.Spec PyProof.Rows
section
variable {O : KeyOrd} {ky : Nat → O.α} {n : Nat} {cmp : Nat → Nat → (Bool → Shared → Prop) → Shared → Prop} {J : Shared → Prop}
def kk (ky : Nat → O.α) (p : Array Nat) (i : Nat) : O.α := ky (p.getD i 0)
def Srt (ky : Nat → O.α) (p : Array Nat) (m : Nat) : Prop := ∀ i j, i ≤ j → j < m → O.kle (kk ky p i) (kk ky p j)
def Fal (ky : Nat → O.α) (p : Array Nat) (m : Nat) : Prop := ∀ i j, i ≤ j → j < m → O.kle (kk ky p j) (kk ky p i)
def Prm (n : Nat) (p : Array Nat) : Prop := p.toList.Perm (List.range n)
theorem Prm.size {p : Array Nat} (h : Prm n p) : p.size = n := by
  have := h.length_eq
  rw [List.length_range] at this
  exact this
theorem Prm.lt {p : Array Nat} (h : Prm n p) {k : Nat} (hk : k < n) : p.getD k 0 < n := by
  have hz := h.size
  have e : p.getD k 0 = p[k]'(by omega) := by simp [Array.getD, hz, hk]
  rw [e]
  exact List.mem_range.mp (h.mem_iff.mp (by simp))
theorem Srt.succ {p : Array Nat} {m : Nat} (h : Srt ky p m) (h1 : 1 ≤ m) (c : O.kle (kk ky p (m - 1)) (kk ky p m)) : Srt ky p (m + 1) := fun i j hij hj => by
  by_cases e : j = m
  · subst e
    by_cases e2 : i = j
    · subst e2
      exact KeyOrd.kle_refl _
    · exact KeyOrd.kle_trans (h i (j - 1) (by omega) (by omega)) c
  · exact h i j hij (by omega)
theorem Fal.succ {p : Array Nat} {m : Nat} (h : Fal ky p m) (h1 : 1 ≤ m) (c : O.kle (kk ky p m) (kk ky p (m - 1))) : Fal ky p (m + 1) := fun i j hij hj => by
  by_cases e : j = m
  · subst e
    by_cases e2 : i = j
    · subst e2
      exact KeyOrd.kle_refl _
    · exact KeyOrd.kle_trans c (h i (j - 1) (by omega) (by omega))
  · exact h i j hij (by omega)
theorem Srt.one {p : Array Nat} : Srt ky p 1 := fun i j hij hj => by
  have : i = j := by omega
  subst this
  exact KeyOrd.kle_refl _
end
end L2
namespace L2
open PySem PySem.W PySem.Spec PyProof.Rows
def IsRow (h : Heap) (v : Value) (ns : List Int) : Prop := ∃ a its, v = .ref a ∧ IsTup h a its ∧ IntsAre its.toList ns
section
variable {prog : Program} {w : World} {A : Around} {E : Value → Shared → Prop} {s : Shared} {Q : Bool → Shared → Prop}
theorem IsRow.keep {h h' : Heap} {v : Value} {ns : List Int} (x : IsRow h v ns) (k : ∀ b o, o.cls = .type "tuple" → h.get? b = some o → h'.get? b = some o) : IsRow h' v ns := by
  obtain ⟨a, its, rfl, ⟨o, ho, hc, n, hd⟩, ia⟩ := x
  exact ⟨a, its, rfl, ⟨o, k a o hc ho, hc, n, hd⟩, ia⟩
end
section
variable {X : Cx}
end
end L2
namespace L2
open PySem PySem.W PySem.Spec PyProof.Rows
def RawAt (h : Heap) (d : Addr) (es : Array DictEntry) (ep : Nat) : Prop := ∃ o, h.get? d = some o ∧ o.ExactDict ∧ o.data = .dict es ep
theorem RawAt.at {h h' : Heap} {d : Addr} {es : Array DictEntry} {ep : Nat} (x : RawAt h d es ep) (e : ∀ o, h.get? d = some o → h'.get? d = some o) : RawAt h' d es ep := let ⟨o, ho, r⟩ := x; ⟨o, e _ ho, r⟩
theorem RawAt.lt {h : Heap} {d : Addr} {es : Array DictEntry} {ep : Nat} (x : RawAt h d es ep) : d < h.objs.size := let ⟨_, ho, _⟩ := x; Heap.lt_size ho
theorem RawAt.typeIs {s : Shared} {d : Addr} {es : Array DictEntry} {ep : Nat} (x : RawAt s.heap d es ep) : s.TypeIs (.ref d) "dict" := let ⟨o, ho, hc, _⟩ := x; ⟨o, ho, hc.1⟩
section
variable {prog : Program} {w : World} {A : Around} {E : Value → Shared → Prop} {s : Shared} {d : Addr} {es : Array DictEntry} {ep : Nat}
end
section
variable {X : Cx}
theorem call_min1 (hc : X.calm = true) : CallR X (.builtin "min") (fun xs H Q => ∃ (a : Addr) (ns : List Int), xs = [.ref a] ∧ SqL X.K H a (ns.map V.int) ∧ 0 < ns.length ∧ ∀ M, M ∈ ns → (∀ z ∈ ns, M ≤ z) → Q (.int M) H) := by
  intro pins s σ H xs us Q I r h
  obtain ⟨a, ns, rfl, hq, hne, q⟩ := h
  obtain ⟨u, rfl, rx⟩ := vals1 r
  cases rx
  obtain ⟨its, rv, pl, hz⟩ := I.list hq
  have hi := intsAre_of rv
  obtain ⟨xs, e⟩ := hi.allInts.items
  have hns : ns = xs.toList.map (·.1) := by
    rw [← hi.numsOf, ← nums_intItems, ← e]
  have hsz : 0 < xs.size := by
    have h3 := hne; rw [hns, List.length_map, Array.length_toList] at h3; exact h3
  have hl := pl.isList
  rw [e] at hl
  refine min_intList (I.ok.hd hc) hl hsz fun v h' tk hv hk => ?_
  obtain ⟨t, rfl⟩ := intItems_at hv
  obtain ⟨_, h2⟩ := argBest_lt (numAt xs) (xs.size - 1)
  refine ⟨.int _, H, I.kept hk, ⟨t, rfl⟩, q _ ?_ fun z m => ?_⟩
  · rw [hns, numAt_eq]; exact getD_mem (by rw [List.length_map, Array.length_toList]; omega)
  · rw [hns] at m
    obtain ⟨j, hj, rfl⟩ := mem_getD m
    rw [List.length_map, Array.length_toList] at hj
    rw [← numAt_eq]; exact h2 j (by omega)
end
end L2
namespace L2
open PySem
def Ris (xs : Array Nat) : Prop := ∀ i j, i < j → j < xs.size → xs.getD i 0 < xs.getD j 0
theorem getD_any {xs : Array Nat} {i : Nat} (h : i < xs.size) (a b : Nat) : xs.getD i a = xs.getD i b := by
  simp [Array.getD, h]
theorem below_go {xs : Array Nat} (hr : Ris xs) (j : Nat) : ∀ (f lo hi : Nat), lo ≤ hi → hi ≤ xs.size → hi - lo ≤ f → (∀ i, i < lo → xs.getD i 0 < j) → (∀ i, hi ≤ i → i < xs.size → j ≤ xs.getD i 0) →
    SetTable.below.go xs j f lo hi ≤ xs.size ∧ (∀ i, i < SetTable.below.go xs j f lo hi → xs.getD i 0 < j) ∧ ∀ i, SetTable.below.go xs j f lo hi ≤ i → i < xs.size → j ≤ xs.getD i 0
  | 0, lo, hi, h1, h2, h3, h4, h5 => by
    have : lo = hi := by omega
    subst this
    exact ⟨h2, h4, h5⟩
  | f + 1, lo, hi, h1, h2, h3, h4, h5 => by
    unfold SetTable.below.go
    by_cases c : lo < hi
    · rw [if_pos c]
      dsimp only
      have hm : (lo + hi) / 2 < xs.size := by omega
      by_cases c2 : xs.getD ((lo + hi) / 2) j < j
      · rw [if_pos c2]
        refine below_go hr j f _ hi (by omega) h2 (by omega) (fun i hi' => ?_) h5
        rw [getD_any hm j 0] at c2
        by_cases e : i = (lo + hi) / 2
        · rw [e]; exact c2
        · exact Nat.lt_trans (hr i ((lo + hi) / 2) (by omega) hm) c2
      · rw [if_neg c2]
        refine below_go hr j f lo _ (by omega) (by omega) (by omega) h4 (fun i a b => ?_)
        rw [getD_any hm j 0] at c2
        by_cases e : i = (lo + hi) / 2
        · rw [e]; omega
        · have := hr ((lo + hi) / 2) i (by omega) b
          omega
    · rw [if_neg c]
      have : lo = hi := by omega
      subst this
      exact ⟨h2, h4, h5⟩
theorem below_ok {xs : Array Nat} (hr : Ris xs) (j : Nat) : SetTable.below xs j ≤ xs.size ∧ (∀ i, i < SetTable.below xs j → xs.getD i 0 < j) ∧ ∀ i, SetTable.below xs j ≤ i → i < xs.size → j ≤ xs.getD i 0 :=
  below_go hr j xs.size 0 xs.size (Nat.zero_le _) (Nat.le_refl _) (by omega) (fun i h => absurd h (Nat.not_lt_zero _)) (fun i a b => absurd a (by omega))
theorem insert_size {α : Type} {xs : Array α} {p : Nat} (hp : p ≤ xs.size) (x : α) : (SetTable.insertAt xs p x).size = xs.size + 1 := by
  unfold SetTable.insertAt
  simp
  omega
theorem insert_getD {xs : Array Nat} {p : Nat} (hp : p ≤ xs.size) (x i : Nat) : (SetTable.insertAt xs p x).getD i 0 = if i < p then xs.getD i 0 else if i = p then x else xs.getD (i - 1) 0 := by
  unfold SetTable.insertAt
  rw [Array.getD_eq_getD_getElem?, Array.getElem?_append]
  by_cases c : i < p
  · rw [if_pos c, if_pos (by simp; omega), Array.getElem?_push]
    rw [if_neg (by simp; omega), Array.getElem?_extract]
    rw [if_pos (by omega), Array.getD_eq_getD_getElem?]
    simp
  · rw [if_neg c]
    by_cases c2 : i = p
    · subst c2
      rw [if_pos rfl, if_pos (by simp; omega), Array.getElem?_push, if_pos (by simp; omega)]
      rfl
    · rw [if_neg c2, if_neg (by simp; omega), Array.getElem?_extract, Array.getD_eq_getD_getElem?]
      have e : ((xs.extract 0 p).push x).size = p + 1 := by simp; omega
      rw [e]
      by_cases c3 : i - (p + 1) < min xs.size xs.size - p
      · rw [if_pos c3]
        congr 2
        omega
      · rw [if_neg c3, Array.getElem?_eq_none (by omega)]
theorem Ris.put {xs : Array Nat} (hr : Ris xs) {j : Nat} (hj : xs[SetTable.below xs j]? ≠ some j) : Ris (SetTable.insertAt xs (SetTable.below xs j) j) := by
  obtain ⟨h0, h1, h2⟩ := below_ok hr j
  intro a b hab hb
  rw [insert_size h0] at hb
  rw [insert_getD h0, insert_getD h0]
  generalize hp : SetTable.below xs j = p at *
  have gt : ∀ i, p ≤ i → i < xs.size → j < xs.getD i 0 := fun i a b => by
    have l := h2 i a b
    by_cases e : i = p
    · subst e
      have : xs.getD i 0 ≠ j := fun z => hj (by simp [Array.getD, b] at z; simp [b, z])
      omega
    · have := h2 p (Nat.le_refl _) (by omega)
      have := hr p i (by omega) b
      omega
  by_cases ca : a < p
  · rw [if_pos ca]
    by_cases cb : b < p
    · rw [if_pos cb]
      exact hr a b hab (by omega)
    · rw [if_neg cb]
      by_cases cb2 : b = p
      · rw [if_pos cb2]
        exact h1 a ca
      · rw [if_neg cb2]
        exact hr a (b - 1) (by omega) (by omega)
  · rw [if_neg ca]
    by_cases ca2 : a = p
    · rw [if_pos ca2, if_neg (show ¬ b < p by omega), if_neg (show ¬ b = p by omega)]
      exact gt (b - 1) (by omega) (by omega)
    · rw [if_neg ca2, if_neg (show ¬ b < p by omega), if_neg (show ¬ b = p by omega)]
      exact hr (a - 1) (b - 1) (by omega) (by omega)
theorem ris_range (n : Nat) : Ris (Array.range n) := fun i j hij hj => by
  have hj' : j < n := by simpa using hj
  have hi' : i < n := by omega
  simp [Array.getD, hj', hi']
  exact hij
theorem ris_of_pairwise {l : List Nat} (h : l.Pairwise (· < ·)) : Ris l.toArray := fun i j hij hj => by
  have hj' : j < l.length := by simpa using hj
  have hi' : i < l.length := by omega
  have := List.pairwise_iff_getElem.mp h i j hi' hj' hij
  simpa [Array.getD, hj', hi'] using this
theorem live_rising {owner : Array (Option Nat)} (n : Nat) : (((List.range n).filterMap fun j => (owner.getD j none).map (j, ·)).map (·.1)).Pairwise (· < ·) := by
  rw [List.pairwise_map, List.pairwise_filterMap]
  refine List.Pairwise.imp ?_ List.pairwise_lt_range
  intro a b hab x hx y hy
  cases e1 : owner.getD a none with
  | none => rw [e1] at hx; cases hx
  | some u =>
    cases e2 : owner.getD b none with
    | none => rw [e2] at hy; cases hy
    | some v =>
      rw [e1] at hx
      rw [e2] at hy
      cases hx
      cases hy
      exact hab
theorem laid_ok {mask finger moves : Nat} {led plain : Bool} {hashes : Array Int} {t : SetTable} {order : Array Nat} (h : SetTable.laid mask finger moves led plain hashes = some (t, order)) : Ris t.place ∧ t.led = led := by
  unfold SetTable.laid at h
  cases e : SetTable.layClean mask hashes with
  | none => rw [e] at h; cases h
  | some owner =>
    rw [e] at h
    cases h
    exact ⟨ris_of_pairwise (live_rising _), rfl⟩
theorem probe_free {t : SetTable} {f : Nat → Int} {hv : Int} : ∀ (n : Nat) (p : SetTable.Probe) {j : Nat} {du : Option Nat}, (∀ d, p.dummy = some d → t.place[SetTable.below t.place d]? ≠ some d) →
    SetTable.probe.go t f hv n p = some (.empty j du) → (∀ d, du = some d → t.place[SetTable.below t.place d]? ≠ some d) ∧ t.place[SetTable.below t.place j]? ≠ some j
  | 0, p, j, du, hd, e => by cases e
  | n + 1, p, j, du, hd, e => by
    unfold SetTable.probe.go at e
    by_cases c : t.place[SetTable.below t.place p.j]? = some p.j
    · have es : t.slot p.j = .live (SetTable.below t.place p.j) := by
        unfold SetTable.slot
        simp [c]
      rw [es] at e
      dsimp only at e
      by_cases c2 : (f (SetTable.below t.place p.j) == hv) = true
      · rw [if_pos c2] at e; cases e
      · rw [if_neg c2] at e
        refine probe_free n _ ?_ e
        unfold SetTable.advance
        by_cases c3 : p.more > 0
        · rw [if_pos c3]; exact hd
        · rw [if_neg c3]; exact hd
    · by_cases c4 : SetTable.has t.dummies p.j = true
      · have es : t.slot p.j = .dummy := by
          unfold SetTable.slot
          simp [c, c4]
        rw [es] at e
        dsimp only at e
        refine probe_free n _ ?_ e
        have k : ∀ d, some p.j = some d → t.place[SetTable.below t.place d]? ≠ some d := fun d z => by
          cases z
          exact c
        unfold SetTable.advance
        by_cases c3 : p.more > 0
        · rw [if_pos c3]; exact k
        · rw [if_neg c3]; exact k
      · have es : t.slot p.j = .empty := by
          unfold SetTable.slot
          simp [c, c4]
        rw [es] at e
        cases e
        exact ⟨hd, c⟩
theorem free_ok {t : SetTable} {hv : Int} {slot : Nat} {b : Bool} (h : t.freeSlot hv = some (slot, b)) : t.place[SetTable.below t.place slot]? ≠ some slot := by
  unfold SetTable.freeSlot SetTable.probe at h
  cases e : SetTable.probe.go t (fun _ => hv + 1) hv (10 * SetTable.turns t.mask) (t.probeStart hv) with
  | none => rw [e] at h; cases h
  | some m =>
    rw [e] at h
    cases m with
    | candidate j i nx => cases h
    | empty j du =>
      obtain ⟨a, b'⟩ := probe_free _ _ (fun d z => by cases z) e
      cases du with
      | none =>
        cases h
        exact b'
      | some d =>
        cases h
        exact a d rfl
def Walk (t : SetTable) : Prop := Ris t.place ∧ t.led = true
theorem Walk.standIn {t : SetTable} (h : Walk t) (n : Nat) : Walk (t.standIn n) := ⟨ris_range n, h.2⟩
theorem Walk.orStandIn {t : SetTable} (h : Walk t) (n : Nat) : Walk (t.orStandIn n) := by
  unfold SetTable.orStandIn
  split
  · exact h
  · exact h.standIn n
theorem Walk.lay {t : SetTable} (h : Walk t) (es : Array (Int × Value)) (hv : Int) (x : Value) : Walk (layNew t es hv x).2.1 := by
  unfold layNew
  cases e : t.freeSlot hv with
  | none => exact h.standIn _
  | some q =>
    obtain ⟨slot, b⟩ := q
    have w : Walk (t.put slot).1 := ⟨h.1.put (free_ok e), h.2⟩
    exact w.orStandIn _
theorem Walk.relay {t : SetTable} (h : Walk t) (es : Array (Int × Value)) (n : Nat) : Walk (relayAll t es n).2.1 := by
  unfold relayAll SetTable.relaid
  cases e : SetTable.laid (SetTable.sizeAbove n - 1) t.finger (t.movedTo (SetTable.sizeAbove n - 1)) t.led t.plain (es.map (·.1)) with
  | none => exact h.standIn _
  | some q =>
    obtain ⟨t', order⟩ := q
    obtain ⟨a, b⟩ := laid_ok e
    dsimp only
    split
    · exact ⟨a, b.trans h.2⟩
    · exact h.standIn _
end L2
namespace L2
open PySem PySem.W PySem.Spec PyProof.Rows
def byText (w : World) : Bool := w.params.followText "set-order"
def SetI (prog : Program) (w : World) (h : Heap) (a : Addr) (l : List Int) : Prop :=
  ∃ o es ep t ms, h.get? a = some o ∧ o.ExactSet ∧ o.data = .set es ep t ∧ ElemsOf (intKind prog w) es.toList ∧ IntsAre (es.toList.map (·.2)) ms ∧ ms.Perm l ∧ es.size < scanBound ∧ t.fits es.size = true ∧ (byText w = true ∨ Walk t)
theorem ints_perm {vs vs' : List Value} (p : vs'.Perm vs) : ∀ {ns : List Int}, IntsAre vs ns → ∃ ns', IntsAre vs' ns' ∧ ns'.Perm ns := by
  induction p with
  | nil => intro ns h; cases h; exact ⟨[], .nil, .refl _⟩
  | cons x _ ih =>
    intro ns h
    cases h with
    | cons n t h =>
      obtain ⟨ns', a, b⟩ := ih h
      exact ⟨n :: ns', .cons n t a, b.cons n⟩
  | swap x y l =>
    intro ns h
    cases h with
    | cons n t h =>
      cases h with
      | cons m u h => exact ⟨m :: n :: _, .cons m u (.cons n t h), .swap _ _ _⟩
  | trans _ _ ih1 ih2 =>
    intro ns h
    obtain ⟨n1, a1, b1⟩ := ih2 h
    obtain ⟨n2, a2, b2⟩ := ih1 a1
    exact ⟨n2, a2, b2.trans b1⟩
theorem ints_append : ∀ {vs us : List Value} {ns ms : List Int}, IntsAre vs ns → IntsAre us ms → IntsAre (vs ++ us) (ns ++ ms)
  | _, _, _, _, .nil, h => h
  | _, _, _, _, .cons n t a, h => .cons n t (ints_append a h)
theorem ints_mem : ∀ {vs : List Value} {ns : List Int}, IntsAre vs ns → ∀ {n : Int}, n ∈ ns ↔ ∃ t, Value.int n t ∈ vs
  | _, _, .nil, n => ⟨(fun h => by cases h), (fun ⟨_, h⟩ => by cases h)⟩
  | _, _, .cons m u a, n => by
    constructor
    · intro h
      rcases List.mem_cons.mp h with e | h
      · subst e
        exact ⟨u, List.mem_cons_self ..⟩
      · obtain ⟨t, ht⟩ := (ints_mem a).mp h
        exact ⟨t, List.mem_cons_of_mem _ ht⟩
    · rintro ⟨t, h⟩
      rcases List.mem_cons.mp h with e | h
      · cases e
        exact List.mem_cons_self ..
      · exact List.mem_cons_of_mem _ ((ints_mem a).mpr ⟨t, h⟩)
section
variable {prog : Program} {w : World} {A : Around} {E : Value → Shared → Prop} {s : Shared}
theorem store_get {h : Heap} {a : Addr} {o : Obj} {es : Array (Int × Value)} {ep : Nat} {t : SetTable} (ho : h.get? a = some o) (hd : o.data = .set es ep t) (es' : Array (Int × Value)) (t' : SetTable) :
    (h.update a (Obj.putSet es' t')).get? a = some { o with data := .set es' (ep + 1) t' } := by
  have := Heap.get?_update_self (Obj.putSet es' t') ho (by rw [putSet_of es' t' hd]; rfl)
  rw [putSet_of es' t' hd] at this
  exact this
theorem add_tail {g : Bool → Sem Unit} (hg : ∀ (b : Bool) (s₁ : Shared) (Q' : Unit → Shared → Prop), Q' () s₁ → wpAny (model prog w) A (g b) Q' E s₁)
    {a : Addr} {o : Obj} {es : Array (Int × Value)} {ep : Nat} {t : SetTable} (ho : s.heap.get? a = some o) (hex : o.ExactSet) (hd : o.data = .set es ep t)
    {es1 : Array (Int × Value)} {t2 : SetTable} {ms l : List Int} (hel1 : ElemsOf (intKind prog w) es1.toList) (hi : IntsAre (es1.toList.map (·.2)) ms) (hp : ms.Perm l)
    (hb1 : es1.size < scanBound) (hf2 : t2.fits es1.size = true) (hw : byText w = true ∨ Walk t2) {wasDummy : Bool} {R : Option Bool → Shared → Prop}
    (h : ∀ h', Heap.SameBut a s.heap h' → SetI prog w h' a l → R (some true) { s with heap := h' }) :
    wpAny (model prog w) A (do
        storeSet a es1 t2
        if (!wasDummy && t2.tooFull) = true then do
            g (relayAll t2 es1 (SetTable.grown es1.size)).2.2
            storeSet a (relayAll t2 es1 (SetTable.grown es1.size)).1 (relayAll t2 es1 (SetTable.grown es1.size)).2.1
            pure (some true)
          else pure (some true)) R E s := by
  refine wpAny_bind (wpAny_storeSet_of ho hd ?_ (fits_of_scanBound hb1))
  have ho1 := store_get ho hd es1 t2
  have hsb1 := Heap.SameBut.update s.heap a (Obj.putSet es1 t2)
  split
  · have pr := relayAll_perm t2 es1 (SetTable.grown es1.size)
    have fr := relayAll_fits t2 es1 (SetTable.grown es1.size)
    have wr : byText w = true ∨ Walk (relayAll t2 es1 (SetTable.grown es1.size)).2.1 := hw.imp id fun x => x.relay _ _
    generalize relayAll t2 es1 (SetTable.grown es1.size) = Rl at pr fr wr ⊢
    obtain ⟨es2, t3, gave2⟩ := Rl
    dsimp only at pr fr wr ⊢
    have hsz : es2.size = es1.size := by rw [← Array.length_toList, pr.length_eq, Array.length_toList]
    obtain ⟨ms2, i2, p2⟩ := ints_perm (pr.map (·.2)) hi
    refine wpAny_bind (hg _ _ _ ?_)
    refine wpAny_bind (wpAny_storeSet_of ho1 rfl ?_ (fits_of_scanBound (by rw [hsz]; exact hb1)))
    exact wpAny_pure (h _ (hsb1.trans (Heap.SameBut.update _ a _)) ⟨_, es2, _, t3, ms2, store_get ho1 rfl es2 t3, hex, rfl, hel1.perm pr, i2, p2.trans hp, by rw [hsz]; exact hb1, fr, wr⟩)
  · exact wpAny_pure (h _ hsb1 ⟨_, es1, _, t2, ms, ho1, hex, rfl, hel1, hi, hp, hb1, hf2, hw⟩)
theorem add_int {a : Addr} {l : List Int} {k : Int} {tk : Tok} {Q : Bool → Shared → Prop} (hS : SetI prog w s.heap a l) (hroom : l.length + 1 < scanBound)
    (h : ∀ h' b, Heap.SameBut a s.heap h' → SetI prog w h' a (step_dedup l k) → Q b { s with heap := h' }) :
    wpAny (model prog w) A (setAddHashed a (.int k tk) ((intKind prog w).hash k)) Q E s := by
  obtain ⟨o, es, ep, t, ms, ho, hex, hd, hel, hi, hp, hb, hf, hw⟩ := hS
  have hkey : (intKind prog w).is k (.int k tk) = true := intKind_is _ _ _ _
  have hsc : (Value.int k tk).scannable = true := rfl
  have hlen : es.size = l.length := by
    have := hi.length
    rw [List.length_map, Array.length_toList] at this
    rw [this, hp.length_eq]
  unfold setAddHashed setAddHashedIn
  refine wpAny_holding (wpAny_bind (wpAny_setState_of ho hd hf ?_))
  dsimp only
  rw [byScan_of hsc hb hel]
  simp only [↓reduceIte]
  unfold setAddByScan
  refine wpAny_bind ?_
  refine wpAny_bind (wpAny_rule ?_)
  refine wpAny_bind (wpAny_setScan_of hkey ho hd hf hel ?_)
  cases hr : List.findIdx? (fun e => (intKind prog w).is k e.2) es.toList with
  | some j =>
    dsimp only
    obtain ⟨hj, hpj, _⟩ := List.findIdx?_eq_some_iff_getElem.mp hr
    have mem : k ∈ l := by
      refine hp.mem_iff.mp ((ints_mem hi).mpr ?_)
      obtain ⟨t', e⟩ := Value.isInt_shape (show Value.isInt k es.toList[j].2 = true from hpj)
      exact ⟨t', List.mem_map.mpr ⟨_, List.getElem_mem hj, e⟩⟩
    have es' : step_dedup l k = l := by
      unfold step_dedup
      rw [if_pos (List.any_eq_true.mpr ⟨k, mem, by simp⟩)]
    refine wpAny_pure (wpAny_pure ?_)
    exact h s.heap _ (Heap.SameBut.refl a s.heap) ⟨o, es, ep, t, ms, ho, hex, hd, hel, hi, by rw [es']; exact hp, hb, hf, hw⟩
  | none =>
    dsimp only
    have nmem : ¬ k ∈ l := fun m => by
      obtain ⟨t', ht⟩ := (ints_mem hi).mp (hp.mem_iff.mpr m)
      obtain ⟨e, he, hv⟩ := List.mem_map.mp ht
      have := List.findIdx?_eq_none_iff.mp hr e he
      rw [hv, intKind_is] at this
      exact Bool.noConfusion this
    have es' : step_dedup l k = l ++ [k] := by
      unfold step_dedup
      rw [if_neg (by
        intro z
        obtain ⟨y, hy, ey⟩ := List.any_eq_true.mp z
        have : y = k := by simpa using ey
        exact nmem (this ▸ hy))]
    have hgw : ∀ (b : Bool) {s₁ : Shared} {Q' : Unit → Shared → Prop}, Q' () s₁ → wpAny (model prog w) A (match b with | true => rule "set.scan.the-table-gave-way" | false => pure ()) Q' E s₁ :=
      fun b s₁ Q' hq => by cases b <;> first | exact wpAny_pure hq | exact wpAny_rule hq
    have pr := layNew_perm t es ((intKind prog w).hash k) (.int k tk)
    have fr := layNew_fits t es ((intKind prog w).hash k) (.int k tk)
    have wr : byText w = true ∨ Walk (layNew t es ((intKind prog w).hash k) (.int k tk)).2.1 := hw.imp id fun x => x.lay _ _ _
    generalize layNew t es ((intKind prog w).hash k) (.int k tk) = L at pr fr wr ⊢
    obtain ⟨es1, t1, wasDummy, gave⟩ := L
    dsimp only at pr fr wr ⊢
    rw [Array.toList_push] at pr
    have hel1 : ElemsOf (intKind prog w) es1.toList := (hel.push hkey hsc).perm pr
    have hi0 : IntsAre ((es.toList ++ [((intKind prog w).hash k, Value.int k tk)]).map (·.2)) (ms ++ [k]) := by
      rw [List.map_append]
      exact ints_append hi (.cons k tk .nil)
    obtain ⟨ms1, i1, p1⟩ := ints_perm (pr.map (·.2)) hi0
    have hp1 : ms1.Perm (step_dedup l k) := by rw [es']; exact p1.trans (hp.append_right [k])
    have hb1 : es1.size < scanBound := by rw [← Array.length_toList, pr.length_eq, List.length_append, Array.length_toList, hlen]; simpa using hroom
    refine wpAny_bind (hgw _ ?_)
    split
    · refine wpAny_bind ?_
      rw [hashByValue_scannable 8 hsc]
      refine wpAny_pure ?_
      refine add_tail ?_ ho hex hd hel1 i1 hp1 hb1 ?_ ?_ ?_
      · intro b s₁ Q' hq; cases b <;> first | exact wpAny_pure hq | exact wpAny_rule hq
      · split
        · exact fr
        · exact SetTable.fits_plain_off fr
      · split
        · exact wr
        · exact wr
      · intro h' hsb hS'; dsimp only; exact wpAny_pure (h h' _ hsb hS')
    · refine wpAny_bind (wpAny_pure ?_)
      simp only [↓reduceIte]
      refine add_tail ?_ ho hex hd hel1 i1 hp1 hb1 fr wr ?_
      · intro b s₁ Q' hq; cases b <;> first | exact wpAny_pure hq | exact wpAny_rule hq
      · intro h' hsb hS'; dsimp only; exact wpAny_pure (h h' _ hsb hS')
theorem SetI.at {h h' : Heap} {a : Addr} {l : List Int} (x : SetI prog w h a l) (e : ∀ o, h.get? a = some o → h'.get? a = some o) : SetI prog w h' a l := by
  obtain ⟨o, es, ep, t, ms, ho, r⟩ := x
  exact ⟨o, es, ep, t, ms, e o ho, r⟩
end
section
variable {prog : Program} {w : World} {A : Around} {R : Result → Shared → Prop} {I : Addr} {fp wr : List Addr} {G : Array GenState → Array GenState → Prop} {n : Nat} {P : Nat → Value → Prop} {St : Nat → Shared → Prop}
theorem set_loop (W : WalksS prog w A.in1 I fp wr G n P St) (S : Addr) (hSf : S ∉ fp) (val : Nat → Int) (hval : ∀ i v, P i v → ∃ t, v = .int (val i) t) (hb : n + 1 < scanBound) :
    ∀ (k i : Nat) (s : Shared), n - i = k → i ≤ n → St i s → SetI prog w s.heap S (firstMet val i) → (∀ s', Moved (S :: wr) G s s' → SetI prog w s'.heap S (firstMet val n) → R (.ok (.ret .none)) s') →
      codeAny (model prog w) A (.builtin "set.update.loop" ⟨[.ref S, .ref I], []⟩) R s := by
  have hSw : S ∉ wr := fun h => hSf (W.sub _ h)
  have hsub : ∀ b ∈ wr, b ∈ S :: wr := fun b hb => List.mem_cons_of_mem _ hb
  intro k
  induction k with
  | zero =>
    intro i s hk hi hst hS hR
    have hin : i = n := by omega
    subst hin
    refine codeAny_builtin F.entry_set_update_loop ?_
    rw [Around.under_plainId F.plain_set_update_loop _]
    show wpAny _ A.in1 (pyNext (.ref I) >>= _) _ _ s
    refine wpAny_bind (W.done s _ _ hst fun s' hm => ?_)
    show wpAny _ A.in1 (ret Value.none) _ _ s'
    exact wpAny_pure (hR s' (hm.mono hsub) (hS.at fun o e => hm.heap S o hSw e))
  | succ k ih =>
    intro i s hk hi hst hS hR
    have hlt : i < n := by omega
    refine codeAny_builtin F.entry_set_update_loop ?_
    rw [Around.under_plainId F.plain_set_update_loop _]
    show wpAny _ A.in1 (pyNext (.ref I) >>= _) _ _ s
    refine wpAny_bind (W.item i s _ _ hlt hst fun v s' hP hst' hm => ?_)
    obtain ⟨t, rfl⟩ := hval i v hP
    have hS' := hS.at fun o e => hm.heap S o hSw e
    show wpAny _ A.in1 (holding [Value.int (val i) t] (setAdd S (.int (val i) t)) >>= _) _ _ s'
    refine wpAny_bind (wpAny_holding ?_)
    unfold setAdd
    refine wpAny_holding ?_
    refine wpAny_bind ((intKind prog w).pyHash (k := val i) (intKind_is _ _ _ _) ?_)
    have hroom : (firstMet val i).length + 1 < scanBound := by have := firstMet_length_le val i; omega
    refine add_int (s := { s' with toks := s'.toks + 1 }) hS' hroom fun h' b hsb hS2 => ?_
    have hSi : SetI prog w h' S (firstMet val (i + 1)) := by rw [firstMet_succ]; exact hS2
    refine wpAny_pure ⟨plainId_quiet F.plain_set_update_loop _, ih (i + 1) _ (by omega) hlt (W.frame _ s' _ _ hst' (Nat.le_succ _) fun b hb o e => ?_) hSi fun s'' hm'' hS'' => ?_⟩
    · rw [hsb.2 b (fun h : b = S => hSf (by rw [← h]; exact hb))]; exact e
    · refine hR s'' (Moved.trans W.gtrans ((hm.mono hsub).then_heap (Nat.le_succ _) fun b o hb e => ?_) hm'') hS''
      rw [hsb.2 b (fun h : b = S => hb (by rw [h]; exact List.mem_cons_self))]; exact e
end
section
variable {prog : Program} {w : World} {A : Around} {E : Value → Shared → Prop} {s : Shared}
abbrev newSetObj (w : World) : Obj := { cls := .type "set", dict := none, data := .set #[] 0 (.fresh 0 0 (!byText w)) }
theorem set_new (a : Value) {Q₁ : Value → Shared → Prop} (h : Q₁ (.ref s.heap.objs.size) { s with heap := s.heap.push (newSetObj w) }) :
    codeAny (model prog w) A (.call (.builtin "set.__new__") ⟨[.type "set", a], []⟩) (wants Q₁ E) s := by
  refine codeAny_of_tree ?_
  show wpAny _ A.in1 (do checkBuiltinCall "set.__new__" ⟨[.type "set", a], []⟩; again (.builtin "set.__new__" ⟨[.type "set", a], []⟩)) _ _ s
  refine wpAny_bind (wpAny_of_eq (PySem.F.newCall_set_1 a) (wpAny_pure ⟨plainId_quiet PySem.F.plain_set_new _, codeAny_builtin PySem.F.entry_set_new ?_⟩))
  rw [Around.under_plainId PySem.F.plain_set_new _]
  unfold Builtin.«set.__new__» Builtin.Frozenset.newClass
  have hsub := sub_set_self
  obtain ⟨hp, g, d, tk, os⟩ := s
  dsimp only
  wp_walk
  refine wpAny_askSetting (wpAny_pure ?_)
  dsimp only
  simp only [newObj]
  refine wpAny_bind (wpAny_alloc (wpAny_pure ?_))
  exact wpAny_pure h
theorem fresh_set {h : Heap} {a : Addr} (ho : h.get? a = some (newSetObj w)) : SetI prog w h a [] :=
  ⟨_, #[], 0, _, [], ho, ⟨rfl, rfl, rfl⟩, rfl, fun e he => by simp at he, .nil, .refl _, by decide, rfl, by
    cases e : byText w with
    | true => exact .inl rfl
    | false => exact .inr ⟨fun i j _ hj => absurd hj (by simp [SetTable.fresh]), by simp [SetTable.fresh]⟩⟩
set_option maxRecDepth 100000 in
set_option maxHeartbeats 3200000 in
theorem set_of_list {l : Addr} {items : Array Value} {ns : List Int} {Q : Value → Shared → Prop} (hh : A.handled = none) (hl : s.heap.IsList l items) (hi : IntsAre items.toList ns) (hb : items.size + 1 < scanBound)
    (h : ∀ (h' : Heap) (tk : Nat), SetI prog w h' s.heap.objs.size (firstMet (fun i => ns.getD i 0) items.size) → (∀ b o, b < s.heap.objs.size → s.heap.get? b = some o → h'.get? b = some o) → Q (.ref s.heap.objs.size) { s with heap := h', toks := tk }) :
    wpAny (model prog w) A (call (.type "set") [.ref l]) Q E s := by
  obtain ⟨c, tl, hmro⟩ := PySem.F.called_set.mro
  have hmade := PySem.F.called_set.made
  have hsub := PySem.F.called_set.sub
  refine wpAny_call (codeAny_of_tree ?_)
  show wpAny _ _ (callAny (.type "set") _) _ _ _
  refine wpAny_pure ⟨Code.quiet_builtin _ (by decide +kernel), codeAny_builtin PySem.F.entry_type_call ?_⟩
  rw [Around.under_plain (weight_type_call_type "set" [.ref l] []) rfl]
  have h1 := PySem.F.called_set.notType
  have h2 := PySem.F.called_set.canCreate
  have hct := PySem.F.typeCall_set_1 (.ref l)
  repeat (any_goals (first | assumption | wp_step))
  refine codeAny_mono (set_new (.ref l) (E := E) (Q₁ := fun obj s₁ => obj = .ref s.heap.objs.size ∧ s₁ = { s with heap := s.heap.push (newSetObj w) }) ⟨rfl, rfl⟩) fun r s₁ hr => ?_
  cases r with
  | error e => exact hr
  | ok fl =>
    cases fl with
    | ret obj =>
      obtain ⟨rfl, rfl⟩ := hr
      have hS : (s.heap.push (newSetObj w)).get? s.heap.objs.size = some (newSetObj w) := Heap.get?_push_size _ rfl
      have hT : Shared.TypeIs { s with heap := s.heap.push (newSetObj w) } (.ref s.heap.objs.size) "set" := ⟨_, hS, rfl⟩
      have hli := PySem.F.called_set.init.lookup
      have hbi := PySem.F.called_set.init.bind (.ref s.heap.objs.size)
      repeat (any_goals (first | assumption | wp_step))
      refine codeAny_mono (codeAny_call_builtin (R := wants (fun r s₂ => r = .none ∧ ∃ h' tk, s₂ = { s with heap := h', toks := tk } ∧ SetI prog w h' s.heap.objs.size (firstMet (fun i => ns.getD i 0) items.size) ∧
          (∀ b o, b < s.heap.objs.size → s.heap.get? b = some o → h'.get? b = some o)) E) PySem.F.called_set.init.plain PySem.F.entry_set_init (check_set_init_1 hT ?_)) fun r₂ s₂ hr₂ => ?_
      · obtain ⟨ol, hol, hcl, nl, hdl⟩ := hl
        obtain ⟨ocls, odict, odata, oslots⟩ := ol
        simp only at hcl hdl
        subst hcl; subst hdl
        have hol' : (s.heap.push (newSetObj w)).get? l = some { cls := .type "list", dict := odict, data := .seq items nl, slots := oslots } := Heap.get?_push_of_some _ hol
        have hsls := PySem.F.sub_list_set
        have hslf := PySem.F.sub_list_frozenset
        have hne : (Value.type "list" == Value.type "dict") = false := by decide
        have hl1 : (s.heap.push (newSetObj w)).IsList l items := ⟨_, hol', rfl, nl, rfl⟩
        unfold Builtin.«set.__init__» noKeywords Builtin.Frozenset.updateFrom
        generalize hPI : pyIter = PI
        wp_walk
        subst hPI
        refine wpAny_pyIter_list hl1 ?_
        refine wpAny_bind (wpAny_runValue ?_)
        have hlS : l < s.heap.objs.size := Heap.lt_size hol
        have hh3 : A.in1.in1.in1.handled = none := by simp [hh]
        have hneI : l ≠ (s.heap.push (newSetObj w)).objs.size := by
          rw [Heap.size_push]; exact Nat.ne_of_lt (Nat.lt_succ_of_lt hlS)
        have hSf : s.heap.objs.size ∉ [(s.heap.push (newSetObj w)).objs.size, l] := by
          rw [Heap.size_push]; simp only [List.mem_cons, List.mem_singleton, List.not_mem_nil, or_false, not_or]
          exact ⟨Nat.ne_of_lt (Nat.lt_succ_self _), Nat.ne_of_gt hlS⟩
        have hval : ∀ (i : Nat) (v : Value), items[i]? = some v → ∃ t, v = .int ((fun i => ns.getD i 0) i) t := fun i v hv =>
          IntsAre.int_at hi i v (by rw [Array.getElem?_toList]; exact hv)
        refine set_loop ((Walks.list hh3 _ l hneI items).toS) s.heap.objs.size hSf (fun i => ns.getD i 0) hval hb (items.size - 0) 0 _ (by omega) (Nat.zero_le _)
          ⟨⟨_, Heap.get?_push_size _ rfl, rfl, rfl⟩, (hl1.push _)⟩ (fresh_set (Heap.get?_push_of_some _ hS)) ?_
        intro s' hm hS'
        obtain ⟨h', g', d', tk', os'⟩ := s'
        have eg : g' = s.gens := hm.gens
        have ed : d' = s.drawn := hm.drawn
        have eo : os' = s.os := hm.os
        subst eg; subst ed; subst eo
        show wpAny _ _ _ _ _ _
        refine wpAny_pure ?_
        show wpAny _ _ (ret Value.none) _ _ _
        refine wpAny_pure ⟨rfl, h', tk', rfl, hS', fun b o hb e => ?_⟩
        have hb1 : b ≠ s.heap.objs.size := Nat.ne_of_lt hb
        have hb2 : b ≠ (s.heap.push (newSetObj w)).objs.size := by
          rw [Heap.size_push]; exact Nat.ne_of_lt (Nat.lt_succ_of_lt hb)
        exact hm.heap b o (by simp only [List.mem_cons, List.mem_singleton, List.not_mem_nil, or_false, not_or]; exact ⟨hb1, hb2⟩) (Heap.get?_push_of_some _ (Heap.get?_push_of_some _ e))
      · cases r₂ with
        | error e => exact hr₂
        | ok fl₂ =>
          cases fl₂ with
          | ret r =>
            obtain ⟨rfl, h', tk, rfl, hS', hk'⟩ := hr₂
            repeat (any_goals (first | assumption | wp_step))
            exact h _ _ hS' hk'
          | _ => exact hr₂.elim
    | _ => exact hr.elim
end
end L2
namespace L2
open PySem PySem.W PySem.Spec PyProof.Rows
theorem erase_perm {α : Type} : ∀ (xs : List α) (i : Nat) (hi : i < xs.length), (xs[i] :: xs.eraseIdx i).Perm xs
  | [], i, hi => absurd hi (Nat.not_lt_zero _)
  | x :: xs, 0, _ => .refl _
  | x :: xs, i + 1, hi => by
    have hi' : i < xs.length := by simpa using hi
    have ih := erase_perm xs i hi'
    show (xs[i] :: x :: xs.eraseIdx i).Perm (x :: xs)
    exact (List.Perm.swap _ _ _).trans (ih.cons x)
section
variable {prog : Program} {w : World} {A : Around} {E : Value → Shared → Prop} {s : Shared}
end
theorem pick_go {α : Type} (next : Nat → Nat) : ∀ (f k : Nat) (left : List α) (out : Array α), left.length = f → (pickOrder.go next f k left out).toList.Perm (out.toList ++ left)
  | 0, k, left, out, hl => by
    have : left = [] := List.length_eq_zero_iff.mp hl
    subst this
    simp [pickOrder.go]
  | f + 1, k, left, out, hl => by
    unfold pickOrder.go
    have hi : next k % left.length < left.length := Nat.mod_lt _ (by omega)
    have e : left[next k % left.length]? = some left[next k % left.length] := by simp [hi]
    rw [e]
    dsimp only
    refine (pick_go next f (k + 1) (left.eraseIdx (next k % left.length)) _ (by rw [List.length_eraseIdx, if_pos hi]; omega)).trans ?_
    rw [Array.toList_push, List.append_assoc]
    exact List.Perm.append_left _ (erase_perm _ _ hi)
theorem pick_perm {α : Type} (next : Nat → Nat) (xs : Array α) : (pickOrder next xs).toList.Perm xs.toList := by
  have := pick_go next xs.size 0 xs.toList #[] (by simp)
  simpa [pickOrder] using this
def SetRaw (h : Heap) (a : Addr) (es : Array (Int × Value)) (ep : Nat) (t : SetTable) : Prop := ∃ o, h.get? a = some o ∧ o.ExactSet ∧ o.data = .set es ep t
theorem SetRaw.at {h h' : Heap} {a : Addr} {es : Array (Int × Value)} {ep : Nat} {t : SetTable} (x : SetRaw h a es ep t) (e : ∀ o, h.get? a = some o → h'.get? a = some o) : SetRaw h' a es ep t := let ⟨o, ho, r⟩ := x; ⟨o, e o ho, r⟩
theorem SetRaw.typeIs {s : Shared} {a : Addr} {es : Array (Int × Value)} {ep : Nat} {t : SetTable} (x : SetRaw s.heap a es ep t) : s.TypeIs (.ref a) "set" := let ⟨o, ho, hc, _⟩ := x; ⟨o, ho, hc.1⟩
def isDrawn (es : Array (Int × Value)) (t : SetTable) : Bool := !t.plain && decide (es.size > 1)
def stand (t : SetTable) : Nat → Nat
  | 0 => 0
  | i + 1 => t.place.getD i 0 + 1
def SIt (w : World) (h : Heap) (I tp a : Addr) (es : Array (Int × Value)) (ep : Nat) (t : SetTable) (out : List Value) (i : Nat) : Prop :=
  ∃ first, (∃ o, h.get? I = some o ∧ o.cls = .type "set_iterator" ∧ o.data = .fields #[first, rawInt i, .ref a, rawInt es.size, rawInt ep]) ∧
    ((byText w = true ∧ first = rawInt 0 ∧ out = (pickOrder (w.params.setOrder a ep) es).toList.map (·.2)) ∨
     (byText w = false ∧ isDrawn es t = true ∧ first = .ref tp ∧ ∃ ps : List Nat, (∃ o n, h.get? tp = some o ∧ o.data = .seq (ps.map fun (p : Nat) => rawInt p).toArray n) ∧ ps.Perm (List.range es.size) ∧ out = ps.map fun p => (es.getD p (0, Value.none)).2) ∨
     (byText w = false ∧ isDrawn es t = false ∧ Walk t ∧ first = rawInt (stand t i) ∧ out = es.toList.map (·.2)))
theorem SIt.perm {w : World} {h : Heap} {I tp a : Addr} {es : Array (Int × Value)} {ep : Nat} {t : SetTable} {out : List Value} {i : Nat} (x : SIt w h I tp a es ep t out i) : out.Perm (es.toList.map (·.2)) := by
  obtain ⟨_, _, ⟨_, _, e⟩ | ⟨_, _, _, ps, _, p, e⟩ | ⟨_, _, _, _, e⟩⟩ := x
  · rw [e]
    exact (pick_perm _ _).map _
  · rw [e]
    have q := p.map fun p => (es.getD p (0, Value.none)).2
    refine q.trans (.of_eq ?_)
    apply List.ext_getElem
    · simp
    · intro i h1 h2
      have hi : i < es.size := by simpa using h1
      simp [Array.getD, hi]
  · rw [e]
section
variable {prog : Program} {w : World} {A : Around} {E : Value → Shared → Prop} {s : Shared} {a : Addr} {es : Array (Int × Value)} {ep : Nat} {t : SetTable}
theorem SIt.at {h h' : Heap} {I tp : Addr} {out : List Value} {i : Nat} (x : SIt w h I tp a es ep t out i) (e1 : ∀ o, h.get? I = some o → h'.get? I = some o) (e2 : ∀ o, h.get? tp = some o → h'.get? tp = some o) : SIt w h' I tp a es ep t out i := by
  obtain ⟨f, ⟨o, ho, hc⟩, ⟨b1, b2⟩ | ⟨b1, b2, b3, ps, ⟨ot, nt, hot, hdt⟩, b4⟩ | ⟨b1, b2⟩⟩ := x
  · exact ⟨f, ⟨o, e1 o ho, hc⟩, .inl ⟨b1, b2⟩⟩
  · exact ⟨f, ⟨o, e1 o ho, hc⟩, .inr (.inl ⟨b1, b2, b3, ps, ⟨ot, nt, e2 ot hot, hdt⟩, b4⟩)⟩
  · exact ⟨f, ⟨o, e1 o ho, hc⟩, .inr (.inr ⟨b1, b2⟩)⟩
theorem SIt.typeIs {s : Shared} {I tp : Addr} {out : List Value} {i : Nat} (x : SIt w s.heap I tp a es ep t out i) : s.TypeIs (.ref I) "set_iterator" := by
  obtain ⟨f, ⟨o, ho, hc, _⟩, _⟩ := x
  exact ⟨o, ho, hc⟩
end
end L2
namespace L2
open PySem PySem.W PySem.Spec PyProof.Rows
theorem fm_nodup (val : Nat → Int) : ∀ i, (firstMet val i).Nodup
  | 0 => by rw [firstMet_zero]; exact List.nodup_nil
  | i + 1 => by
    rw [firstMet_succ]
    unfold step_dedup
    have ih := fm_nodup val i
    split
    · exact ih
    · rename_i c
      refine List.nodup_append.mpr ⟨ih, by simp, fun a ha b hb e => ?_⟩
      have : b = val i := by simpa using hb
      subst this
      exact c (List.any_eq_true.mpr ⟨a, ha, by simp [e]⟩)
theorem range_getD (ns : List Int) : (List.range ns.length).map (fun i => ns.getD i 0) = ns := by
  apply List.ext_getElem
  · simp
  · intro i h1 h2
    simp [h2]
theorem fm_mem {ns : List Int} {z : Int} : z ∈ firstMet (fun i => ns.getD i 0) ns.length ↔ z ∈ ns := by
  have e := firstMet_any (fun i => ns.getD i 0) ns.length z
  rw [range_getD] at e
  constructor
  · intro h
    have a : (firstMet (fun i => ns.getD i 0) ns.length).any (· == z) = true := List.any_eq_true.mpr ⟨z, h, by simp⟩
    rw [e] at a
    obtain ⟨y, hy, ey⟩ := List.any_eq_true.mp a
    have : y = z := by simpa using ey
    exact this ▸ hy
  · intro h
    have a : ns.any (· == z) = true := List.any_eq_true.mpr ⟨z, h, by simp⟩
    rw [← e] at a
    obtain ⟨y, hy, ey⟩ := List.any_eq_true.mp a
    have : y = z := by simpa using ey
    exact this ▸ hy
section
variable {X : Cx} {e : Expr} {te : TE} {p p2 pos pos2 : Pos}
end
end L2
namespace L2
open PySem PySem.Spec PyProof.Rows
section
variable {X : Cx} {pins : List (Addr × Obj)} {σ : St} {H : Hp} {s : Shared} {h' : Heap}
theorem Inv.laidTurned {t' : Nat} {fp : List Addr} {a : Addr} {o : HO} (I : Inv X pins σ H s) (k : ∀ b u, b ∉ fp → s.heap.get? b = some u → h'.get? b = some u) (hf : ∀ b ∈ fp, FpOk X pins H b) (hp : s.heap.objs.size ≤ a)
    (new : ObjOk X.prog X.w (upd H a o) h' a o) : Inv X pins σ (upd H a o) { s with heap := h', toks := t' } := by
  have nin : ∀ b u, H b = some u → b ∉ fp := fun b u e z => by rw [(hf b z).1] at e; cases e
  have hn : H a = none := I.hok.fresh hp
  refine I.step (g' := s.gens) (d' := s.drawn) (ch := fp) (fun b hb => ?_) (fun b o _ _ hc e _ => k b o hc e) (fun b o _ _ hc e _ => ⟨o.slots, k b o hc e⟩)
    (fun b u _ q n => by rw [upd_ne (Nat.ne_of_lt (Nat.lt_of_lt_of_le (Heap.lt_size q) hp))]; exact n)
    (fun b o hc e => ⟨o, k b o hc e⟩) (fun b xs q => by rw [upd_ne (ne_of_none q hn)]; exact q) (fun b u xs q => by rw [upd_ne (ne_of_none q hn)]; exact q) (fun b ps q => ⟨#[], by rw [upd_ne (ne_of_none q hn), q]; simp⟩) (fun m hm => ?_) (fun b u e => ?_) I.bare
  · obtain ⟨_, f1, _, f3, f4, f5⟩ := hf b hb
    exact ⟨f3, f1, f4, f5⟩
  · obtain ⟨o, es, ep, ho, r⟩ := hm
    exact ⟨o, es, ep, k _ o (fun z => (hf _ z).2.1 rfl) ho, r⟩
  · by_cases hb : b = a
    · subst hb; rw [upd_same] at e; cases e; exact new
    · rw [upd_ne hb] at e
      refine (I.hok b u e).stay (fun c v hc q => k c v ?_ q) (fun c q => by rw [upd_ne (ne_of_none q hn)]; exact q) fun c xs q => by rw [upd_ne (ne_of_none q hn)]; exact q
      rcases hc with z | z
      · rw [z]; exact nin b u e
      · exact nin c _ z
end
def Ite (K : PySem.W.Frag) (a : Addr) : It :=
  ⟨fun i H => ∃ xs x, SqL K H a xs ∧ xs[i]? = some x, fun i H x H' => ∃ T y, x = .ref T ∧ H T = none ∧ H' = upd H T (.tup [.int (i : Int), y]) ∧ ∀ xs, SqL K H a xs → xs[i]? = some y, fun i H => ∃ xs, SqL K H a xs ∧ xs.length ≤ i⟩
theorem turn_enum {P : Program} {w : World} {K : PySem.W.Frag} {es : List Expr} {k : Nat} {pos : Pos} (a e it : Addr) (hne : e ≠ it) :
    Turn P w K (.Tuple es k pos) (Ite K a) [e, it] e (fun i h => (∃ old, IsEnum h e it (i : Nat) old) ∧ h.IsListIter it a i) where
  mem := by simp
  obj := fun i h st b hb => by
    obtain ⟨⟨old, he⟩, o, e1, c, d⟩ := st
    rcases List.mem_cons.mp hb with z | z
    · subst z
      exact ⟨_, he, fun v z => by cases (show Data.fields _ = Data.cell v from z)⟩
    · have z' : b = it := by simpa using z
      subst z'
      exact ⟨o, e1, fun v z => by rw [d] at z; cases z⟩
  keep := fun i h h' st kk => by
    obtain ⟨⟨old, he⟩, st⟩ := st
    exact ⟨⟨old, kk e (by simp) _ he⟩, st.at fun o q => kk it (by simp) o q⟩
  item := by
    intro X hP hw hK hc i pins s σ H E I hf st hg
    subst hP hw hK
    obtain ⟨xs, x, hq, hx⟩ := hg
    obtain ⟨its, rv, p, hz⟩ := I.list hq
    obtain ⟨u, hu, ru⟩ := rv.get hx
    obtain ⟨⟨old, he⟩, hit⟩ := st
    refine wpAny_pyNext_enum_item he hit p.isList (x := u) (by simpa using hu) hne fun h1 ho hit1 hT hsz hk => ⟨_, rfl, ?_⟩
    refine wpAny_letOwnedTupleGo_enum ho fun h2 he2 sb => ?_
    have fr : H s.heap.objs.size = none := I.hok.fresh (Nat.le_refl _)
    have lte : e < s.heap.objs.size := Heap.lt_size he
    have lti : it < s.heap.objs.size := by obtain ⟨o, q, _⟩ := id hit; exact Heap.lt_size q
    refine ⟨.ref s.heap.objs.size, upd H s.heap.objs.size (.tup [.int (i : Int), x]), ?_, rfl, ⟨_, x, rfl, fr, rfl, fun ys hy => by rw [I.list_inj hy hq]; exact hx⟩, ⟨⟨_, by simpa using he2⟩, hit1.at fun o q => (sb.2 it (Ne.symm hne)).trans q⟩, fun b hb => ?_⟩
    · refine I.laidTurned (fp := [e, it]) (t' := s.toks + 1) (fun b o hb q => (sb.2 b (fun z => hb (by simp [z]))).trans (hk b o (fun z => hb (by simp [z])) (fun z => hb (by simp [z])) q)) hf (Nat.le_refl _) ?_
      refine ⟨by show 2 ≤ sizeLine; decide, [.int i s.toks, u], .cons ⟨_, rfl⟩ (.cons ru .nil), ⟨_, (sb.2 _ (Nat.ne_of_gt lte)).trans hT, rfl, _, rfl⟩⟩
    · rw [upd_ne (fun z => ?_)]
      · exact (hf b hb).1
      · rcases List.mem_cons.mp hb with q | q
        · rw [q] at z; exact absurd lte (by rw [z]; exact Nat.lt_irrefl _)
        · have q' : b = it := by simpa using q
          rw [q'] at z; exact absurd lti (by rw [z]; exact Nat.lt_irrefl _)
  done := by
    intro X hP hw hK hc i pins s σ H E I hf st hg
    subst hP hw hK
    obtain ⟨xs, hq, hx⟩ := hg
    obtain ⟨its, rv, p, hz⟩ := I.list hq
    obtain ⟨f0, f1, f2, f3, f4, f5⟩ := hf it (by simp)
    obtain ⟨⟨old, he⟩, hit⟩ := st
    have hl := rv.length
    exact wpAny_pyNext_enum_end (I.ok.hd hc) he hit p.isList (by simp; omega) fun h' eb => ⟨rfl, I.turned (t' := s.toks) (fun b o hb e => eb b o hb e) f0 f1 f3 f4 f5⟩
  self := fun _ _ _ _ _ st h => by
    obtain ⟨⟨old, he⟩, _⟩ := st
    exact wpAny_pyIter_enum he h
section
variable {X : Cx}
def iEnum (K : PySem.W.Frag) (ta : TA) : TI := fun σ H R => ta σ H fun vs H1 => ∃ a, vs = [.ref a] ∧ (∃ xs, SqL K H1 a xs) ∧ R (Ite K a) H1
theorem pi_enum {l : Expr} {ta : TA} {p pos pt : Pos} {es : List Expr} {k : Nat} (hg : Gl X "enumerate") (hm : X.mg "enumerate" = none) (ha : PA X [l] ta) (hs : starEach [l] X.env = [(false, eval l X.env)] := by rfl) :
    PI X (.Tuple es k pt) (.Call (.Name "enumerate" p) [l] [] pos) (iEnum X.K ta) := by
  intro pins s σ H R I h
  refine Call_ (ld_blt I hg hm boot_enumerate (PyProof.Rows.callWith_type1 (thn (ha pos pins s σ H _ I h) fun us s1 ⟨vs, H1, I1, r1, q1⟩ => ?_) hs rfl))
  obtain ⟨a, e, ⟨xs, hq⟩, q⟩ := q1
  subst e
  cases r1 with
  | cons r rr =>
    cases rr
    cases r
    obtain ⟨its, rv, pl, hz⟩ := I1.list hq
    refine call_enumerate_list pl.isList fun h' he hit hsz hk => ?_
    refine wpAny_pyIter_enum (s := { s1 with heap := h' }) he ?_
    refine ⟨s1.heap.objs.size + 1, [s1.heap.objs.size + 1, s1.heap.objs.size], _, _, H1, rfl, I1.kept (t' := s1.toks) hk, turn_enum a _ _ (Nat.succ_ne_self _), ⟨⟨_, he⟩, hit⟩, fun b hb => ?_, q⟩
    have ge : s1.heap.objs.size ≤ b := by
      rcases List.mem_cons.mp hb with z | z
      · rw [z]; exact Nat.le_succ _
      · have z' : b = s1.heap.objs.size := by simpa using z
        rw [z']; exact Nat.le_refl _
    exact I1.fpOk ge (I1.hok.fresh ge)
end
theorem for_enum {K : PySem.W.Frag} {a : Addr} {xs : List V} {g : TG} {tb : TS} {D : Ends} {σ : St} {H : Hp} (Pv : Nat → St → Hp → Prop) (h0 : Pv 0 σ H) (hl : ∀ i σ H, i ≤ xs.length → Pv i σ H → SqL K H a xs)
    (hs : ∀ i x T σ H, xs[i]? = some x → Pv i σ H → H T = none → g (.ref T) σ (upd H T (.tup [.int (i : Int), x])) fun σ2 H2 => tb { D with nx := Pv (i + 1), ct := Pv (i + 1), bk := D.nx } σ2 H2) (hd : ∀ σ H, Pv xs.length σ H → D.nx σ H) :
    ∃ W : Nat → Nat → St → Hp → Prop, (∃ m, W 0 m σ H) ∧ ∀ i m σ H, W i m σ H →
      ((Ite K a).stop i H ∧ D.nx σ H) ∨ ((Ite K a).go i H ∧ ∃ N : St → Hp → Prop, (∀ σ' H', N σ' H' → ∃ m', m' < m ∧ W (i + 1) m' σ' H') ∧ ∀ x H', (Ite K a).yld i H x H' → g x σ H' fun σ2 H2 => tb { D with nx := N, ct := N, bk := D.nx } σ2 H2) := by
  refine ⟨fun i m σ H => m = xs.length - i ∧ i ≤ xs.length ∧ Pv i σ H, ⟨xs.length, by simp, Nat.zero_le _, h0⟩, ?_⟩
  rintro i m σ H ⟨rfl, hi, p⟩
  have q := hl i σ H hi p
  by_cases hlt : i < xs.length
  · refine .inr ⟨⟨xs, xs[i], q, by simp [hlt]⟩, Pv (i + 1), fun σ' H' p' => ⟨xs.length - (i + 1), by omega, rfl, hlt, p'⟩, fun x H' y => ?_⟩
    obtain ⟨T, y, rfl, hT, rfl, hy⟩ := y
    exact hs i y T σ H (hy xs q) p hT
  · have e : i = xs.length := by omega
    subst e
    exact .inl ⟨⟨xs, q, Nat.le_refl _⟩, hd σ H p⟩
section
variable {X : Cx}
theorem vals_bools : ∀ {bs : List Bool} {us : List Value}, Vals (bs.map V.bl) us → us = bs.map Value.bool
  | [], _, .nil => rfl
  | _ :: _, _, .cons r rr => by
    cases r
    rw [vals_bools rr]
    rfl
theorem all_range (bs : List Bool) : (List.range bs.length).all (fun i => bs.getD i false) = bs.all id := by
  rw [Bool.eq_iff_iff, List.all_eq_true, List.all_eq_true]
  constructor
  · intro h b hb
    obtain ⟨i, hi, rfl⟩ := List.mem_iff_getElem.mp hb
    have := h i (List.mem_range.mpr hi)
    simpa [List.getD_eq_getElem?_getD, hi] using this
  · intro h i hi
    have hi' := List.mem_range.mp hi
    have := h _ (List.getElem_mem hi')
    simpa [List.getD_eq_getElem?_getD, hi'] using this
theorem truth_bools {P : Program} {w : World} {A : Around} {bs : List Bool} : TruthOf P w A (fun i v => (bs.map Value.bool).toArray[i]? = some v) (fun i => bs.getD i false) := by
  intro i v s Q E hP hQ
  have hP' : (bs.map Value.bool)[i]? = some v := by simpa using hP
  rw [List.getElem?_map] at hP'
  cases e : bs[i]? with
  | none => rw [e] at hP'; cases hP'
  | some b =>
    rw [e] at hP'
    have : Value.bool b = v := Option.some.inj hP'
    subst this
    refine wpAny_truthy_bool ?_
    have e2 : bs.getD i false = b := by rw [List.getD_eq_getElem?_getD, e]; rfl
    dsimp only at hQ
    rw [e2] at hQ
    exact hQ
theorem call_all (hc : X.calm = true) {K : PySem.W.Frag} (hK : X.K = K := by rfl) : CallR X (.builtin "all") (fun xs H Q => ∃ (a : Addr) (bs : List Bool), xs = [.ref a] ∧ SqL K H a (bs.map V.bl) ∧ Q (.bl (bs.all id)) H) := by
  subst hK
  intro pins s σ H xs us Q I r h
  obtain ⟨a, bs, rfl, hq, q⟩ := h
  obtain ⟨u, rfl, rx⟩ := vals1 r
  cases rx
  obtain ⟨its, rv, pl, hz⟩ := I.list hq
  have ei := vals_bools rv
  subst ei
  have lt : a < s.heap.objs.size := by obtain ⟨o, q, _⟩ := pl.isList; exact Heap.lt_size q
  refine call_all_walk (wpAny_pyIter_list pl.isList ?_)
  refine ⟨_, _, _, _, _, _, _, rfl, Walks.list (A := X.A.in1) (I.ok.hd hc) s.heap.objs.size a (Nat.ne_of_lt lt) (bs.map Value.bool).toArray, ⟨⟨_, Heap.get?_push_size _ rfl, rfl, rfl⟩, pl.isList.at fun o q => Heap.get?_push_of_some _ q⟩, truth_bools, fun h' tk hk => ?_⟩
  rw [List.size_toArray, List.length_map, all_range]
  exact ⟨.bl _, H, I.kept (t' := tk) fun b o q => hk b o (by simpa using Nat.ne_of_lt (Heap.lt_size q)) (Heap.get?_push_of_some _ q), rfl, q⟩
end
end L2
namespace L2
open PySem PySem.Spec PyProof.Rows
structure CompNs (N Nc : List Str) (xs : List Str) (sc fsc : Scope) : Prop where
  kind : sc.kind = .function
  cell : ∀ y ∈ sc.names, y.2 ≠ .cell
  nm : ∀ y ∈ sc.names, y.2 = .local → sc.names.lookup y.1 = some .local
  own : ∀ x ∈ xs, sc.names.lookup x = some .local
  fr : ∀ y ∈ sc.names, y.2 = .free → fsc.names.lookup y.1 = some .cell ∨ fsc.names.lookup y.1 = some .free
  len : Nc.length = N.length + xs.length
  nd : Nc.Nodup
  last : Nc.drop N.length = xs
  slot : ((List.range N.length).all fun i => match Nc[i]? with
    | some y => (match sc.names.lookup y with | some .free => N[i]? == some y | some .local => false | some .cell => false | _ => true)
    | none => true) = true
theorem CompNs.at {N Nc : List Str} {xs : List Str} {sc fsc : Scope} (C : CompNs N Nc xs sc fsc) {i : Nat} {y : Str} (hi : i < N.length) (h : Nc[i]? = some y) : sc.names.lookup y ≠ some .local ∧ sc.names.lookup y ≠ some .cell ∧ (sc.names.lookup y = some .free → N[i]? = some y) := by
  have q := List.all_eq_true.mp C.slot i (List.mem_range.mpr hi)
  rw [h] at q
  dsimp only at q
  cases e : sc.names.lookup y with
  | none => exact ⟨fun z => (nomatch z), fun z => (nomatch z), fun z => (nomatch z)⟩
  | some k =>
    rw [e] at q
    cases k with
    | «local» => exact absurd (show false = true from q) Bool.false_ne_true
    | cell => exact absurd (show false = true from q) Bool.false_ne_true
    | free => exact ⟨fun z => (nomatch z), fun z => (nomatch z), fun _ => by simpa using q⟩
    | _ => exact ⟨fun z => (nomatch z), fun z => (nomatch z), fun z => (nomatch z)⟩
section
variable {X : Cx} {elt iter : Expr} {xs : List Str} {tg : Expr} {g : TG} {pos : Pos} {ifs : List Expr} {sc fsc : Scope} {N Nc : List Str} {wi : TI} {tt : TT} {te : TE}
end
section
variable {X : Cx} {elt iter : Expr} {x1 x2 x3 : Str} {p1 p2 p3 pt pos : Pos} {k : Nat} {ifs : List Expr} {sc fsc : Scope} {N Nc : List Str} {wi : TI} {tt : TT} {te : TE}
end
end L2
namespace L2
open PySem PySem.Spec PyProof.Rows
section
variable {X : Cx}
end
section
variable {X : Cx}
end
theorem eqv_ints : ∀ ns ms : List Int, PyData.eqvAll (ns.map .int) (ms.map .int) = decide (ns = ms)
  | [], [] => rfl
  | [], _ :: _ => rfl
  | _ :: _, [] => rfl
  | n :: ns, m :: ms => by
    show ((n == m) && PyData.eqvAll (ns.map .int) (ms.map .int)) = _
    rw [eqv_ints ns ms]
    by_cases h : n = m
    · by_cases k : ns = ms
      · subst h; subst k; simp
      · simp [h, k]
    · simp [h]
theorem lay_ints : ∀ ns : List Int, PyData.canLayAll0 (ns.map .int) = true ∧ PyData.depthAll (ns.map .int) ≤ 0
  | [] => ⟨rfl, Nat.le_refl _⟩
  | n :: ns => by
    obtain ⟨h1, h2⟩ := lay_ints ns
    refine ⟨?_, ?_⟩
    · show (true && PyData.canLayAll0 (ns.map .int)) = true
      rw [h1]; rfl
    · show max 0 (PyData.depthAll (ns.map .int)) ≤ 0
      omega
theorem shape_ints (ns : List Int) : SeqAt.shaped (.tuple (ns.map .int)) = true ∧ SeqAt.shaped (.list (ns.map .int)) = true := by
  obtain ⟨h1, h2⟩ := lay_ints ns
  constructor
  · unfold SeqAt.shaped
    rw [Bool.and_eq_true]
    refine ⟨h1, decide_eq_true ?_⟩
    show PyData.depthAll (ns.map .int) + 1 ≤ 64
    omega
  · unfold SeqAt.shaped
    rw [Bool.and_eq_true]
    refine ⟨h1, decide_eq_true ?_⟩
    show PyData.depthAll (ns.map .int) + 1 ≤ 64
    omega
section
variable {X : Cx}
end
end L2
namespace L2
open PySem PySem.Spec PyProof.Rows
namespace CutT
open HT
section
variable {prog : Program} {w : World} {A : Around} {E : Value → Shared → Prop} {s : Shared}
theorem exact_tup {t : Addr} {items : Array Value} {Q : Bool → Shared → Prop} (ht : IsTup s.heap t items) (h : Q true s) : wpAny (model prog w) A (Builtin.Tuple.tupleIsExact (.ref t)) Q E s := by
  unfold Builtin.Tuple.tupleIsExact
  exact wpAny_bind (wpAny_typeOf ht.typeIs (wpAny_pure h))
theorem whole {t sl : Addr} {items : Array Value} {vl vu : Value} {lo hi : Option Int} {Q : Value → Shared → Prop} (ht : IsTup s.heap t items) (hs : s.heap.IsSliceOf sl vl vu .none) (pl : IsPart vl lo) (pu : IsPart vu hi)
    (hw : sIx items.size 0 lo = 0 ∧ sIx items.size items.size hi = items.size) (h : Q (.ref t) s) : wpAny (model prog w) A (getItem (.ref t) (.ref sl)) Q E s := by
  obtain ⟨os, hos, hcs, hds⟩ := id hs
  have hTs : s.TypeIs (.ref sl) "slice" := ⟨os, hos, hcs⟩
  unfold getItem
  try with_reducible refine wpAny_holding ?_
  first | refine wpAny_bind (wpAny_pure ?_) | skip
  refine wpAny_bind (wpAny_sequenceKey ht.typeIs (by decide) ?_)
  refine wpAny_bind (wpAny_callSpecial?_slot (name := Str.ofString "__getitem__") ht.typeIs PyProof.Rows.slot_tuple_getitem
    (wpAny_call_entry PyProof.Rows.slot_tuple_getitem ht.typeIs entry_tuple_getitem ?_ (args_tuple_getitem _ _)))
  show wpAny _ _ (Builtin.Tuple.tupleItemsOf (.ref t) >>= _) _ _ s
  refine wpAny_bind (tupleItemsOf_ ht ?_)
  refine wpAny_bind (wpAny_typeOf hTs ?_)
  rw [if_pos (by decide)]
  refine wpAny_bind (sliceApplied_gen hs pl pu ?_)
  have hyes : (((sIx items.size 0 lo : Nat) : Int) == 0 && (1 : Int) == 1 && (sIx items.size items.size hi - sIx items.size 0 lo) == items.size) = true := by
    rw [hw.1, hw.2]
    simp
  show wpAny _ _ (if (((sIx items.size 0 lo : Nat) : Int) == 0 && (1 : Int) == 1 && (sIx items.size items.size hi - sIx items.size 0 lo) == items.size) = true then _ else _) _ _ s
  rw [if_pos hyes]
  refine wpAny_bind (exact_tup ht ?_)
  rw [if_pos rfl]
  first
    | exact wpAny_bind (wpAny_rule (wpAny_bind (m := ret (.ref t)) (wpAny_pure (wpAny_pure ⟨_, rfl, wpAny_pure h⟩))))
    | exact wpAny_bind (wpAny_rule (wpAny_pure ⟨_, rfl, wpAny_pure h⟩))
    | exact wpAny_bind (wpAny_bind (wpAny_rule (wpAny_pure (wpAny_pure ⟨_, rfl, wpAny_pure h⟩))))
    | exact wpAny_bind (wpAny_rule (wpAny_bind (wpAny_pure (wpAny_pure ⟨_, rfl, wpAny_pure h⟩))))
end
end CutT
end L2
namespace L2
open PySem PySem.Spec PyProof.Rows
section
variable {prog : Program} {w : World} {A : Around} {E : Value → Shared → Prop} {s : Shared}
end
section
variable {M : Model} {A : Around} {E : Value → Shared → Prop} {s : Shared} {env : Env}
end
section
variable {X : Cx}
end
end L2
namespace L2
open PySem PySem.Spec PyProof.Rows
theorem map_erase {α β : Type} (f : α → β) : ∀ (xs : List α) (j : Nat), (xs.map f).eraseIdx j = (xs.eraseIdx j).map f
  | [], _ => rfl
  | _ :: _, 0 => rfl
  | x :: xs, j + 1 => congrArg (f x :: ·) (map_erase f xs j)
section
variable {X : Cx}
def rRemove : V → List V → Hp → VK → Prop := fun x vs H Q => ∃ (l : Addr) (ns : List Int) (k : Int), x = .ref l ∧ vs = [.int k] ∧ H l = some (.lst (ns.map V.int)) ∧ k ∈ ns ∧ Q .non (upd H l (.lst ((ns.eraseIdx (ns.idxOf k)).map V.int)))
theorem mt_remove : MtM X "list.remove" rRemove := by
  intro pins s σ H x vs v us Q I rx rv h
  obtain ⟨l, ns, k, rfl, rfl, hH, hk, q⟩ := h
  cases rx
  obtain ⟨u, rfl, ru⟩ := rv.one
  obtain ⟨t, rfl⟩ := ru
  obtain ⟨z, its, n, r, hl, e⟩ := I.lstM hH
  have hi := intsAre_of r
  have hn := hi.length
  have hj : ns.idxOf k < ns.length := List.idxOf_lt_length_iff.mpr hk
  have ml : (ns.map V.int).length = ns.length := List.length_map ..
  refine call_meets PySem.F.slot_list_remove ⟨_, e, rfl⟩ PySem.F.entry_list_remove (PySem.F.args_list_remove_2 _ _) (MeetsSeq.list_remove l its.toArray n (.int k t) (isInt k) (fun y hy => eq_isInt k t hi y (by simpa using hy)) (ns.idxOf k) (by rw [List.size_toArray]; omega) ?_ ?_ (by rw [List.size_toArray]; omega)) ⟨e, ?_⟩
  · have : isInt k its[ns.idxOf k] = true := by rw [isInt_at k hi _ (by omega) hj]; simpa using List.getElem_idxOf hj
    exact this
  · intro j hjs hlt
    have : isInt k its[j] = false := by rw [isInt_at k hi j (by simpa using hjs) (by omega)]; exact ne_of_lt_idxOf hlt _
    exact this
  · rw [← map_erase] at q
    refine ⟨.non, _, I.lset (its' := its.eraseIdx (ns.idxOf k)) hH e ?_ (r.eraseIdx (ns.idxOf k)) ?_, rfl, q⟩
    · show its.toArray.eraseIdxIfInBounds (ns.idxOf k) = (its.eraseIdx (ns.idxOf k)).toArray
      rw [List.eraseIdxIfInBounds_toArray]
    · have := len_erase (ns.map V.int) (ns.idxOf k)
      omega
end
theorem vals_get : ∀ {xs : List V} {us : List Value}, xs.length = us.length → (∀ (i : Nat) x u, xs[i]? = some x → us[i]? = some u → RelV x u) → Vals xs us
  | [], [], _, _ => .nil
  | [], _ :: _, h, _ => by cases h
  | _ :: _, [], h, _ => by cases h
  | x :: xs, u :: us, h, k => .cons (k 0 x u rfl rfl) (vals_get (Nat.succ.inj h) fun i y v h1 h2 => k (i + 1) y v h1 h2)
section
variable {X : Cx} {e : Expr} {te : TE} {p p2 pos pos2 : Pos}
def tLRange (te : TE) : TE := fun σ H Q => te σ H fun x H1 => ∃ n : Nat, x = .int (n : Int) ∧ n < 1000 ∧ ∀ l, H1 l = none → Q (.ref l) (upd H1 l (.lst ((List.range n).map fun i : Nat => V.int (i : Int))))
theorem pe_listrange (hc : X.calm = true) (hg : Gl X "list") (hm : X.mg "list" = none) (hg2 : Gl X "range") (hm2 : X.mg "range" = none) (he : PE X e te)
    (hs : starEach [e] X.env = [(false, eval e X.env)] := by rfl)
    (hs2 : starEach [(.Call (.Name "range" p2) [e] [] pos2 : Expr)] X.env = [(false, eval (.Call (.Name "range" p2) [e] [] pos2) X.env)] := by rfl) :
    PE X (.Call (.Name "list" p) [.Call (.Name "range" p2) [e] [] pos2] [] pos) (tLRange te) := by
  intro pins s σ H Q I h
  refine wpAny_Call_Name_kw (ld_blt I hg hm boot_list ?_ (by decide) (by decide))
  refine callWith_type1 ?_ hs2 rfl
  rw [hs2]
  refine Calls.spliced_cons ?_
  refine wpAny_Call_Name_kw (ld_blt I hg2 hm2 boot_range ?_ (by decide) (by decide))
  refine callWith_type1 ?_ hs rfl
  rw [hs]
  refine Calls.spliced_cons (thn (he pins s σ H _ I h) fun u s1 ⟨x, H1, I1, r1, n, hx, hn, q⟩ => ?_)
  subst hx
  obtain ⟨t, rfl⟩ := r1
  refine Calls.spliced_nil ?_
  refine call_range_1 ?_
  refine Calls.spliced_nil ?_
  refine call_list_range (n := n) (I1.ok.hd hc) (IsRange.new ..) (small_one (by omega) (by omega) (by omega) (by omega)) (by rw [rangeSize_one]; split <;> omega) (by omega) fun h' tk acc c' kp eS it => ?_
  have kp' : ∀ b o, s1.heap.get? b = some o → h'.get? b = some o := fun b o e => kp b o (Heap.get?_push_of_some _ e)
  have hp : s1.heap.objs.size ≤ (s1.heap.push { cls := .type "range", data := .fields #[.int 0 s1.toks, .int (n : Int) t, .int 1 (s1.toks + 1)] }).objs.size := by simp [Heap.push]
  have rv : Vals ((List.range n).map fun i : Nat => V.int (i : Int)) acc.toList := by
    refine vals_get (by simp [it.1]) fun i x u hx hu => ?_
    rw [List.getElem?_map] at hx
    obtain ⟨t', e⟩ := it.2 i u (by simpa using hu)
    have hi : i < n := by
      have := (List.getElem?_eq_some_iff.mp hu).1
      rw [Array.length_toList, it.1] at this
      exact this
    rw [List.getElem?_range hi] at hx
    have hx' : x = V.int (i : Int) := (Option.some.inj hx).symm
    subst hx'
    exact ⟨t', by rw [e]; simp⟩
  have hz : ((List.range n).map fun i : Nat => V.int (i : Int)).length ≤ sizeLine := by rw [List.length_map, List.length_range]; exact Nat.le_of_lt (small1000 (by omega))
  exact ⟨.ref _, _, I1.laid (t' := tk) kp' hp (show ObjOk X.prog X.w _ h' _ (.lst ((List.range n).map fun i : Nat => V.int (i : Int))) from ⟨hz, acc.toList, c', rv, by simpa using eS⟩), rfl, q _ (I1.hok.fresh hp)⟩
end
section
variable {prog : Program} {w : World} {A : Around} {E : Value → Shared → Prop} {s : Shared}
end
section
variable {X : Cx}
end
end L2
namespace L2
open PySem PySem.Spec PyProof.Rows
structure RoomH (k : Nat) (A : Around) : Prop where
  dp : A.depth + 3 * k + 5 < recursionLimit
  un : A.units + 16 * k + 200 < cLine
theorem RoomH.mark {k : Nat} {A : Around} (r : RoomH k A) (v : Option Value) : RoomH k (A.mark v) := ⟨r.dp, r.un⟩
theorem RoomH.units {k : Nat} {A : Around} (r : RoomH k A) : A.units + 64 < cLine := by have := r.un; omega
structure FnOkH (P : Program) (w : World) (K : PySem.W.Frag) (mg : Str → Option Value) (base : Heap) (k : Nat) (f : Addr) (fd : FuncData) (ps : List Str) (sp : Sp) : Prop where
  len : ∀ vs H Q E, sp vs H Q E → vs.length = ps.length
  run : ∀ (A : Around) (outer : List Env) (s : Shared) (H : Hp) (args : Args) (us : List Value) (vs : List V) (Q : VK) (E : XK), RoomH k A → Env0 P w K mg base A outer s H → BindsTo s fd args (ps.zip us) → Vals vs us → sp vs H Q E →
    codeAny (model P w) A (.call (.ref f) args) (CR CX0 outer P w H s Q E) s
section
variable {P : Program} {w : World} {K : PySem.W.Frag} {mg : Str → Option Value} {base : Heap}
end
section
variable {X : Cx} {k : Nat} {f : Addr} {fd : FuncData} {ps : List Str} {sp : Sp} {x : Str} {p pos : Pos} {e : Expr} {es : List Expr} {t : TA}
end
section
variable {X : Cx}
end
end L2
namespace L2
open PySem PySem.Spec PyProof.Rows
section
variable {prog : Program} {w : World} {A : Around} {E : Value → Shared → Prop} {s : Shared}
end
def FrT (P : Program) (w : World) (H : Hp) (d : Addr) (ob : Obj) (kvs : List (List Key × V)) : Prop :=
  kvs.length ≤ sizeLine ∧ (d == sysModules) = false ∧ ∃ xs : List (List Key × Addr × Value), Paired (fun (p : List Key × V) (q : List Key × Addr × Value) => p.1 = q.1 ∧ H q.2.1 = some (.tup (p.1.map kV)) ∧ RelV p.2 q.2.2) kvs xs ∧
    ∃ es ep, ob.ExactDict ∧ ob.data = .dict es ep ∧ es.toList = xs.map (entryOfKey (tupleKind (mixKind P w))) ∧ (xs.map (·.1)).Nodup
theorem paired_imp {α β : Type} {R S : α → β → Prop} (h : ∀ a b, R a b → S a b) : ∀ {xs : List α} {ys : List β}, Paired R xs ys → Paired S xs ys
  | _, _, .nil => .nil
  | _, _, .cons r t => .cons (h _ _ r) (paired_imp h t)
theorem paired_get {α β : Type} {R : α → β → Prop} : ∀ {xs : List α} {ys : List β} {i : Nat} {x : α}, Paired R xs ys → xs[i]? = some x → ∃ y, ys[i]? = some y ∧ R x y
  | _, _, _, _, .nil, h => by cases h
  | _, _, 0, _, .cons r t, h => ⟨_, rfl, by cases Option.some.inj h; exact r⟩
  | _, _, i + 1, _, .cons _ t, h => paired_get (i := i) t h
section
variable {X : Cx}
theorem FrT.of {P : Program} {w : World} {H : Hp} {h : Heap} {d : Addr} {kvs : List (List Key × V)} (x : ObjOk P w H h d (.dT kvs)) : ∃ ob, h.get? d = some ob ∧ FrT P w H d ob kvs := by
  obtain ⟨a, b, xs, c, o, es, ep, e, r⟩ := x
  exact ⟨o, e, a, b, xs, c, es, ep, r⟩
theorem FrT.to {P : Program} {w : World} {H H' : Hp} {h : Heap} {d : Addr} {ob : Obj} {kvs : List (List Key × V)} (x : FrT P w H d ob kvs) (e : h.get? d = some ob) (t : ∀ b xs, H b = some (.tup xs) → H' b = some (.tup xs)) : ObjOk P w H' h d (.dT kvs) := by
  obtain ⟨a, b, xs, c, es, ep, r⟩ := x
  exact ⟨a, b, xs, paired_imp (fun p q ⟨z1, z2, z3⟩ => ⟨z1, t _ _ z2, z3⟩) c, ob, es, ep, e, r⟩
theorem FrT.vals {P : Program} {w : World} {H : Hp} {d : Addr} {ob : Obj} {kvs : List (List Key × V)} (x : FrT P w H d ob kvs) : ∃ es ep, ob.data = .dict es ep ∧ es.size = kvs.length ∧ ∀ (i : Nat) (hi : i < es.size) (v : V), (kvs[i]?).map (·.2) = some v → RelV v es[i].val := by
  obtain ⟨_, _, xs, c, es, ep, _, h2, h3, _⟩ := x
  have l1 := Paired.length c
  have l2 : es.toList.length = xs.length := by rw [h3, List.length_map]
  rw [Array.length_toList] at l2
  refine ⟨es, ep, h2, by omega, fun i hi v hv => ?_⟩
  obtain ⟨p, hp, rfl⟩ := Option.map_eq_some_iff.mp hv
  obtain ⟨q, hq, r⟩ := paired_get c hp
  have e1 : es.toList[i]? = some (entryOfKey (tupleKind (mixKind P w)) q) := by rw [h3, List.getElem?_map, hq]; rfl
  have e2 : es[i] = entryOfKey (tupleKind (mixKind P w)) q := by
    have : es.toList[i]? = some es[i] := by simp [hi]
    rw [e1] at this
    exact (Option.some.inj this).symm
  rw [e2]
  exact r.2.2
end
end L2
namespace L2
open PySem PySem.Spec PyProof.Rows
structure FunD (K : PySem.W.Frag) (x qual : Str) (st : Stmt) (f : Addr) (fd : FuncData) : Prop where
  ex : ∃ (oc : Value) (od : Option Addr) (dV kV doc pm : Value) (an : Option Addr) (cdv ct : Value) (osl : Array (Option Value)),
    fd = PySem.W.fnOf x qual (defArgs st) (defBody st) (defScope st) dV kV doc pm an cdv ct ∧ K.lookup f = some ⟨oc, od, .func fd, osl⟩ ∧ PySem.W.codeIn K cdv qual = true
  kp : PySem.W.keepIn K (.ref f) = true
section
variable {P : Program} {w : World} {K : PySem.W.Frag} {mg : Str → Option Value} {base : Heap}
theorem FunD.ok {x qual : Str} {st : Stmt} {f : Addr} {fd : FuncData} {N ps : List Str} {k : Nat} {sp : Sp} (F : FunD K x qual st f fd) (S : FnScope N ps (defScope st)) (len : ∀ vs H Q E, sp vs H Q E → vs.length = ps.length)
    (hbody : ∀ (cdv : Value) (A : Around) (outer : List Env) (s : Shared) (H : Hp) (vs : List V) (Q : VK) (E : XK), Room k (A.deeper (envOfC qual (defScope st) s.heap.objs.size f cdv)) → sp vs H Q E →
      ∃ t, PSs (cxOf CX0 P w K mg base N qual (defScope st) f cdv A outer s H E).nox (defBody st) t ∧ t { nx := fun _ H' => Q .non H', rt := Q } (start N vs) H) : FnOk P w K mg base CX0 (k + 1) f fd ps sp := by
  obtain ⟨oc, od, dV, kV, doc, pm, an, cdv, ct, osl, rfl, lk, hcd⟩ := F.ex
  refine fn_of lk hcd S len fun A outer s H vs Q E hr hsp => ?_
  obtain ⟨t, h, q⟩ := hbody cdv A outer s H vs Q E hr hsp
  exact ⟨t, h.nox, q⟩
end
structure CFn (K : PySem.W.Frag) (C : Addr) (m : Str) (f : Addr) : Prop where
  sg : PySem.W.specialIn K (.ref C) "__getattribute__" = some (some (.builtin "type.__getattribute__"))
  rd : PySem.W.readsIn K C (.type "type") = true
  at_ : PySem.W.findCls K (.ref C) (.type "type") m = some (.val (.ref f))
section
variable {X : Cx} {CX : CXT} {W : St → XK} {k : Nat} {f C : Addr} {fd : FuncData} {ps : List Str} {sp : Sp} {dvs : List V} {ds : List Value} {E : XK} {x m : Str} {p pos apos : Pos} {e o : Expr} {es : List Expr} {ta : TE} {t : TA}
end
end L2
namespace L2
open PySem PySem.Spec PyProof.Rows
structure CompNC (N Nc : List Str) (x : Str) (sc fsc : Scope) : Prop where
  kind : sc.kind = .function
  one : (sc.names.filter fun y => y.2 == .cell) = [(x, .cell)]
  nm : ∀ y ∈ sc.names, y.2 = .local → sc.names.lookup y.1 = some .local
  own : sc.names.lookup x = some .cell
  fr : ∀ y ∈ sc.names, y.2 = .free → fsc.names.lookup y.1 = some .cell ∨ fsc.names.lookup y.1 = some .free
  len : Nc.length = N.length + 1
  nd : Nc.Nodup
  last : Nc[N.length]? = some x
  slot : ((List.range N.length).all fun i => match Nc[i]? with
    | some y => (match sc.names.lookup y with | some .free => N[i]? == some y | some .local => false | some .cell => false | _ => true)
    | none => true) = true
theorem CompNC.at {N Nc : List Str} {x : Str} {sc fsc : Scope} (C : CompNC N Nc x sc fsc) {i : Nat} {y : Str} (hi : i < N.length) (h : Nc[i]? = some y) : sc.names.lookup y ≠ some .local ∧ sc.names.lookup y ≠ some .cell ∧ (sc.names.lookup y = some .free → N[i]? = some y) := by
  have q := List.all_eq_true.mp C.slot i (List.mem_range.mpr hi)
  rw [h] at q
  dsimp only at q
  cases e : sc.names.lookup y with
  | none => exact ⟨fun z => (nomatch z), fun z => (nomatch z), fun z => (nomatch z)⟩
  | some k =>
    rw [e] at q
    cases k with
    | «local» => exact absurd (show false = true from q) Bool.false_ne_true
    | cell => exact absurd (show false = true from q) Bool.false_ne_true
    | free => exact ⟨fun z => (nomatch z), fun z => (nomatch z), fun _ => by simpa using q⟩
    | _ => exact ⟨fun z => (nomatch z), fun z => (nomatch z), fun z => (nomatch z)⟩
section
variable {X : Cx} {elt iter : Expr} {x : Str} {px pos : Pos} {ifs : List Expr} {sc fsc : Scope} {N Nc : List Str} {wi : TI} {tt : TT} {te : TE}
end
section
variable {X : Cx} {elt iter : Expr} {x y : Str} {py pos : Pos} {ifs : List Expr} {sc sc2 fsc : Scope} {Nc Nd : List Str} {wi : TI} {tt : TT} {te : TE} {cl : List (Str × Addr)} {s : Shared} {H : Hp} {ex : List Addr}
end
end L2
namespace L2
open PySem PySem.W PySem.Spec PyProof.Rows
def CodeO (c : Addr) (q : Str) : HO := .ext fun h => h.CodeRec (.ref c) q
structure LamB (base : Heap) (mg : Str → Option Value) (c P : Addr) : Prop where
  hd : CodeHd base c P
  bm : ∃ bm ob, mg "__builtins__" = some (.ref bm) ∧ bm ≠ builtinsNs ∧ base.get? bm = some ob ∧ ob.cls = .type "module" ∧ ob.dict = some builtinsNs ∧ ob.data = .plain
  out : base.get? P = none
def Lam1 (P : Addr) (pos : Pos) (q : Str) (H : Hp) : Prop := ∃ c, H P = some (.tbl #[rawInt pos.line, rawInt pos.col, .ref c]) ∧ H c = some (CodeO c q)
def LamT (P : Addr) (pos : Pos) (q : Str) (H : Hp) : Prop := H P = some (.tbl #[]) ∨ Lam1 P pos q H
def SmL (P : Addr) (H H' : Hp) : Prop := ∀ b u, b ≠ P → H b = some u → H' b = some u
theorem Lam1.same {P : Addr} {pos : Pos} {q : Str} {H H' : Hp} (x : Lam1 P pos q H) (e : Same H H') : Lam1 P pos q H' := let ⟨c, h1, h2⟩ := x; ⟨c, e _ _ h1, e _ _ h2⟩
theorem Lam1.put {P l : Addr} {pos : Pos} {q : Str} {H : Hp} {xs : List V} {o : HO} (t : Lam1 P pos q H) (e : H l = some (.lst xs)) : Lam1 P pos q (upd H l o) := by
  obtain ⟨c, h1, h2⟩ := t
  exact ⟨c, by rw [upd_ne (fun z => by rw [z, e] at h1; cases h1)]; exact h1, by rw [upd_ne (fun z => by rw [z, e] at h2; cases h2)]; exact h2⟩
theorem LamT.put {P l : Addr} {pos : Pos} {q : Str} {H : Hp} {xs : List V} {o : HO} (t : LamT P pos q H) (e : H l = some (.lst xs)) : LamT P pos q (upd H l o) := by
  rcases t with t | t
  · exact .inl (by rw [upd_ne (fun z => by rw [z, e] at t; cases t)]; exact t)
  · exact .inr (t.put e)
theorem LamT.same {P : Addr} {pos : Pos} {q : Str} {H H' : Hp} (t : LamT P pos q H) (s : Same H H') : LamT P pos q H' := t.elim (fun t => .inl (s _ _ t)) fun t => .inr (t.same s)
theorem SmL.of {P : Addr} {H H' : Hp} (e : Same H H') : SmL P H H' := fun b u _ h => e b u h
theorem SmL.trans {P : Addr} {H H1 H2 : Hp} (a : SmL P H H1) (b : SmL P H1 H2) : SmL P H H2 := fun c u n e => b c u n (a c u n e)
theorem SmL.at {P : Addr} {H H' : Hp} {pos : Pos} {q : Str} (e : SmL P H H') (t : LamT P pos q H) {b : Addr} {u : HO} (h : H b = some u) (n : ∀ ps, u ≠ .tbl ps) : H' b = some u := e b u (fun z => by
  rw [z] at h
  rcases t with t | ⟨_, t, _⟩
  · rw [h] at t; exact n _ (Option.some.inj t)
  · rw [h] at t; exact n _ (Option.some.inj t)) h
theorem among_nil (pos : Pos) : codeAmong pos (#[] : Array Value).toList = none := rfl
theorem among_one (pos : Pos) (c : Addr) : codeAmong pos (#[rawInt pos.line, rawInt pos.col, .ref c] : Array Value).toList = some (.ref c) := by
  simp [codeAmong, rawInt]
theorem codeO_ok {P : Program} {w : World} {H : Hp} {h : Heap} {c : Addr} {q : Str} (x : h.CodeRec (.ref c) q) : ObjOk P w H h c (CodeO c q) := by
  refine ⟨x, ?_, fun h1 h2 y k => ?_⟩
  · obtain ⟨c', o, vs, t, e, g, _⟩ := x
    cases e
    exact ⟨o, g⟩
  · obtain ⟨c', o, vs, t, e, g, r⟩ := y
    cases e
    exact ⟨c, o, vs, t, rfl, k o g, r⟩
theorem codeO_rec {P : Program} {w : World} {H : Hp} {h : Heap} {c : Addr} {q : Str} (x : ObjOk P w H h c (CodeO c q)) : h.CodeRec (.ref c) q := x.1
section
variable {X : Cx} {pins : List (Addr × Obj)} {σ : St} {H : Hp} {s : Shared} {c P : Addr} {pos : Pos} {params : Arguments} {body : Expr} {sc : Scope} {cl : List (Str × Addr)} {q : Str} {M : Model} {A : Around} {E : Value → Shared → Prop} {Q : Value → Shared → Prop}
theorem LamB.at (LB : LamB X.base X.mg c P) (I : Inv X pins σ H s) (hp : ∃ ps, H P = some (.tbl ps)) : s.heap.Ns mainGlobals X.mg ∧ CodeHd s.heap c P ∧ mainGlobals ≠ P ∧ s.heap.BuiltinsAt X.mg P := by
  have G : s.heap.Ns mainGlobals X.mg := I.mod.glob.keeps I.bk
  have gP : mainGlobals ≠ P := fun z => by
    obtain ⟨o, _, _, e, _⟩ := I.mod.glob
    rw [z, LB.out] at e; cases e
  obtain ⟨bm, ob, b1, b2, b3, b4, b5, b6⟩ := LB.bm
  refine ⟨G, LB.hd.keeps I.bk, gP, bm, ob, b1, b2, fun z => ?_, fun z => ?_, I.bk _ _ b3, b4, b5, b6⟩
  · obtain ⟨o, es, ep, e, hd, _⟩ := I.mod.glob
    rw [← z, b3] at e; cases e; rw [b6] at hd; cases hd
  · rw [z, LB.out] at b3; cases b3
theorem Inv.pin1 {f : Addr} {o : Obj} (I : Inv X pins σ H s) (c : CLoc X pins H f) (e : s.heap.get? f = some o) (hf : f ∉ X.fs) (d : ∀ v, o.data ≠ .cell v) : Inv X ((f, o) :: pins) σ H s :=
  I.pins_of fun p hp => by
    rcases List.mem_cons.mp hp with rfl | hp
    · exact ⟨e, c.free, c.ne, hf, d⟩
    · exact I.pin p (List.mem_append_right _ hp)
theorem Inv.cloc {f : Addr} (I : Inv X pins σ H s) (h : s.heap.objs.size ≤ f) : CLoc X pins H f := by
  obtain ⟨g0, g1, g2, g3, g4, g5⟩ := I.fpOk h (I.hok.fresh h)
  exact ⟨g0, g1, Nat.le_trans I.sz h, g4, g5⟩
theorem lam_make (LB : LamB X.base X.mg c P) (hcode : X.env.code = .ref c) (hcl : closureFor sc X.env = pure cl) (I : Inv X pins σ H s) (t : LamT P pos q H)
    (h : ∀ (f c' : Addr) (pm ctv : Value) (H' : Hp) (s' : Shared), Inv X ((f, kla_obj "<lambda>" q params body sc cl pm c' ctv) :: pins) σ H' s' → H' c' = some (CodeO c' q) → CLoc X pins H' f → Lam1 P pos q H' → SmL P H H' → (Lam1 P pos q H → H = H') → (∀ b, H' b = none → H b = none) → Q (.ref f) s') :
    wpAny M A (makeFunction "<lambda>" q params (.expr body) sc X.env [] [] [] pos pos.line) Q E s := by
  rcases t with t | ⟨c', t1, t2⟩
  · obtain ⟨G, C, gP, B⟩ := LB.at I ⟨_, t⟩
    have hP : s.heap.get? P = some (tabObj #[]) := I.hok P _ t
    refine kla_makeFunction (mg := X.mg) hcl I.ok.glob G hcode C hP trivial (among_nil pos) gP B fun c' ctv h' tk hx hge hlt hrec htb => ?_
    have hc' : H c' = none := I.hok.fresh hge
    have cP : c' ≠ P := fun z => by rw [z, t] at hc'; cases hc'
    have nP : ∀ {b : Addr}, H b = none → b ≠ P := fun e z => by rw [z, t] at e; cases e
    have htb' : h'.get? P = some (tabObj (#[] ++ #[rawInt pos.line, rawInt pos.col, .ref c'])) := htb
    have ht0 : ((#[] : Array Value) ++ #[rawInt pos.line, rawInt pos.col, .ref c']) = #[rawInt pos.line, rawInt pos.col, .ref c'] := rfl
    generalize eH : upd (upd H P (.tbl #[rawInt pos.line, rawInt pos.col, .ref c'])) c' (CodeO c' q) = H'
    have hb : ∀ {b : Addr}, b ≠ P → b ≠ c' → H' b = H b := fun n1 n2 => by rw [← eH, upd_ne n2, upd_ne n1]
    have hPH : H' P = some (.tbl #[rawInt pos.line, rawInt pos.col, .ref c']) := by rw [← eH, upd_ne (Ne.symm cP), upd_same]
    have hcH : H' c' = some (CodeO c' q) := by rw [← eH, upd_same]
    have ne' : ∀ {b : Addr} {o : Obj}, s.heap.get? b = some o → b ≠ c' := fun e => Nat.ne_of_lt (Nat.lt_of_lt_of_le (Heap.lt_size e) hge)
    have neH : ∀ {b : Addr} {u : HO}, H b = some u → b ≠ c' := fun e z => by rw [z, hc'] at e; cases e
    have U : Un X.fs [] H H' s.heap h' := ⟨fun b o e n _ _ => hx b o (nP n) e, fun b o e n _ _ => ⟨o.slots, hx b o (nP n) e⟩, fun b o e n _ => by rw [hb (nP n) (ne' e)]; exact n, fun b o e _ => by
        by_cases z : b = P
        · rw [z]; exact ⟨_, htb⟩
        · exact ⟨o, hx b o z e⟩, fun b xs e => by
        rw [hb (fun z => by rw [z, t] at e; cases e) (neH e)]; exact e, fun b o u e => by
        rw [hb (fun z => by rw [z, t] at e; cases e) (neH e)]; exact e, fun b ps e => by
        by_cases z : b = P
        · rw [z, t] at e
          cases e
          exact ⟨#[rawInt pos.line, rawInt pos.col, .ref c'], by rw [z, hPH]; rfl⟩
        · exact ⟨#[], by rw [hb z (neH e), e]; simp⟩⟩
    have hok : HOk X.prog X.w H' h' := fun a o e => by
      by_cases z : a = P
      · subst z
        rw [hPH] at e
        cases e
        exact htb
      · by_cases z2 : a = c'
        · subst z2
          rw [hcH] at e
          cases e
          exact codeO_ok hrec
        · rw [hb z z2] at e
          refine (I.hok a o e).stay (fun b u hbu g => ?_) (fun b g => ?_) fun b xs g => ?_
          · refine hx b u (fun y => ?_) g
            rcases hbu with rfl | hbu
            · exact z y
            · rw [y, t] at hbu; cases hbu
          · rw [hb (fun y => by rw [y, t] at g; cases g) (neH g)]; exact g
          · rw [hb (fun y => by rw [y, t] at g; cases g) (neH g)]; exact g
    have I1 : Inv X pins σ H' { s with heap := h', toks := tk } := I.un U hok
    have I2 := I1.kept (t' := tk) (h' := h'.push (kla_obj "<lambda>" q params body sc cl ((X.mg "__name__").getD .none) c' ctv)) fun b u e => Heap.get?_push_of_some _ e
    have cf : CLoc X pins H' h'.objs.size := I1.cloc (Nat.le_refl _)
    refine h _ c' _ ctv H' _ (I2.pin1 cf (Heap.get?_push_size _ rfl) (I1.nofs (Nat.le_refl _)) (fun v z => by cases z)) hcH cf ⟨c', hPH, hcH⟩ (fun b u n e => by rw [hb n (neH e)]; exact e) (fun ⟨_, y, _⟩ => by rw [t] at y; cases y) fun b e => ?_
    rw [hb (fun z => by rw [z, hPH] at e; cases e) (fun z => by rw [z, hcH] at e; cases e)] at e
    exact e
  · obtain ⟨G, C, gP, B⟩ := LB.at I ⟨_, t1⟩
    have hP : s.heap.get? P = some (tabObj #[rawInt pos.line, rawInt pos.col, .ref c']) := I.hok P _ t1
    refine kla_makeFunctionHit (mg := X.mg) hcl I.ok.glob G hcode C hP trivial (among_one pos c') B fun ctv h' tk hk hsz => ?_
    have I1 : Inv X pins σ H { s with heap := h', toks := tk } := I.kept hk
    have I2 := I1.kept (t' := tk) (h' := h'.push (kla_obj "<lambda>" q params body sc cl ((X.mg "__name__").getD .none) c' ctv)) fun b u e => Heap.get?_push_of_some _ e
    have cf : CLoc X pins H h'.objs.size := I1.cloc (Nat.le_refl _)
    exact h _ c' _ ctv H _ (I2.pin1 cf (Heap.get?_push_size _ rfl) (I1.nofs (Nat.le_refl _)) (fun v z => by cases z)) t2 cf ⟨c', t1, t2⟩ (fun _ _ _ e => e) (fun _ => rfl) fun _ e => e
end
def Cx.inLam (X : Cx) (A : Around) (Nc : List Str) (q : Str) (sc : Scope) (cl : List (Str × Addr)) (f c' : Addr) (s : Shared) (H : Hp) : Cx :=
  { X with A := A.deeper (envX q sc s.heap.objs.size f (.ref c') cl), N := Nc, s₀ := s, H₀ := H, env := envX q sc s.heap.objs.size f (.ref c') cl, outer := X.stack, stack := envX q sc s.heap.objs.size f (.ref c') cl :: X.stack, ex := [], fn := fun _ => false, calm := true, pn := [], xe := fun _ _ => False }
section
variable {X : Cx} {pins : List (Addr × Obj)} {σ : St} {H : Hp} {s : Shared} {params : Arguments} {body : Expr} {sc fsc : Scope} {cl : List (Str × Addr)} {q x : Str} {A : Around} {N Nc : List Str} {f c' : Addr} {te : TE} {E : Value → Shared → Prop}
theorem inv_lam (hE : X.env.scope = fsc) (hXN : X.N = N) (cn : CompN N Nc x sc fsc)
    (clS : ∀ y c, cl.lookup y = some c → X.env.cells.lookup y = some c) (clH : ∀ y ∈ sc.names, y.2 = .free → ∃ c, cl.lookup y.1 = some c) (hA : A.frames = X.A.frames) (hh : A.handled = none)
    (I : Inv X pins σ H s) {v : V} {u : Value} (rv : RelV v u) {h₁ : Heap} {tk : Nat} (hns : h₁.Ns s.heap.objs.size fun y => [(x, u)].reverse.lookup y) (old : ∀ b o, s.heap.get? b = some o → h₁.get? b = some o) :
    Inv (X.inLam A Nc q sc cl f c' s H) [] (σ ++ [some v]) H { s with heap := h₁, toks := tk } := by
  have hlen : σ.length = N.length := by rw [I.len, hXN]
  have noE : ∀ b : Addr, b ∉ (X.inLam A Nc q sc cl f c' s H).ex := fun b z => absurd (show b ∈ ([] : List Addr) from z) (by simp)
  have freeOf : ∀ y, sc.names.lookup y = some .free → ∃ c, cl.lookup y = some c := fun y e => clH (y, .free) (PySem.mem_of_lookup e) rfl
  have noCell : ∀ y, sc.names.lookup y ≠ some .cell := fun y e => cn.cell (y, .cell) (PySem.mem_of_lookup e) rfl
  refine ⟨⟨I.ok.mod, cn.kind, rfl, rfl, Nat.le_refl _, fun y z c e1 e2 => I.ok.inj y z c (clS _ _ e1) (clS _ _ e2), fun y hy => ?_, fun y c z => absurd (show false = true from z) Bool.false_ne_true, fun _ => hh, Around.frames_deeper (hA.trans I.ok.frames), .inr ⟨rfl, rfl⟩, fun b z => absurd z (noE b), I.bs, Nat.le_trans I.ok.bsz I.sz, fun b _ _ => noE b, fun b z => absurd z (noE b), I.stack, I.stkFree⟩,
    rfl, I.bare, Un.kept old, ⟨_, hns, fun i y v' h1 h2 h3 => ?_⟩, fun y c e => ?_, I.hok.fresh (Nat.le_refl _), fun y c e => I.freeC y c (clS y c e), fun p hp => absurd (show p ∈ ([] : List (Addr × Obj)) from hp) (by simp), I.hok.kept old, ?_⟩
  · have hy : sc.names.lookup y = some .cell ∨ sc.names.lookup y = some .free := hy
    rcases hy with hy | hy
    · exact absurd hy (noCell y)
    · exact freeOf y hy
  · have h1 : Nc[i]? = some y := h1
    have h3 : sc.names.lookup y = some .local ∨ sc.names.lookup y = some .cell ∨ sc.names.lookup y = some .free := h3
    by_cases hi : i < N.length
    · obtain ⟨n1, n2, n3⟩ := cn.at hi h1
      have hf : sc.names.lookup y = some .free := by
        rcases h3 with z | z | z
        · exact absurd z n1
        · exact absurd z n2
        · exact z
      rw [List.getElem?_append_left (by omega)] at h2
      have hN : X.N[i]? = some y := by rw [hXN]; exact n3 hf
      obtain ⟨m, hn, hl⟩ := I.loc
      have hv : fsc.names.lookup y = some .cell ∨ fsc.names.lookup y = some .free := cn.fr (y, .free) (PySem.mem_of_lookup hf) rfl
      have hv' : X.env.scope.names.lookup y = some .cell ∨ X.env.scope.names.lookup y = some .free := by rw [hE]; exact hv
      obtain ⟨u', ru, lk⟩ := hl i y v' hN h2 (.inr hv')
      refine ⟨u', ru, .inr ⟨.inr hf, ?_⟩⟩
      rcases lk with ⟨kl, _⟩ | ⟨_, c, hc, hcell⟩
      · exfalso
        have kl' : X.env.scope.names.lookup y = some .local := kl
        rw [kl'] at hv'
        rcases hv' with z | z <;> cases z
      · obtain ⟨d, hd⟩ := freeOf y hf
        have ed := clS y d hd
        rw [hc] at ed
        cases ed
        exact ⟨c, hd, hcell.keeps old⟩
    · have hi' : i < (σ ++ [some v]).length := (List.getElem?_eq_some_iff.mp h2).1
      rw [List.length_append, List.length_singleton] at hi'
      have ei : i = N.length := by omega
      subst ei
      rw [cn.last] at h1
      cases h1
      rw [List.getElem?_append_right (by omega), hlen, Nat.sub_self] at h2
      cases h2
      exact ⟨u, rv, .inl ⟨cn.own, by simp⟩⟩
  · obtain ⟨w, z⟩ := I.cell y c (clS y c e)
    exact ⟨w, z.keeps old⟩
  · show (σ ++ [some v]).length = Nc.length
    rw [List.length_append, hlen, cn.len]
    rfl
theorem lam_call (hE : X.env.scope = fsc) (hXN : X.N = N) (cn : CompN N Nc x sc fsc) (hco : sc.isCoroutine = false) (hgen : sc.isGenerator = false)
    (clS : ∀ y c, cl.lookup y = some c → X.env.cells.lookup y = some c) (clH : ∀ y ∈ sc.names, y.2 = .free → ∃ c, cl.lookup y.1 = some c) (hA : A.frames = X.A.frames) (hh : A.handled = none) (hroom : A.depth < recursionLimit)
    (he : ∀ s H, PE (X.inLam A Nc q sc cl f c' s H) body te)
    (hbind : ∀ pm ctv u, bindArgs (kla_fn "<lambda>" q params body sc cl pm (.ref c') ctv) ⟨[u], []⟩ = pure [(x, u)])
    (I : Inv X pins σ H s) {pm ctv : Value} (hf : (f, kla_obj "<lambda>" q params body sc cl pm c' ctv) ∈ pins) (hc : H c' = some (CodeO c' q)) {v : V} {u : Value} (rv : RelV v u) {R : VK} (h : te (σ ++ [some v]) H R) :
    wpAny (model X.prog X.w) A (call (.ref f) [u]) (fun u' s' => ∃ y H', Inv X pins σ H' s' ∧ RelV y u' ∧ R y H') E s := by
  have lim : s.heap.NoLimit := I.nolimit
  refine wpAny_call (kla_callFunE hroom (I.pin _ (List.mem_append_right _ hf)).1 rfl hco hgen rfl (codeO_rec (I.hok _ _ hc)) ?_)
  rw [hbind]
  refine wpAny_pure (wpAny_newFunctionEnv cn.cell (fun y hy => ?_) (fun h₁ hns hsb => ⟨lim.fresh _ hsb, ?_⟩) cn.kind)
  · rw [List.mem_singleton.mp hy]
    exact cn.own
  · show codeAny _ _ (.expr body (envX q sc s.heap.objs.size f (.ref c') cl)) _ _
    have old : ∀ b o, s.heap.get? b = some o → h₁.get? b = some o := fun b o e => hsb.extBut b o (Nat.ne_of_lt (Heap.lt_size e)) (Heap.get?_push_of_some _ e)
    have Ic := inv_lam (q := q) (f := f) (c' := c') (tk := s.toks + [(x, u)].length) hE hXN cn clS clH hA hh I rv hns old
    refine kla_codeExpr (wpAny_mono (he s H [] _ (σ ++ [some v]) H R Ic h) (fun u' s' ⟨y, H', I', r', q'⟩ => ?_) fun _ _ z => z.elim)
    exact ⟨y, H', I.call' (ch := []) I'.os I'.base I'.hok I'.bare (fun b hb => absurd hb (by simp)), r', q'⟩
end
section
variable {X : Cx} {pins : List (Addr × Obj)} {σ : St} {H : Hp}
theorem Inv.sub {ps : List (Addr × Obj)} {s : Shared} (I : Inv X pins σ H s) (h : ∀ p ∈ ps, p ∈ pins) : Inv X ps σ H s := I.pins_of fun p hp => I.pin p (List.mem_append_right _ (h p hp))
theorem CLoc.cons {C S : Addr} {o : Obj} (c : CLoc X pins H C) (n : S ≠ C) : CLoc X ((S, o) :: pins) H C := ⟨c.free, c.ne, c.new, c.cells, fun p hp => by
  rcases List.mem_append.mp hp with hp | hp
  · exact c.pins p (List.mem_append_left _ hp)
  · rcases List.mem_cons.mp hp with rfl | hp
    · exact n
    · exact c.pins p (List.mem_append_right _ hp)⟩
theorem Inv.repin {s : Shared} {C : Addr} {o o' : Obj} {h' : Heap} {t' : Nat} (I : Inv X ((C, o) :: pins) σ H s) (c : CLoc X pins H C) (k : ∀ b u, b ≠ C → s.heap.get? b = some u → h'.get? b = some u) (e : h'.get? C = some o') (d : ∀ v, o'.data ≠ .cell v) :
    Inv X ((C, o') :: pins) σ H { s with heap := h', toks := t' } := by
  obtain ⟨_, _, _, nf, _⟩ := I.pin (C, o) (List.mem_append_right _ (List.mem_cons_self ..))
  have I0 : Inv X pins σ H s := I.sub fun p hp => List.mem_cons_of_mem _ hp
  exact (I0.turned (t' := t') k c.free c.ne (.inr c.new) c.cells c.pins).pin1 c e nf d
variable {xs : List V} {l f I S : Addr}
theorem max_loop (hc : X.calm = true) (kf : Nat → Int) {R : Result → Shared → Prop} (hq : SqL X.K H l xs) (hlI : l ≠ I) (hSI : S ≠ I) (cI : CLoc X pins H I) (cS : CLoc X pins H S)
    (turn : ∀ (i : Nat) (x : V) (u : Value) (ps : List (Addr × Obj)) (s : Shared), xs[i]? = some x → RelV x u → (∀ p ∈ pins, p ∈ ps) → Inv X ps σ H s → wpAny (model X.prog X.w) X.A.in1 (call (.ref f) [u]) (fun v s' => Inv X ps σ H s' ∧ ∃ t, v = .int (kf i) t) (fun _ _ => False) s)
    (hR : ∀ (i : Nat) (x : V) (v : Value) (s : Shared), xs[i]? = some x → RelV x v → (∀ j, j < xs.length → kf j ≤ kf i ∧ (j < i → kf j < kf i)) → Inv X pins σ H s → R (.ok (.ret v)) s) :
    ∀ (r j i : Nat) (s : Shared) (vb : Value) (x : V) (tb : Tok) (c : Nat) (oI : Obj), xs.length - (j + 1) = r → j + 1 ≤ xs.length → Inv X ((S, seqObj "list" #[vb, .int (kf i) tb] c) :: (I, oI) :: pins) σ H s → s.heap.IsListIter I l (j + 1) → xs[i]? = some x → RelV x vb → i ≤ j →
      (∀ j', j' ≤ j → kf j' ≤ kf i ∧ (j' < i → kf j' < kf i)) → codeAny (model X.prog X.w) X.A (.builtin "max.loop" ⟨[.ref I, .ref f, .ref S], []⟩) R s := by
  have hname : (toString "max" ++ toString ".loop" : String) = "max.loop" := by decide
  intro r
  induction r with
  | zero =>
    intro j i s vb x tb c oI hr hj Iv hit hx rx hij hbest
    obtain ⟨its, rv, pl, hz⟩ := Iv.list hq
    have hlen : xs.length = its.length := rv.length
    have W := Walks.list (prog := X.prog) (w := X.w) (A := X.A.in1) (Iv.ok.hd hc) I l hlI its.toArray
    have hsz : its.toArray.size = its.length := List.size_toArray ..
    have hin : j + 1 = its.length := by omega
    have gS := (Iv.pin _ (List.mem_append_right _ (List.mem_cons_self ..))).1
    refine codeAny_builtin PySem.F.entry_max_loop ?_
    rw [Around.under_plainId PySem.F.plain_max_loop _]
    show wpAny _ X.A.in1 (seqItems? (.ref S) >>= _) _ _ _
    refine wpAny_bind (wpAny_seqItems gS rfl ?_)
    show wpAny _ X.A.in1 (tryCatch (pyNext (.ref I)) _ >>= _) _ _ _
    refine wpAny_bind (wpAny_tryCatch (W.done _ _ _ ⟨by rw [hsz, ← hin]; exact hit, pl.isList⟩ fun h' tk' hk' => ?_))
    have I0 : Inv X pins σ H s := Iv.sub fun p hp => List.mem_cons_of_mem _ (List.mem_cons_of_mem _ hp)
    have I1 := I0.turned (t' := tk') (it := I) (h' := h') (fun b o n e => hk' b o (by simpa using n) e) cI.free cI.ne (.inr cI.new) cI.cells cI.pins
    have hS' := hk' S _ (by simpa using hSI) gS
    have s1 := Heap.SameBut.update h' S (Obj.mapSeq fun _ => (#[] : Array Value))
    show wpAny _ X.A.in1 (updateSeq S (fun _ => #[]) >>= _) _ _ _
    refine wpAny_bind ?_
    refine wpAny_updateSeq hS' rfl (wpAny_bind (wpAny_letGo (wpAny_pure ?_)))
    exact hR i x vb _ hx rx (fun j' hj' => hbest j' (by omega)) (I1.turned (t' := tk') (it := S) (fun b o n e => (s1.2 b n).trans e) cS.free cS.ne (.inr cS.new) cS.cells cS.pins)
  | succ r ih =>
    intro j i s vb x tb c oI hr hj Iv hit hx rx hij hbest
    obtain ⟨its, rv, pl, hz⟩ := Iv.list hq
    have hlen : xs.length = its.length := rv.length
    have W := Walks.list (prog := X.prog) (w := X.w) (A := X.A.in1) (Iv.ok.hd hc) I l hlI its.toArray
    have hsz : its.toArray.size = its.length := List.size_toArray ..
    have hlt : j + 1 < its.length := by omega
    have gS := (Iv.pin _ (List.mem_append_right _ (List.mem_cons_self ..))).1
    refine codeAny_builtin PySem.F.entry_max_loop ?_
    rw [Around.under_plainId PySem.F.plain_max_loop _]
    show wpAny _ X.A.in1 (seqItems? (.ref S) >>= _) _ _ _
    refine wpAny_bind (wpAny_seqItems gS rfl ?_)
    show wpAny _ X.A.in1 (tryCatch (pyNext (.ref I)) _ >>= _) _ _ _
    refine wpAny_bind (wpAny_tryCatch (W.item (j + 1) _ _ _ (by rw [hsz]; exact hlt) ⟨hit, pl.isList⟩ fun v h' tk' hP hst' hk' => ?_))
    have hv : its[j + 1]? = some v := by simpa using hP
    obtain ⟨oI', hoI', hoc, hod⟩ := id hst'.1
    obtain ⟨x2, hx2⟩ : ∃ x2, xs[j + 1]? = some x2 := ⟨_, List.getElem?_eq_getElem (by omega)⟩
    obtain ⟨v2, hv2, rx2⟩ := rv.get hx2
    rw [hv] at hv2
    cases hv2
    have Ia : Inv X ((I, oI) :: (S, seqObj "list" #[vb, .int (kf i) tb] c) :: pins) σ H s := Iv.sub fun p hp => by
      rcases List.mem_cons.mp hp with rfl | hp
      · exact List.mem_cons_of_mem _ (List.mem_cons_self ..)
      · rcases List.mem_cons.mp hp with rfl | hp
        · exact List.mem_cons_self ..
        · exact List.mem_cons_of_mem _ (List.mem_cons_of_mem _ hp)
    have I1 := Ia.repin (t' := tk') (h' := h') (o' := oI') (cI.cons hSI) (fun b o n e => hk' b o (by simpa using n) e) hoI' (fun z y => by rw [hod] at y; cases y)
    show wpAny _ X.A.in1 (tryCatch (holding [v] (call (.ref f) [v])) _ >>= _) _ _ _
    refine wpAny_bind (wpAny_tryCatch (wpAny_holding (wpAny_mono (turn (j + 1) x2 v _ _ hx2 rx2 (fun p hp => List.mem_cons_of_mem _ (List.mem_cons_of_mem _ hp)) I1) (fun y s2 he => ?_) fun _ _ hF => hF.elim)))
    obtain ⟨I2, t2, rfl⟩ := he
    have gI2 := (I2.pin _ (List.mem_append_right _ (List.mem_cons_self ..))).1
    have gS2 := (I2.pin _ (List.mem_append_right _ (List.mem_cons_of_mem _ (List.mem_cons_self ..)))).1
    have hit2 : s2.heap.IsListIter I l (j + 1 + 1) := ⟨oI', gI2, hoc, hod⟩
    have I2' : Inv X ((S, seqObj "list" #[vb, .int (kf i) tb] c) :: (I, oI') :: pins) σ H s2 := I2.sub fun p hp => by
      rcases List.mem_cons.mp hp with rfl | hp
      · exact List.mem_cons_of_mem _ (List.mem_cons_self ..)
      · rcases List.mem_cons.mp hp with rfl | hp
        · exact List.mem_cons_self ..
        · exact List.mem_cons_of_mem _ (List.mem_cons_of_mem _ hp)
    show wpAny _ X.A.in1 (tryCatch (holding [v, .int (kf (j + 1)) t2] (richCompare .Gt (.int (kf (j + 1)) t2) (.int (kf i) tb) >>= _)) _ >>= _) _ _ _
    refine wpAny_bind (wpAny_tryCatch (wpAny_holding (wpAny_bind (CmpOf.ints_gt (prog := X.prog) (w := X.w) (A := X.A.in1) (P := fun i v => ∃ t, v = .int (kf i) t) kf (fun i v h => h) (j + 1) i _ _ _ _ _ ⟨t2, rfl⟩ ⟨tb, rfl⟩ ?_))))
    refine wpAny_bind (wpAny_holding (wpAny_truthy_bool ?_))
    refine wpAny_bind (wpAny_letGo (wpAny_pure ?_))
    by_cases hb' : kf (j + 1) > kf i
    · have s1 := Heap.SameBut.update s2.heap S (Obj.mapSeq fun _ => #[v, .int (kf (j + 1)) t2])
      obtain ⟨c2, hc2⟩ : ∃ c2, (s2.heap.update S (Obj.mapSeq fun _ => #[v, .int (kf (j + 1)) t2])).get? S = some (seqObj "list" #[v, .int (kf (j + 1)) t2] c2) := ⟨_, get?_update_seq gS2 fun _ => #[v, .int (kf (j + 1)) t2]⟩
      simp only [hb', decide_true, if_true]
      refine wpAny_bind ?_
      refine wpAny_updateSeq gS2 rfl (wpAny_bind (wpAny_letGo ?_))
      rw [hname]
      have I3 := I2'.repin (t' := s2.toks) (o' := seqObj "list" #[v, .int (kf (j + 1)) t2] c2) (cS.cons (Ne.symm hSI)) (fun b o n e => (s1.2 b n).trans e) hc2 (fun z y => by cases y)
      refine wpAny_pure ⟨plainId_quiet PySem.F.plain_max_loop _, ih (j + 1) (j + 1) _ v x2 t2 c2 oI' (by omega) (by omega) I3 ⟨oI', (s1.2 I hSI.symm).trans gI2, hoc, hod⟩ hx2 rx2 (Nat.le_refl _) fun j' hj' => ?_⟩
      by_cases e : j' = j + 1
      · subst e
        exact ⟨by omega, fun z => by omega⟩
      · have hb1 := (hbest j' (by omega)).1
        exact ⟨by omega, fun _ => by omega⟩
    · simp only [hb', decide_false, Bool.false_eq_true, if_false]
      refine wpAny_bind (wpAny_letGo ?_)
      rw [hname]
      refine wpAny_pure ⟨plainId_quiet PySem.F.plain_max_loop _, ih (j + 1) i _ vb x tb c oI' (by omega) (by omega) I2' hit2 hx rx (by omega) fun j' hj' => ?_⟩
      by_cases e : j' = j + 1
      · subst e
        exact ⟨by omega, fun z => by omega⟩
      · exact hbest j' (by omega)
theorem max_key (hc : X.calm = true) (kf : Nat → Int) {s : Shared} {Q : Value → Shared → Prop} {E : Value → Shared → Prop} (hq : SqL X.K H l xs) (hne : 0 < xs.length) (Iv : Inv X pins σ H s)
    (turn : ∀ (i : Nat) (x : V) (u : Value) (ps : List (Addr × Obj)) (s : Shared), xs[i]? = some x → RelV x u → (∀ p ∈ pins, p ∈ ps) → Inv X ps σ H s → wpAny (model X.prog X.w) X.A.in1 (call (.ref f) [u]) (fun v s' => Inv X ps σ H s' ∧ ∃ t, v = .int (kf i) t) (fun _ _ => False) s)
    (hQ : ∀ (i : Nat) (x : V) (v : Value) (s : Shared), xs[i]? = some x → RelV x v → (∀ j, j < xs.length → kf j ≤ kf i ∧ (j < i → kf j < kf i)) → Inv X pins σ H s → Q v s) :
    wpAny (model X.prog X.w) X.A (call (.builtin "max") [.ref l] [(Str.ofString "key", .ref f)]) Q E s := by
  have hname : (toString "max" ++ toString ".loop" : String) = "max.loop" := by decide
  obtain ⟨its, rv, pl, hz⟩ := Iv.list hq
  have hlen : xs.length = its.length := rv.length
  have hls := pl.isList
  obtain ⟨ol, hol, _⟩ := id hls
  have hll : l < s.heap.objs.size := Heap.lt_size hol
  refine kmk_tree PySem.F.kind_max PySem.F.plain_max PySem.F.entry_max (kmk_max_key _ _) ?_
  show wpAny _ X.A.in1 (Builtin.Builtins.bindParams "max" ["key", "default"] 0 ⟨[], [(Str.ofString "key", .ref f)]⟩ >>= _) _ _ s
  refine wpAny_bind (wpAny_of_eq (show Builtin.Builtins.bindParams "max" ["key", "default"] 0 ⟨[], [(Str.ofString "key", .ref f)]⟩ = pure [some (.ref f), none] from rfl) ?_)
  refine wpAny_bind (wpAny_pure ?_)
  refine wpAny_bind (wpAny_pyIter_list hls ?_)
  refine wpAny_bind (wpAny_newList ?_ (Nat.zero_le _))
  rw [hname]
  have hS : (s.heap.push { cls := .type "list_iterator", data := .fields #[.ref l, .int 0 0] }).objs.size = s.heap.objs.size + 1 := size_push' ..
  have hlI : l ≠ s.heap.objs.size := Nat.ne_of_lt hll
  have hSI : (s.heap.push { cls := .type "list_iterator", data := .fields #[.ref l, .int 0 0] }).objs.size ≠ s.heap.objs.size := by rw [hS]; exact Nat.ne_of_gt (Nat.lt_succ_self _)
  have I1 := Iv.kept (t' := s.toks) (h' := s.heap.push { cls := .type "list_iterator", data := .fields #[.ref l, .int 0 0] }) fun b u e => Heap.get?_push_of_some _ e
  have cI : CLoc X pins H s.heap.objs.size := Iv.cloc (Nat.le_refl _)
  have cS : CLoc X pins H (s.heap.push { cls := .type "list_iterator", data := .fields #[.ref l, .int 0 0] }).objs.size := I1.cloc (Nat.le_refl _)
  have nfI := Iv.nofs (Nat.le_refl _)
  have nfS := I1.nofs (Nat.le_refl _)
  have I2 := I1.kept (t' := s.toks) (h' := (s.heap.push { cls := .type "list_iterator", data := .fields #[.ref l, .int 0 0] }).push (seqObj "list" #[] 0)) fun b u e => Heap.get?_push_of_some _ e
  have gI : ((s.heap.push { cls := .type "list_iterator", data := .fields #[.ref l, .int 0 0] }).push (seqObj "list" #[] 0)).get? s.heap.objs.size = some { cls := .type "list_iterator", data := .fields #[.ref l, .int 0 0] } :=
    Heap.get?_push_of_some _ (Heap.get?_push_size _ rfl)
  have gS : ((s.heap.push { cls := .type "list_iterator", data := .fields #[.ref l, .int 0 0] }).push (seqObj "list" #[] 0)).get? (s.heap.push { cls := .type "list_iterator", data := .fields #[.ref l, .int 0 0] }).objs.size = some (seqObj "list" #[] 0) := Heap.get?_push_size _ rfl
  generalize (s.heap.push { cls := .type "list_iterator", data := .fields #[.ref l, .int 0 0] }).objs.size = S at hSI cS nfS gS ⊢
  generalize hI : s.heap.objs.size = I at hSI cI nfI gI hlI ⊢
  have I3 := (I2.pin1 cS gS nfS (fun z y => by cases y)).pin1 (cI.cons hSI) gI nfI (fun z y => by cases y)
  refine wpAny_pure ⟨plainId_quiet PySem.F.plain_max_loop _, ?_⟩
  obtain ⟨its, rv, pl, hz⟩ := I3.list hq
  have hlen : xs.length = its.length := rv.length
  have W := Walks.list (prog := X.prog) (w := X.w) (A := X.A.in1) (I3.ok.hd hc) I l hlI its.toArray
  have hsz : its.toArray.size = its.length := List.size_toArray ..
  refine codeAny_builtin PySem.F.entry_max_loop ?_
  rw [Around.under_plainId PySem.F.plain_max_loop _]
  show wpAny _ X.A.in1 (seqItems? (.ref _) >>= _) _ _ _
  refine wpAny_bind (wpAny_seqItems gS rfl ?_)
  show wpAny _ X.A.in1 (tryCatch (pyNext (.ref I)) _ >>= _) _ _ _
  refine wpAny_bind (wpAny_tryCatch (W.item 0 _ _ _ (by rw [hsz, ← hlen]; exact hne) ⟨⟨_, gI, rfl, rfl⟩, pl.isList⟩ fun v h' tk' hP hst' hk' => ?_))
  have hv : its[0]? = some v := by simpa using hP
  obtain ⟨oI', hoI', hoc, hod⟩ := id hst'.1
  obtain ⟨x2, hx2⟩ : ∃ x2, xs[0]? = some x2 := ⟨_, List.getElem?_eq_getElem hne⟩
  obtain ⟨v2, hv2, rx2⟩ := rv.get hx2
  rw [hv] at hv2
  cases hv2
  have I4 := I3.repin (t' := tk') (h' := h') (o' := oI') (cI.cons hSI) (fun b o n e => hk' b o (by simpa using n) e) hoI' (fun z y => by rw [hod] at y; cases y)
  show wpAny _ X.A.in1 (tryCatch (holding [v] (call (.ref f) [v])) _ >>= _) _ _ _
  refine wpAny_bind (wpAny_tryCatch (wpAny_holding (wpAny_mono (turn 0 x2 v _ _ hx2 rx2 (fun p hp => List.mem_cons_of_mem _ (List.mem_cons_of_mem _ hp)) I4) (fun y s2 he => ?_) fun _ _ hF => hF.elim)))
  obtain ⟨I5, t2, rfl⟩ := he
  have gI2 := (I5.pin _ (List.mem_append_right _ (List.mem_cons_self ..))).1
  have gS2 := (I5.pin _ (List.mem_append_right _ (List.mem_cons_of_mem _ (List.mem_cons_self ..)))).1
  have I5' : Inv X ((S, seqObj "list" #[] 0) :: (I, oI') :: pins) σ H s2 := I5.sub fun p hp => by
    rcases List.mem_cons.mp hp with rfl | hp
    · exact List.mem_cons_of_mem _ (List.mem_cons_self ..)
    · rcases List.mem_cons.mp hp with rfl | hp
      · exact List.mem_cons_self ..
      · exact List.mem_cons_of_mem _ (List.mem_cons_of_mem _ hp)
  have s1 := Heap.SameBut.update s2.heap S (Obj.mapSeq fun _ => #[v, .int (kf 0) t2])
  obtain ⟨c2, hc2⟩ : ∃ c2, (s2.heap.update S (Obj.mapSeq fun _ => #[v, .int (kf 0) t2])).get? S = some (seqObj "list" #[v, .int (kf 0) t2] c2) := ⟨_, get?_update_seq gS2 fun _ => #[v, .int (kf 0) t2]⟩
  show wpAny _ X.A.in1 (updateSeq S (fun _ => #[v, .int (kf 0) t2]) >>= _) _ _ _
  refine wpAny_bind ?_
  refine wpAny_updateSeq gS2 rfl ?_
  rw [hname]
  have I6 := I5'.repin (t' := s2.toks) (o' := seqObj "list" #[v, .int (kf 0) t2] c2) (cS.cons (Ne.symm hSI)) (fun b o n e => (s1.2 b n).trans e) hc2 (fun z y => by cases y)
  refine wpAny_pure ⟨plainId_quiet PySem.F.plain_max_loop _, max_loop hc kf hq hlI hSI cI cS turn hQ _ 0 0 _ v x2 t2 c2 oI' rfl hne I6 ⟨oI', (s1.2 I hSI.symm).trans gI2, hoc, hod⟩ hx2 rx2 (Nat.le_refl _) fun j' hj' => ?_⟩
  have e : j' = 0 := by omega
  subst e
  exact ⟨by omega, fun z => absurd z (Nat.lt_irrefl _)⟩
end
theorem Fun.okC {P : Program} {w : World} {K : PySem.W.Frag} {mg : Str → Option Value} {base : Heap} {x qual : Str} {st : Stmt} {f : Addr} {fd : FuncData} {N ps : List Str} {k : Nat} {sp : Sp} (F : Fun K x qual st f fd) (S : FnScope N ps (defScope st)) (len : ∀ vs H Q E, sp vs H Q E → vs.length = ps.length)
    (hbody : ∀ (cdv : Value), fd.code = cdv → ∀ (A : Around) (outer : List Env) (s : Shared) (H : Hp) (vs : List V) (Q : VK) (E : XK), Room k (A.deeper (envOfC qual (defScope st) s.heap.objs.size f cdv)) → sp vs H Q E →
      ∃ t, PSs (cxOf CX0 P w K mg base N qual (defScope st) f cdv A outer s H E).nox (defBody st) t ∧ t { nx := fun _ H' => Q .non H', rt := Q } (start N vs) H) : FnOk P w K mg base CX0 (k + 1) f fd ps sp := by
  obtain ⟨oc, od, kV, doc, pm, an, cdv, ct, osl, rfl, lk, hcd⟩ := F.ex
  refine fn_of lk hcd S len fun A outer s H vs Q E hr hsp => ?_
  obtain ⟨t, h, q⟩ := hbody cdv rfl A outer s H vs Q E hr hsp
  exact ⟨t, h.nox, q⟩
section
variable {M : Model} {A : Around} {E : Value → Shared → Prop} {s : Shared} {env : Env}
theorem with_kwB {pos : Pos} {T : String} {e : Expr} {kws : List Keyword} {Q : Value → Shared → Prop}
    (h : wpAny M A (spliced (backTo pos (starEach [e] env))) (fun vs z => wpAny M A (evalAll ((backToKw pos (keywordEach kws env)).map (·.2))) (fun us y => wpAny M A (call (.builtin T) vs (((backToKw pos (keywordEach kws env)).filterMap (·.1)).zip us)) Q E y) E z) E s)
    (he : backTo pos (starEach [e] env) = (false, eval e env) :: backTo pos (starEach [] env)) (hp : (backTo pos (starEach [e] env)).any (·.1) = false)
    (ha : (backToKw pos (keywordEach kws env)).all (·.1.isSome) = true) (hk : (backToKw pos (keywordEach kws env)).any (·.1.isNone) = false) :
    wpAny M A (callWith pos (.builtin T) [] (backTo pos (starEach [e] env)) (backToKw pos (keywordEach kws env))) Q E s := by
  unfold callWith
  have y : wpAny M A (evalArgs (.builtin T) true (backTo pos (starEach [e] env)) (backToKw pos (keywordEach kws env))) (fun a z => wpAny M A (call (.builtin T) ([] ++ a.pos) a.kw) Q E z) E s := by
    rw [he] at h ⊢
    exact evalArgs_kwB ha h
  refine wpAny_bind (wpAny_holding (wpAny_mono y (fun a z q => wpAny_bind (wpAny_standAt ?_)) fun _ _ x => x))
  simp only [hp, hk, Bool.or_false]
  refine wpAny_bind (wpAny_pure (wpAny_bind ?_))
  exact wpAny_mono q (fun r z hr => wpAny_bind (wpAny_holding (wpAny_point (wpAny_pure hr)))) fun _ _ x => x
end
def tMaxKey (K : PySem.W.Frag) (P : Addr) (lpos : Pos) (q : Str) (tl tb : TE) : TE := fun σ H Q => tl σ H fun x H1 => ∃ (a : Addr) (xs : List V) (kf : Nat → Int), x = .ref a ∧ 0 < xs.length ∧ LamT P lpos q H1 ∧
  ∀ H2, Lam1 P lpos q H2 → SmL P H1 H2 → (Lam1 P lpos q H1 → H1 = H2) → (∀ b, H2 b = none → H1 b = none) →
    SqL K H2 a xs ∧ (∀ i x, xs[i]? = some x → tb (σ ++ [some x]) H2 fun y H3 => y = .int (kf i) ∧ H3 = H2) ∧ ∀ i x, xs[i]? = some x → (∀ j, j < xs.length → kf j ≤ kf i ∧ (j < i → kf j < kf i)) → Q x H2
section
variable {X : Cx} {c P : Addr} {e body : Expr} {tl tb : TE} {sc fsc : Scope} {N Nc : List Str} {x : Str} {params : Arguments} {lpos kp p pos : Pos}
theorem pe_maxkey (hc : X.calm = true) (LB : LamB X.base X.mg c P) (hcode : X.env.code = .ref c) (hr : Room 1 X.A) (hg : Gl X "max") (hm : X.mg "max" = none) (hE : X.env.scope = fsc) (hXN : X.N = N) (cn : CompN N Nc x sc fsc) (hco : sc.isCoroutine = false) (hgen : sc.isGenerator = false) (he : PE X e tl)
    (hb : ∀ cl f c' s H, PE (X.inLam X.A.in1 Nc (X.env.qual ++ "<lambda>") sc cl f c' s H) body tb)
    (hbind : ∀ cl c' pm ctv u, bindArgs (kla_fn "<lambda>" (X.env.qual ++ "<lambda>") params body sc cl pm (.ref c') ctv) ⟨[u], []⟩ = pure [(x, u)] := by intros; rfl) (hdef : defaultsOf params X.env = ([], []) := by rfl)
    (h1 : backTo pos (starEach [e] X.env) = (false, eval e X.env) :: backTo pos (starEach [] X.env) := by rfl) (h2 : (backTo pos (starEach [e] X.env)).any (·.1) = false := by rfl)
    (h3 : (backToKw pos (keywordEach [⟨some "key", .Lambda params body sc lpos, kp⟩] X.env)).all (·.1.isSome) = true := by rfl) (h4 : (backToKw pos (keywordEach [⟨some "key", .Lambda params body sc lpos, kp⟩] X.env)).any (·.1.isNone) = false := by rfl)
    (h5 : (backToKw pos (keywordEach [⟨some "key", .Lambda params body sc lpos, kp⟩] X.env)).filterMap (·.1) = [("key" : Str)] := by rfl) :
    PE X (.Call (.Name "max" p) [e] [⟨some "key", .Lambda params body sc lpos, kp⟩] pos) (tMaxKey X.K P lpos (X.env.qual ++ "<lambda>") tl tb) := by
  intro pins s σ H Q I h
  obtain ⟨cl, hcl, clS, clH⟩ := closure_ok (env := X.env) (sc := sc) (comp_has I.ok.has hE cn)
  refine wpAny_Call_Name_kw (ld_blt I hg hm boot_max ?_ (by decide) (by decide))
  refine with_kwB ?_ h1 h2 h3 h4
  rw [h1]
  refine Calls.spliced_cons (thn (he pins s σ H _ I h) fun u s1 ⟨y, H1, I1, r1, a, xs, kf, hx, hne, lt, q⟩ => ?_)
  subst hx
  cases r1
  refine Calls.spliced_nil ?_
  refine kws_cons (kla_eval hdef (lam_make LB hcode hcl I1 lt fun f c' pm ctv H2 s2 I2 hc2 cf l2 sm l12 fr => kws_nil ?_))
  rw [h5]
  show wpAny (model X.prog X.w) X.A (call (.builtin "max") [.ref a] [(Str.ofString "key", .ref f)]) _ _ s2
  obtain ⟨hq, keys, fin⟩ := q H2 l2 sm l12 fr
  refine max_key hc kf hq hne I2 (fun i z u ps s3 hz rz hps I3 => ?_) fun i z v s3 hz rz best I3 => ?_
  · refine thn (lam_call hE hXN cn hco hgen clS clH (A := X.A.in1) rfl hr.hd (by have := hr.dp; show X.A.depth < _; omega) (fun s H => hb cl f c' s H) (fun pm ctv u => hbind cl c' pm ctv u) I3 (hps _ (List.mem_cons_self ..)) hc2 rz (keys i z hz)) fun v s4 ⟨y, H4, I4, r4, e1, e2⟩ => ?_
    subst e1 e2
    exact ⟨I4, r4⟩
  · exact ⟨z, H2, I3.sub fun p hp => List.mem_cons_of_mem _ hp, rz, fin i z hz best⟩
end
def noTab (K : PySem.W.Frag) : Bool := K.all fun p => match p.2.data with
  | .fields v => !(v.isEmpty && p.2.cls == Value.none)
  | _ => true
theorem mem_look {α : Type} {a : Addr} {v : α} : ∀ {l : List (Addr × α)}, l.lookup a = some v → (a, v) ∈ l
  | (k, u) :: r, h => by
    rw [List.lookup_cons] at h
    cases hx : (a == k) with
    | true =>
      rw [hx] at h
      have e : a = k := by simpa using hx
      cases h
      rw [e]
      exact List.mem_cons_self ..
    | false =>
      rw [hx] at h
      exact List.mem_cons_of_mem _ (mem_look h)
theorem noTab_look {K : PySem.W.Frag} (h : noTab K = true) {P : Addr} : K.lookup P ≠ some (tabObj #[]) := fun e => by
  have := List.all_eq_true.mp h _ (mem_look e)
  exact absurd (show (!((#[] : Array Value).isEmpty && (Value.none == Value.none))) = true from this) (by decide)
theorem law_callT {P : Program} {w : World} {K : PySem.W.Frag} {mg mb : Str → Option Value} {CX : CXT} {k : Nat} {fa a c Pt : Addr} {fd : FuncData} {x : Str} {sp : Sp} {s₁ : Shared} {vs : List Value} {ns : List Int}
    (KX : K.In s₁.heap) (hnt : noTab K = true) (hns : s₁.heap.Ns mainGlobals mg) (hb : s₁.heap.Ns builtinsNs mb) (hbb : ∀ x : Str, x ≠ "__name__" → mb x = bootBuiltins x) (hlim : s₁.heap.NoLimit) (hg : s₁.gens = #[])
    (ha : s₁.heap.get? a = some { cls := .type "list", data := .seq vs.toArray }) (hi : IntsAre vs ns) (hl : ns.length ≤ sizeLine) (hr : Room k callerA)
    (hco : s₁.heap.IsCode c Pt #[]) (hta : s₁.heap.TableAt c Pt #[]) (hbm : ∃ bm ob, mg "__builtins__" = some (.ref bm) ∧ bm ≠ builtinsNs ∧ s₁.heap.get? bm = some ob ∧ ob.cls = .type "module" ∧ ob.dict = some builtinsNs ∧ ob.data = .plain)
    (F : ∀ base : Heap, K.In base → base.Ns mainGlobals mg → LamB base mg c Pt → FnOk P w K mg base CX k fa fd [x] sp) (hbind : ∀ (s : Shared) (u : Value), BindsTo s fd ⟨[u], []⟩ [(x, u)])
    (hsp : ∀ H : Hp, H Pt = some (.tbl #[]) → SqL K H a (ns.map V.int) → sp [.ref a] H (fun v _ => v = .bl true) fun _ _ _ => False)
    (hCX : ∀ H e s', CX [] H s₁ (fun _ _ _ => False) e s' → False) :
    codeAny (model P w) callerA (.call (.ref fa) ⟨[.ref a], []⟩) (fun r s' => r = .ok (.ret (.bool true)) ∧ OldK s₁.heap s'.heap ∧ s'.os = s₁.os ∧ AllBare s'.gens) s₁ := by
  have rv := vals_ints hi
  have lenV := hi.length
  have hPt : s₁.heap.get? Pt = some (tabObj #[]) := hta.2
  have aP : a ≠ Pt := fun z => by rw [z, hPt] at ha; cases ha
  have kP : K.lookup Pt = none := by
    cases e : K.lookup Pt with
    | none => rfl
    | some o =>
      have := KX _ _ e
      rw [hPt] at this
      rw [← Option.some.inj this] at e
      exact absurd e (noTab_look hnt)
  have core : ∀ H : Hp, (∀ b, H b = none ∨ (b = Pt ∧ H b = some (.tbl #[])) ∨ (b = a ∧ ∃ o xs, H b = some (.frz o (.lst xs)))) → H Pt = some (.tbl #[]) → SqL K H a (ns.map V.int) → HOk P w H s₁.heap → (H a ≠ none → K.lookup a = none) →
      codeAny (model P w) callerA (.call (.ref fa) ⟨[.ref a], []⟩) (fun r s' => r = .ok (.ret (.bool true)) ∧ OldK s₁.heap s'.heap ∧ s'.os = s₁.os ∧ AllBare s'.gens) s₁ := by
    intro H hO hP hS hok hK
    have base_of : ∀ {b : Addr} {o : Obj}, s₁.heap.get? b = some o → H b = none → (hidT s₁.heap H).get? b = some o := fun e n => hidT_get e n
    have other : ∀ {b : Addr} {o : Obj}, s₁.heap.get? b = some o → o.cls ≠ .type "list" → (o.cls ≠ .none ∨ ∀ v, o.data ≠ .fields v) → H b = none := fun {b o} e n1 n2 => by
      rcases hO b with z | ⟨z, _⟩ | ⟨z, _⟩
      · exact z
      · subst z
        rw [hPt] at e; cases e
        rcases n2 with n2 | n2
        · exact absurd rfl n2
        · exact absurd rfl (n2 _)
      · subst z
        rw [ha] at e; cases e
        exact absurd rfl n1
    have noA : ∀ {b : Addr} {o : Obj} {es : Array DictEntry} {ep : Nat}, s₁.heap.get? b = some o → o.data = .dict es ep → H b = none := fun {b o es ep} e d => by
      rcases hO b with z | ⟨z, _⟩ | ⟨z, _⟩
      · exact z
      · subst z; rw [hPt] at e; cases e; cases d
      · subst z; rw [ha] at e; cases e; cases d
    have nsK : ∀ {b : Addr} {m : Str → Option Value}, s₁.heap.Ns b m → (hidT s₁.heap H).Ns b m := fun {b m} ⟨o, es, ep, e, d, r⟩ => ⟨o, es, ep, base_of e (noA e d), d, r⟩
    have hKb : K.In (hidT s₁.heap H) := fun b o e => base_of (KX b o e) (by
      rcases hO b with z | ⟨z, _⟩ | ⟨z, y⟩
      · exact z
      · subst z; rw [kP] at e; cases e
      · subst z
        cases q : H b with
        | none => rfl
        | some u => rw [hK (by rw [q]; simp)] at e; cases e)
    have hM : Mod K mg (hidT s₁.heap H) := ⟨hKb, nsK hns, ⟨mb, nsK hb, hbb⟩, let ⟨mc, h1, h2⟩ := hlim; ⟨mc, nsK h1, h2⟩⟩
    have LB : LamB (hidT s₁.heap H) mg c Pt := by
      refine ⟨?_, ?_, ?_⟩
      · obtain ⟨o, vs', file, tf, flags, tg, inF, text, tt, e, ec, r⟩ := CodeHd.of hco hta
        exact ⟨o, vs', file, tf, flags, tg, inF, text, tt, base_of e (other e (by rw [ec]; decide) (.inl (by rw [ec]; decide))), ec, r⟩
      · obtain ⟨bm, ob, b1, b2, b3, b4, r⟩ := hbm
        exact ⟨bm, ob, b1, b2, base_of b3 (other b3 (by rw [b4]; decide) (.inl (by rw [b4]; decide))), b4, r⟩
      · cases e : (hidT s₁.heap H).get? Pt with
        | none => rfl
        | some o => rw [(of_hidT e).2] at hP; cases hP
    have e0 : Env0 P w K mg (hidT s₁.heap H) callerA [] s₁ H := ⟨rfl, hM, fun b o e => of_hidT e, Nat.le_of_eq (hidT_size _ _), trivial, fun b hb => absurd (show b ∈ ([] : List Addr) from hb) (by simp), hok, .of_eq hg⟩
    refine codeAny_mono ((F _ hKb (nsK hns) LB).run callerA [] s₁ H ⟨[.ref a], []⟩ [.ref a] [.ref a] _ _ hr e0 (hbind s₁ (.ref a)) (.cons rfl .nil) (hsp H hP hS)) fun r s' h => ?_
    cases r with
    | error e => exact (hCX H e s' h).elim
    | ok fl =>
      cases fl with
      | next => exact False.elim h
      | brk => exact False.elim h
      | cont => exact False.elim h
      | ret u =>
        obtain ⟨v, H', os, bare, un, hok', r', q⟩ := h
        have q' : v = .bl true := q
        subst q'
        obtain rfl : u = Value.bool true := r'
        refine ⟨rfl, ⟨fun b o e => ?_, fun b o e => un.there b o e (by simp)⟩, os, bare⟩
        rcases hO b with z | ⟨z, y⟩ | ⟨z, ob, xs, y⟩
        · exact .inl (un.keep b o e z (by intro z; exact absurd (show b ∈ ([] : List Addr) from z) (by simp)) (by simp))
        · subst z
          rw [hPt] at e; cases e
          obtain ⟨more, z2⟩ := un.tbls b _ y
          exact .inr (.inl ⟨hta.isCodeTable, rfl, #[], more, rfl, hok' b _ z2⟩)
        · have z2 := un.frzs b ob _ y
          obtain ⟨e1, _⟩ := hok b _ y
          obtain ⟨e2, _⟩ := hok' b _ z2
          rw [e] at e1; cases e1
          exact .inl e2
  cases hk : K.lookup a with
  | some o =>
    have e := KX a o hk
    rw [ha] at e
    cases e
    refine core (fun b => if b = Pt then some (.tbl #[]) else none) (fun b => ?_) (if_pos rfl) (.inr ⟨_, vs.toArray, _, hk, rfl, rfl, rfl, by rw [List.size_toArray, lenV]; exact hl, by simpa using rv⟩) (fun b u z => ?_) fun z => absurd (if_neg aP) z
    · by_cases hb : b = Pt
      · exact .inr (.inl ⟨hb, if_pos hb⟩)
      · exact .inl (if_neg hb)
    · by_cases hb : b = Pt
      · have z' := (if_pos hb).symm.trans z
        cases z'
        subst hb
        exact hPt
      · have z' := (if_neg hb).symm.trans z
        cases z'
  | none =>
    refine core (fun b => if b = Pt then some (.tbl #[]) else if b = a then some (.frz { cls := .type "list", data := .seq vs.toArray } (.lst (ns.map V.int))) else none) (fun b => ?_) (if_pos rfl) (.inl (.inr ⟨{ cls := .type "list", data := .seq vs.toArray }, (if_neg aP).trans (if_pos rfl)⟩)) (fun b u z => ?_) fun _ => hk
    · by_cases hb : b = Pt
      · exact .inr (.inl ⟨hb, if_pos hb⟩)
      · by_cases hb2 : b = a
        · exact .inr (.inr ⟨hb2, _, _, (if_neg hb).trans (if_pos hb2)⟩)
        · exact .inl ((if_neg hb).trans (if_neg hb2))
    · by_cases hb : b = Pt
      · have z' := (if_pos hb).symm.trans z
        cases z'
        subst hb
        exact hPt
      · have z := (if_neg hb).symm.trans z
        by_cases hb2 : b = a
        · have z' := (if_pos hb2).symm.trans z
          cases z'
          subst hb2
          exact ⟨ha, by rw [List.length_map]; exact hl, vs, _, rv, ha⟩
        · have z' := (if_neg hb2).symm.trans z
          cases z'
theorem walk_of1 {l : PySem.W.OpenLaw} {n k : Nat} {q : Program} {loose : List Str} {XP : (Str → Option Value) → Heap → Prop} {YP : World → Heap → Prop} {d dn : DefRec} {K : Params → PySem.W.Frag} {CX : World → CXT} {sp : World → Addr → Sp} {x : Str}
    (hn : l.most = some n) (hn2 : n ≤ sizeLine) (hdf : d.params.defaults = []) (hr : Room k callerA)
    (hY : ∀ (w : World) (h : Heap), YP w h → (K w.params).In h) (hnt : ∀ p, noTab (K p) = true) (hdn : dn ∈ recsOf q)
    (F : ∀ (w : World) (mg : Str → Option Value) (fa f c Pt : Addr) (h : Heap), (K w.params).In h → h.Ns mainGlobals mg → mg d.name = some (.ref fa) → mg dn.name = some (.ref f) → (∃ o fd, h.get? f = some o ∧ o.data = .func fd ∧ fd.code = .ref c) →
      ∃ fd : FuncData, (∀ (s : Shared) (u : Value), BindsTo s fd ⟨[u], []⟩ [(x, u)]) ∧
        ∀ base : Heap, (K w.params).In base → base.Ns mainGlobals mg → LamB base mg c Pt → FnOk l.prog w (K w.params) mg base (CX w) k fa fd [x] (sp w Pt))
    (hsp : ∀ (w : World) (Pt : Addr) (H : Hp) (a : Addr) (ns : List Int), ns.length ≤ n → H Pt = some (.tbl #[]) → SqL (K w.params) H a (ns.map V.int) → sp w Pt [.ref a] H (fun v _ => v = .bl true) fun _ _ _ => False)
    (hCX : ∀ (w : World) (H : Hp) (s : Shared) (e : Value) (s' : Shared), CX w [] H s (fun _ _ _ => False) e s' → False) :
    PySem.W.WalkO q loose XP YP l.row.toRowW d [] (fun f vs => PySem.call f vs) := by
  refine Att.attach_call hn hdf fun w s₀ s₁ mg mb fa o pm cd doc a vs ns G Y ho hd hcd hmg hobj hints hlen hg => ?_
  have KX := hY w _ Y
  obtain ⟨f, o', fd', c, Pt, t1, t2, t3, t4, t5, t6⟩ := G.T.tab dn hdn
  obtain ⟨fd, hb, hF⟩ := F w mg fa f c Pt _ KX G.T.g hmg t1 ⟨o', fd', t2, t3, t4⟩
  exact law_callT KX (hnt _) G.T.g G.T.b G.T.builtins G.T.nolimit hg hobj hints (Nat.le_trans hlen hn2) hr t5 t6 G.T.bmain hF hb (fun H hP hS => hsp w Pt H a ns hlen hP hS) fun H e s' => hCX w H s₁ e s'
end L2
namespace L2
open PySem PySem.W PySem.Spec PyProof.Rows
section
variable {X : Cx}
def rInsert : V → List V → Hp → VK → Prop := fun x vs H Q => ∃ (l : Addr) (xs : List V) (k : Nat) (y : V), x = .ref l ∧ vs = [.int (k : Int), y] ∧ H l = some (.lst xs) ∧ k ≤ xs.length ∧ xs.length < sizeLine ∧ Q .non (upd H l (.lst (xs.take k ++ y :: xs.drop k)))
theorem mt_insert : MtM X "list.insert" rInsert := by
  intro pins s σ H x vs v us Q I rx rv h
  obtain ⟨l, xs, k, y, rfl, rfl, hH, hk, hz1, q⟩ := h
  cases rx
  obtain ⟨u1, u2, rfl, ru1, ru2⟩ : ∃ u1 u2, us = [u1, u2] ∧ RelV (.int (k : Int)) u1 ∧ RelV y u2 := by
    cases rv with
    | cons r1 t => cases t with
      | cons r2 t2 => cases t2; exact ⟨_, _, rfl, r1, r2⟩
  obtain ⟨t, rfl⟩ := ru1
  obtain ⟨z, its, n, r, hl, e⟩ := I.lstM hH
  have hs : sizeLine = 16777216 := sizeLine_eq
  obtain ⟨i, hi⟩ : ∃ i : Int, i = (k : Int) := ⟨_, rfl⟩
  rw [← hi]
  have fi : Builtin.List.listFitsIndex i = true := fitsIndex_both (by omega) (by omega)
  have zi : its.toArray.size ≤ sizeLine := by rw [List.size_toArray]; omega
  refine call_meets PySem.F.slot_list_insert ⟨_, e, rfl⟩ PySem.F.entry_list_insert (PySem.F.args_list_insert_3 _ _ _) (PySem.AutoSeq1.list_insert_list_int_val_1 l its.toArray n i t u2 (by simp [fi]) zi) ⟨e, ?_⟩
  refine ⟨.non, _, I.lset (its' := its.take k ++ u2 :: its.drop k) hH e ?_ ((r.take k).append (.cons ru2 (r.drop k))) ?_, rfl, q⟩
  · have kk : (if i < 0 then (i + (its.toArray.size : Int)).toNat else min i.toNat its.toArray.size) = k := by
      rw [if_neg (by omega), hi, Int.toNat_natCast, List.size_toArray]
      omega
    show (its.toArray.extract 0 (if i < 0 then (i + (its.toArray.size : Int)).toNat else min i.toNat its.toArray.size)).push u2 ++ its.toArray.extract (if i < 0 then (i + (its.toArray.size : Int)).toNat else min i.toNat its.toArray.size) = _
    rw [kk]
    apply Array.ext'
    simp
    exact List.take_of_length_le (by rw [List.length_drop]; exact Nat.le_refl _)
  · rw [List.length_append, List.length_cons, List.length_take, List.length_drop]
    omega
end
section
variable {X : Cx} {e : Expr} {te : TE} {p p2 pos pos2 : Pos}
def tLenSet (K : PySem.W.Frag) (te : TE) : TE := fun σ H Q => te σ H fun x H1 => ∃ (a : Addr) (ns : List Int), x = .ref a ∧ SqL K H1 a (ns.map V.int) ∧ ns.length < 64 ∧
  ∀ ms : List Int, ms.Nodup → (∀ z, z ∈ ms ↔ z ∈ ns) → Q (.int (ms.length : Int)) H1
theorem pe_lenset (hc : X.calm = true) (hg : Gl X "len") (hm : X.mg "len" = none) (hg2 : Gl X "set") (hm2 : X.mg "set" = none) (he : PE X e te)
    (hs : starEach [e] X.env = [(false, eval e X.env)] := by rfl)
    (hs2 : starEach [(.Call (.Name "set" p2) [e] [] pos2 : Expr)] X.env = [(false, eval (.Call (.Name "set" p2) [e] [] pos2) X.env)] := by rfl) :
    PE X (.Call (.Name "len" p) [.Call (.Name "set" p2) [e] [] pos2] [] pos) (tLenSet X.K te) := by
  intro pins s σ H Q I h
  refine wpAny_Call_Name_kw (ld_blt I hg hm boot_len ?_ (by decide) (by decide))
  refine callWith_builtin1 ?_ hs2 rfl
  rw [hs2]
  refine Calls.spliced_cons ?_
  refine wpAny_Call_Name_kw (ld_blt I hg2 hm2 boot_set ?_ (by decide) (by decide))
  refine callWith_type1 ?_ hs rfl
  rw [hs]
  refine Calls.spliced_cons (thn (he pins s σ H _ I h) fun u s1 ⟨x, H1, I1, r1, a, ns, hx, hq, h64, q⟩ => ?_)
  subst hx
  cases r1
  refine Calls.spliced_nil ?_
  obtain ⟨its, rv, pl, hz⟩ := I1.list hq
  have hi := intsAre_of rv
  have hlen : its.length = ns.length := hi.length
  refine set_of_list (items := its.toArray) (ns := ns) (I1.ok.hd hc) pl.isList (by simpa using hi) (by rw [List.size_toArray, hlen]; unfold scanBound; omega) fun h2 tk2 hS k2 => ?_
  refine Calls.spliced_nil ?_
  have ez : its.toArray.size = ns.length := by rw [List.size_toArray]; exact hlen
  rw [ez] at hS
  have l64 : (firstMet (fun i => ns.getD i 0) ns.length).length < 64 := by
    have := firstMet_length_le (fun i => ns.getD i 0) ns.length
    omega
  obtain ⟨o, es, ep, t, ms, ho, hc', hd, _, i1, i2, hsz, hf, _⟩ := hS
  have el : es.size = (firstMet (fun i => ns.getD i 0) ns.length).length := by
    have a1 := i1.length
    rw [List.length_map, Array.length_toList] at a1
    rw [a1, i2.length_eq]
  have kp : ∀ b o, s1.heap.get? b = some o → h2.get? b = some o := fun b o q => k2 b o (Heap.lt_size q) q
  have I2 := I1.kept (t' := tk2) kp
  refine call_len_set (s := { s1 with heap := h2, toks := tk2 }) ho hc' hd hf (by omega) ?_
  refine ⟨.int _, H1, I2.tok _, ⟨_, by rw [el]⟩, q _ (fm_nodup _ _) fun z => fm_mem⟩
end
end L2
set_option maxHeartbeats 4000000
namespace Law
open PySem L2
def spLaw (K : PySem.W.Frag) (P : Addr) : Sp := fun vs H Q _ => ∃ (p : Addr) (ns : List Int), vs = [.ref p] ∧ SqL K H p (ns.map V.int) ∧ ns.length ≤ 63 ∧ H P = some (.tbl #[]) ∧ ∀ H', Q (.bl true) H'
def spWhole : Sp := fun vs H Q _ => ∃ c : Int, vs = [.int c] ∧ Q (.bl true) H
theorem same_new {H : Hp} {p : Addr} (h : H p = none) (o : HO) : Same H (upd H p o) := fun b u q => by rw [upd_ne (ne_of_none q h)]; exact q
theorem fmod_in (x : Int) {y : Int} (h : 0 < y) : 0 ≤ x.fmod y ∧ x.fmod y < y := ⟨Int.fmod_nonneg_of_pos x h, Int.fmod_lt_of_pos x h⟩
theorem sz_fmod (x : Int) {y : Int} {n : Nat} (h : 0 < y) (k : Sz n y) : Sz n (x.fmod y) := by
  have e := fmod_in x h
  unfold Sz at k ⊢
  omega
def lamPos : Pos := ⟨12, 32, 12, 55⟩
def lamQ : Str := ("reached_from" : Str) ++ ".<locals>." ++ "<lambda>"
def bit (m : Int) (i : Nat) : Bool := decide (m / 2 ^ i % 2 = 1)
def msum : Nat → (Nat → Bool) → Int
  | 0, _ => 0
  | n + 1, f => (if f 0 = true then 1 else 0) + 2 * msum n (fun i => f (i + 1))
theorem bit_half (s : Int) (i : Nat) : bit (s / 2) i = bit s (i + 1) := by
  unfold bit
  rw [Int.ediv_ediv_of_nonneg (by decide : (0 : Int) ≤ 2)]
  have e : (2 : Int) * 2 ^ i = 2 ^ (i + 1) := by rw [Int.pow_succ, Int.mul_comm]
  rw [e]
theorem bit_zero (s : Int) : bit s 0 = decide (s % 2 = 1) := by
  unfold bit
  rw [Int.pow_zero, Int.ediv_one]
theorem msum_nonneg : ∀ n f, 0 ≤ msum n f
  | 0, _ => Int.le_refl _
  | n + 1, f => by
    have := msum_nonneg n (fun i => f (i + 1))
    show 0 ≤ (if f 0 = true then (1 : Int) else 0) + 2 * msum n (fun i => f (i + 1))
    split <;> omega
theorem msum_lt : ∀ n f, msum n f < 2 ^ n
  | 0, _ => by show (0 : Int) < 1; decide
  | n + 1, f => by
    have := msum_lt n (fun i => f (i + 1))
    show (if f 0 = true then (1 : Int) else 0) + 2 * msum n (fun i => f (i + 1)) < 2 ^ (n + 1)
    rw [Int.pow_succ]
    split <;> omega
theorem msum_half (n f) : msum (n + 1) f / 2 = msum n (fun i => f (i + 1)) := by
  show ((if f 0 = true then (1 : Int) else 0) + 2 * msum n (fun i => f (i + 1))) / 2 = _
  split <;> omega
theorem msum_odd (n f) : (msum (n + 1) f % 2 = 1) ↔ f 0 = true := by
  show (((if f 0 = true then (1 : Int) else 0) + 2 * msum n (fun i => f (i + 1))) % 2 = 1) ↔ _
  split <;> rename_i h
  · exact ⟨fun _ => h, fun _ => by omega⟩
  · exact ⟨fun e => by omega, fun e => absurd e h⟩
theorem msum_congr : ∀ n {f g : Nat → Bool}, (∀ i, i < n → f i = g i) → msum n f = msum n g
  | 0, _, _, _ => rfl
  | n + 1, f, g, h => by
    show (if f 0 = true then (1 : Int) else 0) + 2 * msum n (fun i => f (i + 1)) = (if g 0 = true then (1 : Int) else 0) + 2 * msum n (fun i => g (i + 1))
    rw [h 0 (by omega), msum_congr n (f := fun i => f (i + 1)) (g := fun i => g (i + 1)) fun i hi => h (i + 1) (by omega)]
theorem msum_succ : ∀ n f, msum (n + 1) f = msum n f + (if f n = true then 2 ^ n else 0)
  | 0, f => by
    show (if f 0 = true then (1 : Int) else 0) + 2 * 0 = 0 + (if f 0 = true then (1 : Int) else 0)
    split <;> decide
  | n + 1, f => by
    show (if f 0 = true then (1 : Int) else 0) + 2 * msum (n + 1) (fun i => f (i + 1)) = (if f 0 = true then (1 : Int) else 0) + 2 * msum n (fun i => f (i + 1)) + (if f (n + 1) = true then 2 ^ (n + 1) else 0)
    rw [msum_succ n (fun i => f (i + 1)), Int.pow_succ]
    split <;> split <;> omega
theorem bit_msum : ∀ n f i, bit (msum n f) i = (decide (i < n) && f i)
  | 0, f, i => by
    unfold bit
    show decide ((0 : Int) / 2 ^ i % 2 = 1) = _
    rw [Int.zero_ediv]
    rfl
  | n + 1, f, 0 => by
    rw [bit_zero]
    by_cases h : f 0 = true
    · rw [decide_eq_true ((msum_odd n f).mpr h), h]; rfl
    · rw [decide_eq_false (fun e => h ((msum_odd n f).mp e)), Bool.eq_false_iff.mpr h]; rfl
  | n + 1, f, i + 1 => by
    rw [← bit_half, msum_half, bit_msum n]
    have : decide (i < n) = decide (i + 1 < n + 1) := by
      by_cases h : i < n
      · rw [decide_eq_true h, decide_eq_true (by omega)]
      · rw [decide_eq_false h, decide_eq_false (by omega)]
    rw [this]
theorem msum_zero {n : Nat} {f : Nat → Bool} (h : ∀ i, i < n → f i = false) : msum n f = 0 := by
  induction n with
  | zero => rfl
  | succ n ih =>
    rw [msum_succ, h n (by omega), ih fun i hi => h i (by omega)]
    rfl
def hands (n : Nat) (f : Nat → Bool) : List Int := ((List.range n).filter f).map fun i : Nat => (i : Int)
theorem hands_succ (n : Nat) (f : Nat → Bool) : hands (n + 1) f = if f n = true then hands n f ++ [(n : Int)] else hands n f := by
  unfold hands
  rw [List.range_succ, List.filter_append, List.map_append]
  by_cases h : f n = true
  · rw [if_pos h]; simp [h]
  · rw [if_neg h]
    have h' : f n = false := by simpa using h
    simp [h']
theorem hands_len (n : Nat) (f : Nat → Bool) : (hands n f).length ≤ n := by
  unfold hands
  rw [List.length_map]
  exact Nat.le_trans (List.length_filter_le _ _) (by simp)
theorem hands_mem {n : Nat} {f : Nat → Bool} {z : Int} : z ∈ hands n f ↔ ∃ i : Nat, i < n ∧ f i = true ∧ z = (i : Int) := by
  unfold hands
  rw [List.mem_map]
  constructor
  · rintro ⟨i, hi, rfl⟩
    obtain ⟨h1, h2⟩ := List.mem_filter.mp hi
    exact ⟨i, List.mem_range.mp h1, h2, rfl⟩
  · rintro ⟨i, h1, h2, rfl⟩
    exact ⟨i, List.mem_filter.mpr ⟨List.mem_range.mpr h1, h2⟩, rfl⟩
def ins (x : Int) : List Int → List Int
  | [] => [x]
  | y :: r => if x < y then x :: y :: r else if x = y then y :: r else y :: ins x r
def sset : List Int → List Int
  | [] => []
  | x :: r => ins x (sset r)
def isR (rs : List Int) (r : Int) (i : Nat) : Bool := decide (rs[i]? = some r)
def tierOf (rs : List Int) (r : Int) : Int := msum rs.length (isR rs r)
def tiersOf (rs : List Int) : List Int := ((sset rs).filter fun r => decide (0 < r)).map (tierOf rs)
def spC40 (K : PySem.W.Frag) : Sp := fun vs H Q _ => ∃ (p : Addr) (ns : List Int) (k : Int), vs = [.ref p, .int k] ∧ SqL K H p (ns.map V.int) ∧ ns.length ≤ 63 ∧ 0 ≤ k ∧ k ≤ 1000 ∧ ∀ z : Int, 0 ≤ z → z < 10 ^ 40 → Q (.int z) H
def spMixed : Sp := fun vs H Q _ => ∃ c b : Int, vs = [.int c, .int b] ∧ Sz 200 c ∧ Sz 64 b ∧ ∀ z : Int, 0 ≤ z → z < 10 ^ 18 → Q (.int z) H
theorem sz40 {c : Int} (h0 : 0 ≤ c) (h : c < 10 ^ 40) : Sz 200 c := sz_of (by omega) (by omega)
theorem sz18 {c : Int} (h0 : 0 ≤ c) (h : c < 10 ^ 18) : Sz 64 c := sz_of (by omega) (by omega)
theorem mix_end (x : Int) : 0 ≤ (x.fmod ((10 : Int) ^ (18 : Int).toNat + 3)).fdiv 7 ∧ (x.fmod ((10 : Int) ^ (18 : Int).toNat + 3)).fdiv 7 < 10 ^ 18 := by
  have h := fmod_in x (show (0 : Int) < (10 : Int) ^ (18 : Int).toNat + 3 by decide)
  generalize x.fmod ((10 : Int) ^ (18 : Int).toNat + 3) = y at h ⊢
  rw [Int.fdiv_eq_ediv_of_nonneg y (by decide)]
  have e : (10 : Int) ^ (18 : Int).toNat = 1000000000000000000 := by decide
  rw [e] at h
  omega
theorem same_upd {H H' : Hp} {l : Addr} {o : HO} (s : Same H H') (n : H l = none) : Same H (upd H' l o) := fun b u e => by
  rw [upd_ne (ne_of_none e n)]
  exact s b u e
theorem ifT {c : Bool} {A B : Prop} (e : c = true) (h : A) : if c = true then A else B := by rw [if_pos e]; exact h
theorem ifF {c : Bool} {A B : Prop} (e : c = false) (h : B) : if c = true then A else B := by rw [if_neg (by rw [e]; decide)]; exact h
theorem ne_t {a b : Int} (h : a ≠ b) : (!decide (V.int a = V.int b)) = true := by rw [decide_eq_false (fun e => h (V.int.inj e))]; rfl
theorem ne_f {a b : Int} (h : a = b) : (!decide (V.int a = V.int b)) = false := by rw [h, decide_eq_true rfl]; rfl
theorem eq_t {a b : Int} (h : a = b) : decide (V.int a = V.int b) = true := by rw [h]; exact decide_eq_true rfl
theorem int_at {ns : List Int} {i : Nat} {x : V} (h : (ns.map V.int)[i]? = some x) : ∃ z, ns[i]? = some z ∧ x = .int z := by
  rw [List.getElem?_map] at h
  cases e : ns[i]? with
  | none => rw [e] at h; cases h
  | some z => rw [e] at h; exact ⟨z, rfl, (Option.some.inj h).symm⟩
theorem atN {ns : List Int} {i : Nat} {z : Int} (h : ns[i]? = some z) : atI (ns.map V.int) (i : Int) = some (.int z) := atI_nat (by rw [List.getElem?_map, h]; rfl)
theorem pow_small {h : Nat} (hh : h < 64) : CPow 1 (h : Int) := ⟨by omega, by omega, by decide⟩
theorem mod_bit (m : Int) (i : Nat) : m / 2 ^ i % 2 = if bit m i = true then 1 else 0 := by
  have e : m / 2 ^ i % 2 = 0 ∨ m / 2 ^ i % 2 = 1 := by omega
  unfold bit
  rcases e with e | e
  · rw [e]; rfl
  · rw [e]; rfl
theorem more_is (m : Int) (h : Nat) : Builtin.bitOr m (1 * 2 ^ h) = m + 2 ^ h * (if (!bit m h) = true then 1 else 0) := by
  rw [Int.one_mul, PyProof.Rows.bitOr_and, PySem.W.kbt_bit, mod_bit]
  cases bit m h <;> simp
def spWith : Sp := fun vs H Q _ => ∃ m h : Int, vs = [.int m, .int h] ∧ 0 ≤ h ∧ h < 12 ∧ Q (.int (Builtin.bitOr m (1 * 2 ^ h.toNat))) H
abbrev Tb := List (Addr × List Int)
def vtb (t : Tb) : List V := t.map fun r => .ref r.1
def GoodT (H : Hp) (t : Tb) (h : Nat) : Prop := t.length = h ∧ ∀ r ∈ t, H r.1 = some (.lst (r.2.map V.int)) ∧ r.2.length = h
theorem GoodT.same {H H' : Hp} {t : Tb} {h : Nat} (s : Same H H') (g : GoodT H t h) : GoodT H' t h := ⟨g.1, fun r m => ⟨s _ _ (g.2 r m).1, (g.2 r m).2⟩⟩
def ups (n : Nat) : List Int := (List.range n).map fun i : Nat => (i : Int)
def cellT (t : Tb) (i j : Nat) : Int := ((t.getD i (0, [])).2).getD j 0
def spHandsOf : Sp := fun vs H Q _ => ∃ (a : Addr) (t : Tb) (h : Nat), vs = [.ref a] ∧ H a = some (.lst (vtb t)) ∧ t.length = h ∧ h ≤ 12 ∧ ∀ (l : Addr) (H' : Hp), H l = none → Same H H' → H' l = some (.lst ((ups h).map V.int)) → Q (.ref l) H'
theorem atG {xs : List Int} {n : Nat} (h : n < xs.length) : atI (xs.map V.int) (n : Int) = some (.int (xs.getD n 0)) := by
  refine atN ?_
  rw [List.getD_eq_getElem?_getD, List.getElem?_eq_getElem h]
  rfl
theorem ups_at {n i : Nat} {z : Int} (h : (ups n)[i]? = some z) : z = (i : Int) ∧ i < n := by
  unfold ups at h
  rw [List.getElem?_map] at h
  obtain ⟨j, hj, rfl⟩ := Option.map_eq_some_iff.mp h
  have hi : i < n := by
    have := (List.getElem?_eq_some_iff.mp hj).1
    rwa [List.length_range] at this
  rw [List.getElem?_range hi] at hj
  exact ⟨by rw [← Option.some.inj hj], hi⟩
theorem ups_len (n : Nat) : (ups n).length = n := by unfold ups; rw [List.length_map, List.length_range]
abbrev Vo := List (Addr × Addr × List Int × Int)
def GoodV (h : Nat) (H : Hp) (vo : Vo) : Prop := ∀ q ∈ vo, H q.1 = some (.tup [.ref q.2.1, .int q.2.2.2]) ∧ H q.2.1 = some (.lst (q.2.2.1.map V.int)) ∧ q.2.2.1.length = h
theorem GoodV.same {h : Nat} {H H' : Hp} {vo : Vo} (s : Same H H') (g : GoodV h H vo) : GoodV h H' vo := fun q m => ⟨s _ _ (g q m).1, s _ _ (g q m).2.1, (g q m).2.2⟩
def spTable51 : Sp := fun vs H Q _ => ∃ (a : Addr) (t : Tb) (h : Nat), vs = [.ref a, .int (h : Int)] ∧ H a = some (.lst (vtb t)) ∧ GoodT H t h ∧ h ≤ 12 ∧ ∀ H' : Hp, Same H H' → Q (.bl true) H'
theorem map_erase {α β : Type} (f : α → β) : ∀ (l : List α) (k : Nat), (l.map f).eraseIdx k = (l.eraseIdx k).map f
  | [], _ => rfl
  | _ :: _, 0 => rfl
  | x :: l, k + 1 => by
    show f x :: (l.map f).eraseIdx k = f x :: (l.eraseIdx k).map f
    rw [map_erase f l k]
theorem out_perm : ∀ {b : List Int} {k : Nat} {y : Int}, b[k]? = some y → (y :: b.eraseIdx k).Perm b
  | x :: b, 0, y, h => by
    have : x = y := Option.some.inj h
    rw [this]
    exact List.Perm.refl _
  | x :: b, k + 1, y, h => by
    show (y :: x :: b.eraseIdx k).Perm (x :: b)
    exact (List.Perm.swap x y _).trans ((out_perm (b := b) (k := k) h).cons x)
theorem none_of {H H' : Hp} {a : Addr} (s : Same H H') (h : H' a = none) : H a = none := by
  cases e : H a with
  | none => rfl
  | some u => rw [s _ _ e] at h; cases h
theorem erase_perm {a b c : List Int} {k : Nat} {y : Int} (h : b[k]? = some y) (p : (a ++ b).Perm c) : (a ++ [y] ++ b.eraseIdx k).Perm c := by
  rw [List.append_assoc]
  exact (List.Perm.append_left a (out_perm h)).trans p
theorem u1 {n : Nat} (h : n + 64 < cLine) : n + 1 < cLine := by omega
abbrev Ls := List (Addr × Addr × List Int × Int)
def First (h : Nat) (ts : List Int) : Prop := ∃ rs : List Int, rs.length = h ∧ (∀ r ∈ rs, 0 ≤ r ∧ r ≤ 12) ∧ ts = tiersOf rs
def GoodL (h : Nat) (H : Hp) (ls : Ls) : Prop := ∀ q ∈ ls, H q.1 = some (.tup [.ref q.2.1, .int q.2.2.2]) ∧ H q.2.1 = some (.tup (q.2.2.1.map V.int)) ∧ First h q.2.2.1
theorem GoodL.same {h : Nat} {H H' : Hp} {ls : Ls} (s : Same H H') (g : GoodL h H ls) : GoodL h H' ls := fun q m => ⟨s _ _ (g q m).1, s _ _ (g q m).2.1, (g q m).2.2⟩
theorem GoodL.sub {h : Nat} {H : Hp} {a b : Ls} (g : GoodL h H a) (k : ∀ q ∈ b, q ∈ a) : GoodL h H b := fun q m => g q (k q m)
def LowK (B : Int) (kvs : List (List Key × V)) : Prop := ∀ q ∈ kvs, ∀ n : Int, q.2 = .int n → 0 ≤ n ∧ n ≤ B
theorem LowK.put {B B' : Int} {kvs : List (List Key × V)} {k : List Key} {n : Int} (g : LowK B kvs) (h : B ≤ B') (n0 : 0 ≤ n) (n1 : n ≤ B') : LowK B' (putK kvs k (.int n)) := by
  intro q m z e
  unfold putK at m
  split at m
  · obtain ⟨p, pm, rfl⟩ := List.mem_map.mp m
    split at e
    · cases e; exact ⟨n0, n1⟩
    · have := g p pm z e
      omega
  · rcases List.mem_append.mp m with m | m
    · have := g q m z e
      omega
    · rw [List.mem_singleton.mp m] at e
      cases e
      exact ⟨n0, n1⟩
theorem LowK.val {B : Int} {kvs : List (List Key × V)} {k : List Key} {n : Int} (g : LowK B kvs) (e : valV kvs k = some (.int n)) : 0 ≤ n ∧ n ≤ B := by
  unfold valV at e
  obtain ⟨q, hq, e⟩ := Option.map_eq_some_iff.mp e
  exact g q (List.mem_of_find?_eq_some hq) n e
def hv : V → Int
  | .int n => n
  | _ => 0
def TabF (H : Hp) (as : List Addr) (h : Nat) (F : Nat → Nat → Int) : Prop := as.length = h ∧ as.Nodup ∧ ∀ x a, as[x]? = some a → H a = some (.lst (((List.range h).map fun y => F x y).map V.int))
def putF (F : Nat → Nat → Int) (x y : Nat) (n : Int) : Nat → Nat → Int := fun x' y' => F x' y' + if x' = x ∧ y' = y then n else 0
theorem TabF.congr {H : Hp} {as : List Addr} {h : Nat} {F G : Nat → Nat → Int} (g : TabF H as h F) (e : ∀ x y, x < h → y < h → F x y = G x y) : TabF H as h G := by
  refine ⟨g.1, g.2.1, fun x a ha => ?_⟩
  have hx : x < h := by have := (List.getElem?_eq_some_iff.mp ha).1; have := g.1; omega
  rw [g.2.2 x a ha, show ((List.range h).map fun y => F x y) = (List.range h).map fun y => G x y from List.map_congr_left fun y m => e x y hx (List.mem_range.mp m)]
theorem TabF.put {H : Hp} {as : List Addr} {h : Nat} {F : Nat → Nat → Int} (g : TabF H as h F) {x y : Nat} {a : Addr} (ha : as[x]? = some a) (n : Int) : TabF (upd H a (.lst ((((List.range h).map fun y => F x y).map V.int).set y (.int (F x y + n))))) as h (putF F x y n) := by
  refine ⟨g.1, g.2.1, fun x' a' ha' => ?_⟩
  by_cases c : x' = x
  · subst c
    rw [ha] at ha'
    cases Option.some.inj ha'
    rw [upd_same]
    refine congrArg (fun z => some (HO.lst z)) (List.ext_getElem? fun k => ?_)
    rw [List.getElem?_set, List.length_map, List.length_map, List.length_range, List.getElem?_map, List.getElem?_map, List.getElem?_map, List.getElem?_map]
    by_cases ck : k < h
    · rw [List.getElem?_range ck]
      by_cases cy : y = k
      · subst cy
        rw [if_pos rfl, if_pos ck]
        show some (V.int (F x' y + n)) = some (V.int (putF F x' y n x' y))
        unfold putF
        rw [if_pos ⟨rfl, rfl⟩]
      · rw [if_neg cy]
        show some (V.int (F x' k)) = some (V.int (putF F x' y n x' k))
        unfold putF
        rw [if_neg (fun z => cy z.2.symm), Int.add_zero]
    · rw [List.getElem?_eq_none (l := List.range h) (by rw [List.length_range]; omega)]
      by_cases cy : y = k
      · subst cy
        rw [if_pos rfl, if_neg ck]; rfl
      · rw [if_neg cy]
        rfl
  · have ne : a' ≠ a := fun z => by
      subst z
      obtain ⟨l1, e1⟩ := List.getElem?_eq_some_iff.mp ha
      obtain ⟨l2, e2⟩ := List.getElem?_eq_some_iff.mp ha'
      exact c ((List.getElem_inj g.2.1).mp (e2.trans e1.symm))
    rw [upd_ne ne, g.2.2 x' a' ha', show ((List.range h).map fun y' => putF F x y n x' y') = (List.range h).map fun y' => F x' y' from List.map_congr_left fun y' _ => by unfold putF; rw [if_neg (fun z => c z.1), Int.add_zero]]
def Keep (as : List Addr) (H H' : Hp) : Prop := ∀ b o, b ∉ as → H b = some o → H' b = some o
theorem Keep.trans {as : List Addr} {H H' H2 : Hp} (a : Keep as H H') (b : Keep as H' H2) : Keep as H H2 := fun c o m e => b c o m (a c o m e)
theorem Keep.of {as : List Addr} {H H' : Hp} (s : Same H H') : Keep as H H' := fun c o _ e => s c o e
theorem Keep.put {as : List Addr} {H H' : Hp} {a : Addr} {o : HO} (k : Keep as H H') (m : a ∈ as) : Keep as H (upd H' a o) := fun c u n e => by
  rw [upd_ne (show c ≠ a from fun z => n (by rw [z]; exact m))]
  exact k c u n e
theorem Keep.same {as : List Addr} {H H1 H' : Hp} (k : Keep as H1 H') (s : Same H H1) (n : ∀ a ∈ as, H a = none) : Same H H' := fun b o e => k b o (fun m => by rw [n b m] at e; cases e) (s b o e)
theorem TabF.same {H H' : Hp} {as : List Addr} {h : Nat} {F : Nat → Nat → Int} (g : TabF H as h F) (s : Same H H') : TabF H' as h F := ⟨g.1, g.2.1, fun x a ha => s _ _ (g.2.2 x a ha)⟩
theorem TabF.row {H : Hp} {as : List Addr} {h : Nat} {F : Nat → Nat → Int} (g : TabF H as h F) {x : Nat} (hx : x < h) : ∃ a, as[x]? = some a ∧ a ∈ as ∧ atI (as.map V.ref) (x : Int) = some (.ref a) ∧ H a = some (.lst (((List.range h).map fun y => F x y).map V.int)) := by
  have hl : x < as.length := by rw [g.1]; exact hx
  refine ⟨as[x], List.getElem?_eq_getElem hl, List.getElem_mem hl, atI_nat (by rw [List.getElem?_map, List.getElem?_eq_getElem hl]; rfl), g.2.2 x _ (List.getElem?_eq_getElem hl)⟩
theorem row_cell {h : Nat} (F : Nat → Int) {y : Nat} (hy : y < h) : atI (((List.range h).map fun y => F y).map V.int) (y : Int) = some (.int (F y)) := atN (by rw [List.getElem?_map, List.getElem?_range hy]; rfl)
theorem ixN_nat {n i : Nat} (h : i < n) : ixN n (i : Int) = some i := by
  unfold ixN
  rw [if_pos (by omega)]
  simp [h]
theorem TabF.not {H : Hp} {as : List Addr} {h : Nat} {F : Nat → Nat → Int} (g : TabF H as h F) {a : Addr} (e : H a = none) : a ∉ as := fun m => by
  obtain ⟨x, hx⟩ := List.getElem?_of_mem m
  rw [g.2.2 x a hx] at e
  cases e
theorem step_at {xs : List Int} (nd : xs.Nodup) {k : Nat} {z : Int} (hz : xs[k]? = some z) : xs.take (k + 1) = xs.take k ++ [z] ∧ z ∉ xs.take k := by
  have e : xs.take (k + 1) = xs.take k ++ [z] := by rw [List.take_add_one, hz]; rfl
  refine ⟨e, fun m => ?_⟩
  have n2 := (List.take_sublist (k + 1) xs).nodup nd
  rw [e, List.nodup_append] at n2
  exact n2.2.2 z m z (List.mem_singleton.mpr rfl) rfl
theorem flat0 : ∀ n : Nat, (List.replicate n [V.int 0]).flatten = ((List.range n).map fun _ => (0 : Int)).map V.int := by
  intro n
  have e : ∀ n : Nat, ((List.range n).map fun _ => (0 : Int)) = List.replicate n 0 := by
    intro n
    rw [List.map_const', List.length_range]
  rw [e]
  induction n with
  | zero => rfl
  | succ n ih => rw [List.replicate_succ, List.flatten_cons, ih, List.replicate_succ, List.map_cons]; rfl
def rD (xs : List Int) : PyData := .list (xs.map .int)
theorem lay_rD : ∀ rss : List (List Int), PyData.canLayAll0 (rss.map rD) = true ∧ PyData.depthAll (rss.map rD) ≤ 1
  | [] => ⟨rfl, Nat.zero_le _⟩
  | q :: r => by
    obtain ⟨h1, h2⟩ := lay_rD r
    obtain ⟨i1, i2⟩ := lay_ints q
    refine ⟨?_, ?_⟩
    · show (PyData.canLayAll0 (q.map .int) && PyData.canLayAll0 (r.map rD)) = true
      rw [h1, i1]; rfl
    · show max (PyData.depthAll (q.map .int) + 1) (PyData.depthAll (r.map rD)) ≤ 1
      omega
theorem shape_rD (rss : List (List Int)) : SeqAt.shaped (.list (rss.map rD)) = true := by
  obtain ⟨h1, h2⟩ := lay_rD rss
  unfold SeqAt.shaped
  rw [Bool.and_eq_true]
  refine ⟨h1, decide_eq_true ?_⟩
  show PyData.depthAll (rss.map rD) + 1 ≤ 64
  omega
theorem eqv_rD : ∀ rss : List (List Int), PyData.eqvAll (rss.map rD) (rss.map rD) = true
  | [] => rfl
  | q :: r => by
    show (PyData.eqvAll (q.map .int) (q.map .int) && PyData.eqvAll (r.map rD) (r.map rD)) = true
    rw [eqv_rD r, eqv_ints, decide_eq_true rfl]
    rfl
def rowsF (h : Nat) (F : Nat → Nat → Int) : List (List Int) := (List.range h).map fun x => (List.range h).map fun y => F x y
theorem reps_rows {K : PySem.W.Frag} {H : Hp} : ∀ {as : List Addr} {rss : List (List Int)}, as.length = rss.length → (∀ (i : Nat) (a : Addr) (r : List Int), as[i]? = some a → rss[i]? = some r → H a = some (.lst (r.map V.int))) → Reps K H (as.map V.ref) (rss.map rD)
  | [], [], _, _ => .nil
  | a :: as, r :: rss, l, e => .cons (.lst (SqL.of (e 0 a r rfl rfl)) (.ints _)) (reps_rows (Nat.succ.inj l) fun i b q h1 h2 => e (i + 1) b q h1 h2)
theorem rows_at {h x : Nat} {F : Nat → Nat → Int} (hx : x < h) : (rowsF h F)[x]? = some ((List.range h).map fun y => F x y) := by
  unfold rowsF
  rw [List.getElem?_map, List.getElem?_range hx]
  rfl
theorem rows_len (h : Nat) (F : Nat → Nat → Int) : (rowsF h F).length = h := by unfold rowsF; rw [List.length_map, List.length_range]
theorem TabF.reps {K : PySem.W.Frag} {H : Hp} {as : List Addr} {h : Nat} {F : Nat → Nat → Int} (g : TabF H as h F) : Reps K H (as.map V.ref) ((rowsF h F).map rD) :=
  reps_rows (by rw [g.1, rows_len]) fun i a r h1 h2 => by
    have hi : i < h := by have := (List.getElem?_eq_some_iff.mp h1).1; have := g.1; omega
    rw [rows_at hi] at h2
    rw [← Option.some.inj h2]
    exact g.2.2 i a h1
def tbOf (as : List Addr) (h : Nat) (F : Nat → Nat → Int) : Tb := as.zip (rowsF h F)
theorem TabF.vtb {H : Hp} {as : List Addr} {h : Nat} {F : Nat → Nat → Int} (g : TabF H as h F) : vtb (tbOf as h F) = as.map V.ref := by
  unfold Law.vtb tbOf
  rw [show (fun r : Addr × List Int => V.ref r.1) = V.ref ∘ Prod.fst from rfl, ← List.map_map, List.map_fst_zip (by rw [g.1, rows_len]; exact Nat.le_refl _)]
theorem TabF.good {H : Hp} {as : List Addr} {h : Nat} {F : Nat → Nat → Int} (g : TabF H as h F) : GoodT H (tbOf as h F) h := by
  refine ⟨by unfold tbOf; rw [List.length_zip, g.1, rows_len, Nat.min_self], fun r m => ?_⟩
  obtain ⟨i, hi⟩ := List.getElem?_of_mem m
  unfold tbOf at hi
  rw [List.getElem?_zip_eq_some] at hi
  have hx : i < h := by have := (List.getElem?_eq_some_iff.mp hi.1).1; have := g.1; omega
  rw [rows_at hx] at hi
  rw [← Option.some.inj hi.2]
  exact ⟨g.2.2 i _ hi.1, by rw [List.length_map, List.length_range]⟩
theorem TabF.cell {H : Hp} {as : List Addr} {h : Nat} {F : Nat → Nat → Int} (g : TabF H as h F) {x y : Nat} (hx : x < h) (hy : y < h) : cellT (tbOf as h F) x y = F x y := by
  unfold cellT tbOf
  have e : (as.zip (rowsF h F))[x]? = some (as[x]'(by rw [g.1]; exact hx), (List.range h).map fun y => F x y) := by
    rw [List.getElem?_zip_eq_some]
    exact ⟨List.getElem?_eq_getElem _, rows_at hx⟩
  rw [List.getD_eq_getElem?_getD (l := as.zip (rowsF h F)), e]
  show ((List.range h).map fun y => F x y).getD y 0 = F x y
  rw [List.getD_eq_getElem?_getD, List.getElem?_map, List.getElem?_range hy]
  rfl
theorem call_list_ofK {X : Cx} (K : PySem.W.Frag) (hK : X.K = K := by rfl) : CallR X (.type "list") (fun xs H Q => ∃ p ys, xs = [.ref p] ∧ (SqL K H p ys ∨ SqT K H p ys) ∧ ∀ l, H l = none → Q (.ref l) (upd H l (.lst ys))) := by
  subst hK
  exact call_list_of
theorem ix0 {n : Nat} (h : 0 < n) : ixN n 0 = some 0 := ixN_nat h
structure Reach (h x : Nat) (L : Nat → Nat → Int) (be bf : List Int) : Prop where
  lenb : be.length = h
  lenf : bf.length = h
  own : be.getD x 0 = L x x
  low : ∀ y, y < h → y ≠ x → L x y ≤ be.getD y 0
  stab : ∀ d y, d < h → y < h → d ≠ x → y ≠ x → d ≠ y → min (be.getD d 0) (L d y) ≤ be.getD y 0
  par : ∃ rk : Nat → Nat, ∀ y, y < h → y ≠ x → ∃ p : Nat, p < h ∧ bf.getD y 0 = (p : Int) ∧ rk p < rk y ∧ (p = x → be.getD y 0 = L x y) ∧ (p ≠ x → be.getD y 0 = min (be.getD p 0) (L p y))
structure Dij (h x : Nat) (L : Nat → Nat → Int) (be bf left : List Int) (rk : Nat → Nat) : Prop where
  lenb : be.length = h
  lenf : bf.length = h
  nd : left.Nodup
  sub : ∀ z ∈ left, ∃ y : Nat, y < h ∧ y ≠ x ∧ z = (y : Int)
  own : be.getD x 0 = L x x
  low : ∀ y, y < h → y ≠ x → L x y ≤ be.getD y 0
  ord : ∀ d y : Nat, d < h → d ≠ x → (d : Int) ∉ left → (y : Int) ∈ left → be.getD y 0 ≤ be.getD d 0
  stab : ∀ d y : Nat, d < h → y < h → d ≠ x → y ≠ x → d ≠ y → (d : Int) ∉ left → min (be.getD d 0) (L d y) ≤ be.getD y 0
  rkc : ∀ d : Nat, d < h → (d : Int) ∉ left → rk d + left.length < h
  par : ∀ y, y < h → y ≠ x → ∃ p : Nat, p < h ∧ bf.getD y 0 = (p : Int) ∧ (p : Int) ∉ left ∧ ((y : Int) ∉ left → rk p < rk y) ∧ (p = x → be.getD y 0 = L x y) ∧ (p ≠ x → be.getD y 0 = min (be.getD p 0) (L p y))
theorem Dij.done {h x : Nat} {L : Nat → Nat → Int} {be bf : List Int} {rk : Nat → Nat} (g : Dij h x L be bf [] rk) : Reach h x L be bf :=
  ⟨g.lenb, g.lenf, g.own, g.low, fun d y h1 h2 h3 h4 h5 => g.stab d y h1 h2 h3 h4 h5 (by simp), rk, fun y h1 h2 => let ⟨p, a, b, _, c, d⟩ := g.par y h1 h2; ⟨p, a, b, c (by simp), d⟩⟩
def butX (h x : Nat) : List Int := ((List.range h).filter fun y => decide (y ≠ x)).map fun y : Nat => (y : Int)
theorem butX_mem {h x : Nat} {z : Int} : z ∈ butX h x ↔ ∃ y : Nat, y < h ∧ y ≠ x ∧ z = (y : Int) := by
  unfold butX
  simp only [List.mem_map, List.mem_filter, List.mem_range, decide_eq_true_eq]
  exact ⟨fun ⟨y, ⟨a, b⟩, e⟩ => ⟨y, a, b, e.symm⟩, fun ⟨y, a, b, e⟩ => ⟨y, ⟨a, b⟩, e.symm⟩⟩
theorem butX_nd (h x : Nat) : (butX h x).Nodup := by
  unfold butX
  exact List.Pairwise.map _ (fun a b (ne : a ≠ b) e => ne (Int.ofNat.inj e)) (List.Pairwise.filter _ List.nodup_range)
theorem nodup_len {xs ys : List Int} (n : xs.Nodup) (s : ∀ z ∈ xs, z ∈ ys) : xs.length ≤ ys.length := by
  induction xs generalizing ys with
  | nil => exact Nat.zero_le _
  | cons a r ih =>
    rw [List.nodup_cons] at n
    have ma := s a (List.mem_cons_self ..)
    have := ih (ys := ys.erase a) n.2 fun z mz => (List.mem_erase_of_ne (fun e => n.1 (by rw [← e]; exact mz))).mpr (s z (List.mem_cons_of_mem _ mz))
    rw [List.length_erase_of_mem ma] at this
    have := List.length_pos_of_mem ma
    rw [List.length_cons]
    omega
theorem butX_len {h x : Nat} (hx : x < h) : (butX h x).length < h := by
  have a := nodup_len (xs := (x : Int) :: butX h x) (ys := (List.range h).map fun y : Nat => (y : Int)) (List.nodup_cons.mpr ⟨fun m => by
    obtain ⟨y, _, n, e⟩ := butX_mem.mp m
    exact n (Int.ofNat.inj e).symm, butX_nd h x⟩) (fun z m => by
    rcases List.mem_cons.mp m with m | m
    · rw [m]; exact List.mem_map.mpr ⟨x, List.mem_range.mpr hx, rfl⟩
    · obtain ⟨y, a, _, e⟩ := butX_mem.mp m
      rw [e]; exact List.mem_map.mpr ⟨y, List.mem_range.mpr a, rfl⟩)
  rw [List.length_cons, List.length_map, List.length_range] at a
  omega
theorem Dij.start {h x : Nat} (hx : x < h) (L : Nat → Nat → Int) : Dij h x L ((List.range h).map fun y => L x y) (List.replicate h (x : Int)) (butX h x) fun _ => 0 := by
  have g : ∀ y, y < h → ((List.range h).map fun y => L x y).getD y 0 = L x y := fun y hy => by
    rw [List.getD_eq_getElem?_getD, List.getElem?_map, List.getElem?_range hy]; rfl
  have inn : ∀ d : Nat, d < h → d ≠ x → (d : Int) ∈ butX h x := fun d a b => butX_mem.mpr ⟨d, a, b, rfl⟩
  refine ⟨by simp, by simp, butX_nd h x, fun z m => butX_mem.mp m, g x hx, fun y hy _ => by rw [g y hy]; exact Int.le_refl _, fun d y a b c => absurd (inn d a b) c, fun d y a _ b _ _ c => absurd (inn d a b) c, fun d a _ => by have := butX_len hx; omega, fun y hy ny => ⟨x, hx, ?_, fun m => ?_, fun c => absurd (inn y hy ny) c, fun _ => g y hy, fun c => absurd rfl c⟩⟩
  · rw [List.getD_eq_getElem?_getD, List.getElem?_replicate, if_pos hy]; rfl
  · obtain ⟨y, _, n, e⟩ := butX_mem.mp m
    exact n (Int.ofNat.inj e).symm
def Upd (h t : Nat) (L : Nat → Nat → Int) (be bf zs be' bf' : List Int) : Prop := be'.length = h ∧ bf'.length = h ∧ ∀ y : Nat, y < h →
  ((y : Int) ∈ zs ∧ be.getD y 0 < min (be.getD t 0) (L t y) → be'.getD y 0 = min (be.getD t 0) (L t y) ∧ bf'.getD y 0 = (t : Int)) ∧
  (¬ ((y : Int) ∈ zs ∧ be.getD y 0 < min (be.getD t 0) (L t y)) → be'.getD y 0 = be.getD y 0 ∧ bf'.getD y 0 = bf.getD y 0)
theorem Dij.step {h x t : Nat} {L : Nat → Nat → Int} {be bf left be' bf' : List Int} {rk : Nat → Nat} (g : Dij h x L be bf left rk) (hx : x < h) (ht : (t : Int) ∈ left) (best : ∀ y : Nat, (y : Int) ∈ left → be.getD y 0 ≤ be.getD t 0)
    (u : Upd h t L be bf (left.erase (t : Int)) be' bf') : Dij h x L be' bf' (left.erase (t : Int)) fun y => if y = t then h - left.length else rk y := by
  obtain ⟨u1, u2, u3⟩ := u
  obtain ⟨t', th, tx, et⟩ := g.sub _ ht
  have ett : t = t' := Int.ofNat.inj et
  subst ett
  have mem : ∀ {z : Int}, z ∈ left.erase (t : Int) ↔ z ≠ (t : Int) ∧ z ∈ left := fun {z} => g.nd.mem_erase_iff
  have ge : ∀ y, y < h → be.getD y 0 ≤ be'.getD y 0 := fun y hy => by
    by_cases c : (y : Int) ∈ left.erase (t : Int) ∧ be.getD y 0 < min (be.getD t 0) (L t y)
    · rw [((u3 y hy).1 c).1]; omega
    · rw [((u3 y hy).2 c).1]; exact Int.le_refl _
  have out : ∀ y : Nat, y < h → (y : Int) ∉ left.erase (t : Int) → be'.getD y 0 = be.getD y 0 ∧ bf'.getD y 0 = bf.getD y 0 := fun y hy n => (u3 y hy).2 fun c => n c.1
  have nx : (x : Int) ∉ left := fun m => by
    obtain ⟨y, _, n, e⟩ := g.sub _ m
    exact n (Int.ofNat.inj e).symm
  have nt : (t : Int) ∉ left.erase (t : Int) := fun m => (mem.mp m).1 rfl
  have cut : ∀ {d : Nat}, (d : Int) ∉ left.erase (t : Int) → d = t ∨ (d : Int) ∉ left := fun {d} n => by
    by_cases c : d = t
    · exact .inl c
    · exact .inr fun m => n (mem.mpr ⟨fun e => c (Int.ofNat.inj e), m⟩)
  have hxlt : ∀ {y : Nat}, (y : Int) ∈ left → y < h ∧ y ≠ x := fun {y} m => by
    obtain ⟨y', a, b, e⟩ := g.sub _ m
    rw [show y = y' from Int.ofNat.inj e]; exact ⟨a, b⟩
  have len : (left.erase (t : Int)).length = left.length - 1 := List.length_erase_of_mem ht
  have pos := List.length_pos_of_mem ht
  refine ⟨u1, u2, g.nd.erase _, fun z m => g.sub z (mem.mp m).2, ?_, fun y hy ny => Int.le_trans (g.low y hy ny) (ge y hy), fun d y hd dx dn ym => ?_, fun d y hd hy dx yx dy dn => ?_, fun d hd dn => ?_, fun y hy yx => ?_⟩
  · rw [(out x hx fun m => nx (mem.mp m).2).1]; exact g.own
  · have ym' := mem.mp ym
    have yh := hxlt ym'.2
    rw [(out d hd dn).1]
    have bd : be.getD t 0 ≤ be.getD d 0 := by
      rcases cut dn with e | n
      · rw [e]; exact Int.le_refl _
      · exact g.ord d t hd dx n ht
    have by' := best y ym'.2
    by_cases c : (y : Int) ∈ left.erase (t : Int) ∧ be.getD y 0 < min (be.getD t 0) (L t y)
    · rw [((u3 y yh.1).1 c).1]; omega
    · rw [((u3 y yh.1).2 c).1]; omega
  · rw [(out d hd dn).1]
    have gy := ge y hy
    rcases cut dn with e | n
    · subst e
      by_cases c : (y : Int) ∈ left.erase (d : Int)
      · by_cases c2 : be.getD y 0 < min (be.getD d 0) (L d y)
        · rw [((u3 y hy).1 ⟨c, c2⟩).1]; exact Int.le_refl _
        · omega
      · rcases cut c with e | n
        · exact absurd e.symm dy
        · have := g.ord y d hy yx n ht
          omega
    · have := g.stab d y hd hy dx yx dy n
      omega
  · rw [len]
    rcases cut dn with e | n
    · show (if d = t then h - left.length else rk d) + _ < h
      rw [if_pos e]
      have := g.rkc x hx nx
      omega
    · show (if d = t then h - left.length else rk d) + _ < h
      rw [if_neg (fun e => n (by rw [e]; exact ht))]
      have := g.rkc d hd n
      omega
  · obtain ⟨p, hp, p1, p2, p3, p4, p5⟩ := g.par y hy yx
    by_cases c : (y : Int) ∈ left.erase (t : Int) ∧ be.getD y 0 < min (be.getD t 0) (L t y)
    · obtain ⟨c1, c2⟩ := (u3 y hy).1 c
      exact ⟨t, th, c2, nt, fun n => absurd c.1 n, fun e => absurd e tx, fun _ => by rw [c1, (out t th nt).1]⟩
    · obtain ⟨c1, c2⟩ := (u3 y hy).2 c
      have pn : (p : Int) ∉ left.erase (t : Int) := fun m => p2 (mem.mp m).2
      have pt : p ≠ t := fun e => p2 (by rw [e]; exact ht)
      refine ⟨p, hp, by rw [c2, p1], pn, fun n => ?_, fun e => by rw [c1]; exact p4 e, fun e => by rw [c1, (out p hp pn).1]; exact p5 e⟩
      show (if p = t then h - left.length else rk p) < if y = t then h - left.length else rk y
      rw [if_neg pt]
      rcases cut n with e | n
      · rw [if_pos e]
        have := g.rkc p hp p2
        omega
      · rw [if_neg (fun e => n (by rw [e]; exact ht))]
        exact p3 n
theorem Reach.le {h x : Nat} {L : Nat → Nat → Int} {be bf be' bf' : List Int} (g : Reach h x L be bf) (g' : Reach h x L be' bf') : ∀ y, y < h → y ≠ x → be.getD y 0 ≤ be'.getD y 0 := by
  obtain ⟨rk, par⟩ := g.par
  have key : ∀ n y, rk y ≤ n → y < h → y ≠ x → be.getD y 0 ≤ be'.getD y 0 := by
    intro n
    induction n with
    | zero =>
      intro y r hy yx
      obtain ⟨p, _, _, p1, _⟩ := par y hy yx
      omega
    | succ n ih =>
      intro y r hy yx
      obtain ⟨p, hp, _, p1, p2, p3⟩ := par y hy yx
      by_cases c : p = x
      · rw [p2 c]; exact g'.low y hy yx
      · rw [p3 c]
        have a := ih p (by omega) hp c
        have b := g'.stab p y hp hy c yx (fun e => by rw [e] at p1; exact Nat.lt_irrefl _ p1)
        omega
  exact fun y => key (rk y) y (Nat.le_refl _)
theorem Reach.uniq {h x : Nat} {L : Nat → Nat → Int} {be bf be' bf' : List Int} (g : Reach h x L be bf) (g' : Reach h x L be' bf') : be = be' := by
  apply List.ext_getElem
  · rw [g.lenb, g'.lenb]
  · intro y h1 h2
    have e1 : be[y] = be.getD y 0 := by rw [List.getD_eq_getElem?_getD, List.getElem?_eq_getElem h1]; rfl
    have e2 : be'[y] = be'.getD y 0 := by rw [List.getD_eq_getElem?_getD, List.getElem?_eq_getElem h2]; rfl
    rw [e1, e2]
    by_cases c : y = x
    · rw [c, g.own, g'.own]
    · have hy : y < h := by rw [← g.lenb]; exact h1
      exact Int.le_antisymm (g.le g' y hy c) (g'.le g y hy c)
theorem Reach.cut {h x : Nat} {L : Nat → Nat → Int} {be bf : List Int} (g : Reach h x L be bf) {y u v : Nat} (hu : u < h) (hv : v < h) (cu : u = x ∨ be.getD y 0 < be.getD u 0) (cv : v ≠ x ∧ be.getD v 0 ≤ be.getD y 0) : L u v ≤ be.getD y 0 := by
  by_cases c : u = x
  · subst c
    have := g.low v hv cv.1
    omega
  · have b : be.getD y 0 < be.getD u 0 := cu.resolve_left c
    have := g.stab u v hu hv c cv.1 (fun e => by rw [e] at b; omega)
    omega
def lk (L : Nat → Nat → Int) (ws : List Nat) : List Int := (List.range (ws.length - 1)).map fun k => L (ws.getD k 0) (ws.getD (k + 1) 0)
theorem lk_cons (L : Nat → Nat → Int) (p w : Nat) (r : List Nat) : lk L (p :: w :: r) = L p w :: lk L (w :: r) := by
  unfold lk
  rw [show (p :: w :: r).length - 1 = ((w :: r).length - 1) + 1 from rfl, List.range_succ_eq_map, List.map_cons, List.map_map]
  rfl
structure Part (h x y : Nat) (L : Nat → Nat → Int) (be : List Int) (rk : Nat → Nat) (w : Nat) (r : List Nat) : Prop where
  all : ∀ z ∈ w :: r, z < h
  rise : (w :: r).Pairwise fun a b => rk a < rk b
  last : (w :: r).getLast? = some y
  above : ∀ l ∈ lk L (w :: r), be.getD y 0 ≤ l
  mid : w ≠ x → be.getD y 0 ≤ be.getD w 0 ∧ (be.getD y 0 = be.getD w 0 ∨ be.getD y 0 ∈ lk L (w :: r))
  fin : w = x → be.getD y 0 ∈ lk L (w :: r) ∧ r ≠ []
theorem Part.start {h x y : Nat} {L : Nat → Nat → Int} {be : List Int} (rk : Nat → Nat) (hy : y < h) (ne : y ≠ x) : Part h x y L be rk y [] :=
  ⟨fun z m => by rw [List.mem_singleton.mp m]; exact hy, List.pairwise_singleton .., rfl, (fun l m => by cases m), fun _ => ⟨Int.le_refl _, .inl rfl⟩, fun e => absurd e ne⟩
theorem Part.step {h x y w p : Nat} {L : Nat → Nat → Int} {be : List Int} {rk : Nat → Nat} {r : List Nat} (g : Part h x y L be rk w r) (wx : w ≠ x) (hp : p < h) (pr : rk p < rk w)
    (p1 : p = x → be.getD w 0 = L x w) (p2 : p ≠ x → be.getD w 0 = min (be.getD p 0) (L p w)) : Part h x y L be rk p (w :: r) := by
  obtain ⟨m1, m2⟩ := g.mid wx
  have key : be.getD y 0 ≤ L p w := by
    by_cases c : p = x
    · have := p1 c; rw [c]; omega
    · have := p2 c; omega
  refine ⟨fun z m => ?_, List.pairwise_cons.mpr ⟨fun z m => ?_, g.rise⟩, ?_, fun l m => ?_, fun c => ?_, fun c => ?_⟩
  · rcases List.mem_cons.mp m with m | m
    · rw [m]; exact hp
    · exact g.all z m
  · rcases List.mem_cons.mp m with m | m
    · rw [m]; exact pr
    · exact Nat.lt_trans pr ((List.pairwise_cons.mp g.rise).1 z m)
  · rw [List.getLast?_cons_cons]; exact g.last
  · rw [lk_cons] at m
    rcases List.mem_cons.mp m with m | m
    · rw [m]; exact key
    · exact g.above l m
  · have := p2 c
    refine ⟨by omega, ?_⟩
    rw [lk_cons]
    rcases m2 with e | e
    · by_cases z : be.getD p 0 ≤ L p w
      · exact .inl (by omega)
      · exact .inr (by rw [show be.getD y 0 = L p w by omega]; exact List.mem_cons_self ..)
    · exact .inr (List.mem_cons_of_mem _ e)
  · rw [lk_cons]
    have := p1 c
    refine ⟨?_, by simp⟩
    rcases m2 with e | e
    · rw [e, this, c]; exact List.mem_cons_self ..
    · exact List.mem_cons_of_mem _ e
structure IsWay (h x y : Nat) (L : Nat → Nat → Int) (v : Int) (ws : List Nat) : Prop where
  all : ∀ z ∈ ws, z < h
  nd : ws.Nodup
  first : ws.head? = some x
  last : ws.getLast? = some y
  two : 2 ≤ ws.length
  least : v ∈ lk L ws ∧ ∀ l ∈ lk L ws, v ≤ l
theorem Part.way {h x y : Nat} {L : Nat → Nat → Int} {be : List Int} {rk : Nat → Nat} {r : List Nat} (g : Part h x y L be rk x r) : IsWay h x y L (be.getD y 0) (x :: r) := by
  obtain ⟨f1, f2⟩ := g.fin rfl
  refine ⟨g.all, g.rise.imp fun z e => by rw [e] at z; exact Nat.lt_irrefl _ z, rfl, g.last, ?_, f1, g.above⟩
  have := List.length_pos_iff.mpr f2
  rw [List.length_cons]
  omega
theorem butX_len' {h x : Nat} (hx : x < h) : (butX h x).length + 1 = h := by
  have a := butX_len hx
  have b := nodup_len (xs := (List.range h).map fun y : Nat => (y : Int)) (ys := (x : Int) :: butX h x) (List.Pairwise.map _ (fun a b (ne : a ≠ b) e => ne (Int.ofNat.inj e)) List.nodup_range) fun z m => by
    obtain ⟨y, hy, e⟩ := List.mem_map.mp m
    by_cases c : y = x
    · rw [← e, c]; exact List.mem_cons_self ..
    · exact List.mem_cons_of_mem _ (butX_mem.mpr ⟨y, List.mem_range.mp hy, c, e.symm⟩)
  rw [List.length_cons, List.length_map, List.length_range] at b
  omega
theorem butX_succ (i x : Nat) : butX (i + 1) x = butX i x ++ if i = x then [] else [(i : Int)] := by
  unfold butX
  rw [List.range_succ, List.filter_append, List.map_append]
  by_cases c : i = x
  · rw [if_pos c]; simp [c]
  · rw [if_neg c]; simp [c]
theorem getD_set {xs : List Int} {z : Nat} (hz : z < xs.length) (v : Int) (y : Nat) : (xs.set z v).getD y 0 = if y = z then v else xs.getD y 0 := by
  rw [List.getD_eq_getElem?_getD, List.getElem?_set, List.getD_eq_getElem?_getD]
  by_cases c : z = y
  · subst c; rw [if_pos rfl, if_pos hz, if_pos rfl]; rfl
  · rw [if_neg c, if_neg (Ne.symm c)]
theorem Upd.nil {h t : Nat} {L : Nat → Nat → Int} {be bf : List Int} (l1 : be.length = h) (l2 : bf.length = h) : Upd h t L be bf [] be bf := ⟨l1, l2, fun y _ => ⟨fun c => (nomatch c.1), fun _ => ⟨rfl, rfl⟩⟩⟩
theorem Upd.put {h t z : Nat} {L : Nat → Nat → Int} {be bf zs be' bf' : List Int} (u : Upd h t L be bf zs be' bf') (hz : z < h) (c : be.getD z 0 < min (be.getD t 0) (L t z)) : Upd h t L be bf (zs ++ [(z : Int)]) (be'.set z (min (be.getD t 0) (L t z))) (bf'.set z (t : Int)) := by
  obtain ⟨u1, u2, u3⟩ := u
  refine ⟨by rw [List.length_set, u1], by rw [List.length_set, u2], fun y hy => ?_⟩
  rw [getD_set (by omega), getD_set (by omega)]
  by_cases e : y = z
  · subst e
    rw [if_pos rfl, if_pos rfl]
    exact ⟨fun _ => ⟨rfl, rfl⟩, fun n => absurd ⟨List.mem_append_right _ (List.mem_singleton.mpr rfl), c⟩ n⟩
  · rw [if_neg e, if_neg e]
    have m : (y : Int) ∈ zs ++ [(z : Int)] ↔ (y : Int) ∈ zs := by
      rw [List.mem_append, List.mem_singleton]
      exact ⟨fun h => h.elim id fun h => absurd (Int.ofNat.inj h) e, .inl⟩
    rw [m]
    exact u3 y hy
theorem Upd.skip {h t z : Nat} {L : Nat → Nat → Int} {be bf zs be' bf' : List Int} (u : Upd h t L be bf zs be' bf') (c : ¬ be.getD z 0 < min (be.getD t 0) (L t z)) : Upd h t L be bf (zs ++ [(z : Int)]) be' bf' := by
  obtain ⟨u1, u2, u3⟩ := u
  refine ⟨u1, u2, fun y hy => ?_⟩
  by_cases e : y = z
  · subst e
    refine ⟨fun k => absurd k.2 c, fun _ => (u3 y hy).2 fun k => c k.2⟩
  · have m : (y : Int) ∈ zs ++ [(z : Int)] ↔ (y : Int) ∈ zs := by
      rw [List.mem_append, List.mem_singleton]
      exact ⟨fun h => h.elim id fun h => absurd (Int.ofNat.inj h) e, .inl⟩
    rw [m]
    exact u3 y hy
theorem Upd.at {h t y : Nat} {L : Nat → Nat → Int} {be bf zs be' bf' : List Int} (u : Upd h t L be bf zs be' bf') (hy : y < h) (n : (y : Int) ∉ zs) : be'.getD y 0 = be.getD y 0 := ((u.2.2 y hy).2 fun c => n c.1).1
theorem erase_idx {a : Int} : ∀ xs : List Int, xs.erase a = xs.eraseIdx (xs.idxOf a)
  | [] => rfl
  | b :: r => by
    rw [List.erase_cons, List.idxOf_cons]
    by_cases c : b = a
    · rw [if_pos (by simp [c])]; simp [c]
    · have n : (b == a) = false := by simp [c]
      rw [if_neg (by rw [n]; decide), n]
      show b :: r.erase a = _
      rw [erase_idx r]
      rfl
def notTbl : HO → Bool
  | .tbl _ => false
  | _ => true
structure Sm (H H' : Hp) : Prop where
  keep : ∀ b u, H b = some u → notTbl u = true → H' b = some u
  gone : ∀ b, H' b = none → H b = none
theorem Sm.of {H H' : Hp} (s : Same H H') : Sm H H' := ⟨fun b u e _ => s b u e, fun b e => none_of s e⟩
theorem Sm.refl (H : Hp) : Sm H H := ⟨fun _ _ e _ => e, fun _ e => e⟩
theorem Sm.trans {H H1 H2 : Hp} (a : Sm H H1) (b : Sm H1 H2) : Sm H H2 := ⟨fun c u e n => b.keep c u (a.keep c u e n) n, fun c e => a.gone c (b.gone c e)⟩
theorem Sm.put {H H' : Hp} {l : Addr} {o : HO} (s : Sm H H') (n : H l = none) : Sm H (upd H' l o) := ⟨fun b u e k => by
  rw [upd_ne (ne_of_none e n)]
  exact s.keep b u e k, fun b e => by
  by_cases c : b = l
  · rw [c]; exact n
  · rw [upd_ne c] at e; exact s.gone b e⟩
theorem Sm.lst {H H' : Hp} (s : Sm H H') {b : Addr} {xs : List V} (e : H b = some (.lst xs)) : H' b = some (.lst xs) := s.keep _ _ e rfl
theorem Sm.tup {H H' : Hp} (s : Sm H H') {b : Addr} {xs : List V} (e : H b = some (.tup xs)) : H' b = some (.tup xs) := s.keep _ _ e rfl
theorem Sm.seq {K : PySem.W.Frag} {H H' : Hp} (s : Sm H H') {b : Addr} {xs : List V} (h : SqL K H b xs) : SqL K H' b xs := by
  rcases h with (h | ⟨o, h⟩) | h
  · exact .inl (.inl (s.lst h))
  · exact .inl (.inr ⟨o, s.keep _ _ h rfl⟩)
  · exact .inr h
theorem TabF.sm {H H' : Hp} {as : List Addr} {h : Nat} {F : Nat → Nat → Int} (g : TabF H as h F) (s : Sm H H') : TabF H' as h F := ⟨g.1, g.2.1, fun x a ha => s.lst (g.2.2 x a ha)⟩
theorem sm_lam {P : Addr} {pos : Pos} {q : Str} {H H' : Hp} (t : LamT P pos q H) (s : SmL P H H') (g : ∀ b, H' b = none → H b = none) : Sm H H' := ⟨fun b u e n => s b u (fun z => by
  rw [z] at e
  rcases t with t | ⟨_, t, _⟩
  · rw [t] at e; rw [← Option.some.inj e] at n; cases n
  · rw [t] at e; rw [← Option.some.inj e] at n; cases n) e, g⟩
abbrev LT (P : Addr) (H : Hp) : Prop := LamT P lamPos lamQ H
abbrev L1 (P : Addr) (H : Hp) : Prop := Lam1 P lamPos lamQ H
def LamQ (P : Addr) (h : Nat) (H : Hp) : Prop := LT P H ∧ (h = 1 ∨ L1 P H)
theorem LamQ.same {P : Addr} {h : Nat} {H H' : Hp} (t : LamQ P h H) (s : Same H H') : LamQ P h H' := ⟨t.1.same s, t.2.imp id fun t => t.same s⟩
def spReached (P : Addr) : Sp := fun vs H Q _ => ∃ (a : Addr) (as : List Addr) (h x : Nat) (L : Nat → Nat → Int), vs = [.ref a, .int (x : Int)] ∧ H a = some (.lst (as.map V.ref)) ∧ TabF H as h L ∧ x < h ∧ h ≤ 12 ∧ LT P H ∧
  ∀ (t b f : Addr) (be bf : List Int) (H' : Hp), Sm H H' → (LamQ P h H → Same H H') → LamQ P h H' → H t = none → H b = none → H f = none → b ≠ f → H' t = some (.tup [.ref b, .ref f]) → H' b = some (.lst (be.map V.int)) → H' f = some (.lst (bf.map V.int)) → Reach h x L be bf → Q (.ref t) H'
theorem min_if (a b : Int) : (if b < a then b else a) = min a b := by split <;> omega
theorem set_map (xs : List Int) (z : Nat) (v : Int) : (xs.map V.int).set z (.int v) = (xs.set z v).map V.int := by rw [List.map_set]
abbrev Us := List (Addr × List Int)
def fU (us : Us) (x y : Nat) : Int := (us.getD x (0, [])).2.getD y 0
theorem fU_row {us : Us} {x h : Nat} {r : Addr × List Int} (e : us[x]? = some r) (l : r.2.length = h) : ((List.range h).map fun y => fU us x y) = r.2 := by
  have e' : us.getD x (0, []) = r := by rw [List.getD_eq_getElem?_getD, e]; rfl
  unfold fU
  rw [e']
  apply List.ext_getElem
  · simp [l]
  · intro i h1 h2
    simp [h2]
def Strong (h : Nat) (L F : Nat → Nat → Int) : Prop := ∀ x, x < h → ∃ bf, Reach h x L ((List.range h).map fun y => F x y) bf
theorem Strong.uniq {h : Nat} {L F F' : Nat → Nat → Int} (g : Strong h L F) (g' : Strong h L F') {x y : Nat} (hx : x < h) (hy : y < h) : F x y = F' x y := by
  obtain ⟨bf, r⟩ := g x hx
  obtain ⟨bf', r'⟩ := g' x hx
  have e := congrArg (fun l : List Int => l.getD y 0) (r.uniq r')
  simpa [List.getD_eq_getElem?_getD, hy] using e
theorem row_get {h y : Nat} (F : Nat → Int) (hy : y < h) : ((List.range h).map fun y => F y).getD y 0 = F y := by rw [List.getD_eq_getElem?_getD, List.getElem?_map, List.getElem?_range hy]; rfl
theorem Strong.own {h x : Nat} {L F : Nat → Nat → Int} (g : Strong h L F) (hx : x < h) : F x x = L x x := by
  obtain ⟨bf, r⟩ := g x hx
  have := r.own
  rwa [row_get (F x) hx] at this
theorem Strong.at {h x y : Nat} {L F : Nat → Nat → Int} {be bf : List Int} (g : Strong h L F) (r : Reach h x L be bf) (hx : x < h) (hy : y < h) : F x y = be.getD y 0 := by
  obtain ⟨bf', r'⟩ := g x hx
  rw [← r'.uniq r, row_get (F x) hy]
def spStrength (P : Addr) : Sp := fun vs H Q _ => ∃ (a : Addr) (as : List Addr) (h : Nat) (L : Nat → Nat → Int), vs = [.ref a] ∧ H a = some (.lst (as.map V.ref)) ∧ TabF H as h L ∧ 1 ≤ h ∧ h ≤ 12 ∧ LT P H ∧
  ∀ (r : Addr) (rs : List Addr) (F : Nat → Nat → Int) (H' : Hp), Sm H H' → (LamQ P h H → Same H H') → LamQ P h H' → H r = none → r ∉ rs → (∀ c ∈ rs, H c = none) → H' r = some (.lst (rs.map V.ref)) → TabF H' rs h F → Strong h L F → Q (.ref r) H'
structure Told (H : Hp) (t : Addr) (h x : Nat) (L : Nat → Nat → Int) (be : List Int) : Prop where
  is : ∃ (b f : Addr) (bf : List Int), H t = some (.tup [.ref b, .ref f]) ∧ H b = some (.lst (be.map V.int)) ∧ H f = some (.lst (bf.map V.int)) ∧ Reach h x L be bf
theorem Told.same {H H' : Hp} {t : Addr} {h x : Nat} {L : Nat → Nat → Int} {be : List Int} (s : Same H H') (g : Told H t h x L be) : Told H' t h x L be := by
  obtain ⟨b, f, bf, h1, h2, h3, h4⟩ := g.is
  exact ⟨b, f, bf, s _ _ h1, s _ _ h2, s _ _ h3, h4⟩
def natz (ws : List Nat) : List Int := ws.map fun w : Nat => (w : Int)
def spWayBy : Sp := fun vs H Q _ => ∃ (t : Addr) (h x y : Nat) (L : Nat → Nat → Int) (be : List Int), vs = [.ref t, .int (x : Int), .int (y : Int)] ∧ Told H t h x L be ∧ y < h ∧ y ≠ x ∧ h ≤ 12 ∧
  ∀ (r : Addr) (ws : List Nat) (H' : Hp), H r = none → Same H H' → H' r = some (.lst ((natz ws).map V.int)) → IsWay h x y L (be.getD y 0) ws → Q (.ref r) H'
def cutF (x y : Nat) (be : List Int) (i : Nat) : Bool := decide (i = x ∨ be.getD y 0 < be.getD i 0)
def spCutBy : Sp := fun vs H Q _ => ∃ (t : Addr) (h x y : Nat) (L : Nat → Nat → Int) (be : List Int), vs = [.ref t, .int (x : Int), .int (y : Int)] ∧ Told H t h x L be ∧ x < h ∧ y < h ∧ h ≤ 12 ∧ ∀ H' : Hp, Same H H' → Q (.int (msum h (cutF x y be))) H'
theorem or_at : ∀ {h k : Nat} (f : Nat → Bool), k < h → Builtin.bitOr (msum h f) (1 * 2 ^ k) = msum h fun i => f i || decide (i = k) := by
  have key : ∀ (h k : Nat) (f : Nat → Bool), k < h → msum h (fun i => f i || decide (i = k)) = msum h f + 2 ^ k * (if (!f k) = true then 1 else 0) := by
    intro h
    induction h with
    | zero => intro k f hk; omega
    | succ h ih =>
      intro k f hk
      rw [msum_succ, msum_succ]
      by_cases c : k = h
      · subst c
        rw [msum_congr k (g := f) (fun i hi => by rw [decide_eq_false (by omega), Bool.or_false])]
        cases f k <;> simp
      · rw [ih k f (by omega), decide_eq_false (show ¬ h = k from fun e => c e.symm), Bool.or_false]
        omega
  intro h k f hk
  rw [more_is, bit_msum, decide_eq_true hk, Bool.true_and, key h k f hk]
def spWayB (P : Addr) : Sp := fun vs H Q _ => ∃ (a : Addr) (as : List Addr) (h x y : Nat) (L : Nat → Nat → Int), vs = [.ref a, .int (x : Int), .int (y : Int)] ∧ H a = some (.lst (as.map V.ref)) ∧ TabF H as h L ∧ x < h ∧ y < h ∧ y ≠ x ∧ h ≤ 12 ∧ LamQ P h H ∧
  ∀ (r : Addr) (ws : List Nat) (be bf : List Int) (H' : Hp), H r = none → Same H H' → H' r = some (.lst ((natz ws).map V.int)) → Reach h x L be bf → IsWay h x y L (be.getD y 0) ws → Q (.ref r) H'
def spCutB (P : Addr) : Sp := fun vs H Q _ => ∃ (a : Addr) (as : List Addr) (h x y : Nat) (L : Nat → Nat → Int), vs = [.ref a, .int (x : Int), .int (y : Int)] ∧ H a = some (.lst (as.map V.ref)) ∧ TabF H as h L ∧ x < h ∧ y < h ∧ h ≤ 12 ∧ LamQ P h H ∧
  ∀ (be bf : List Int) (H' : Hp), Same H H' → Reach h x L be bf → Q (.int (msum h (cutF x y be))) H'
def spLawWay : Sp := fun vs H Q _ => ∃ (a w : Addr) (as : List Addr) (h x y : Nat) (L : Nat → Nat → Int) (v : Int) (ws : List Nat), vs = [.ref a, .ref w, .int (x : Int), .int (y : Int), .int v] ∧ H a = some (.lst (as.map V.ref)) ∧ TabF H as h L ∧ h ≤ 12 ∧ H w = some (.lst ((natz ws).map V.int)) ∧ IsWay h x y L v ws ∧ ∀ H' : Hp, Same H H' → Q (.bl true) H'
def spLawCut : Sp := fun vs H Q _ => ∃ (a : Addr) (as : List Addr) (h x y : Nat) (L : Nat → Nat → Int) (v : Int) (g : Nat → Bool), vs = [.ref a, .int (msum h g), .int (x : Int), .int (y : Int), .int v] ∧ H a = some (.lst (as.map V.ref)) ∧ TabF H as h L ∧ 1 ≤ h ∧ h ≤ 12 ∧ x < h ∧ y < h ∧ g x = true ∧ g y = false ∧ (∀ i j, i < h → j < h → g i = true → g j = false → L i j ≤ v) ∧ ∀ H' : Hp, Same H H' → Q (.bl true) H'
def spLawLeads (K : PySem.W.Frag) : Sp := fun vs H Q _ => ∃ (p : Addr) (ns : List Int) (h : Nat) (wd : Int), vs = [.ref p, .int (h : Int), .int wd] ∧ SqL K H p (ns.map V.int) ∧ ns.length ≤ 63 ∧ 1 ≤ h ∧ h ≤ 12 ∧
  ∀ (a : Addr) (as : List Addr) (L : Nat → Nat → Int) (H' : Hp), H a = none → Same H H' → H' a = some (.lst (as.map V.ref)) → TabF H' as h L → (∀ x, x < h → L x x = 0) → Q (.ref a) H'
abbrev Prs := List (Addr × Nat × Nat)
def vprs (ps : Prs) : List V := ps.map fun q => .ref q.1
def GoodP (h : Nat) (H : Hp) (ps : Prs) : Prop := ∀ q ∈ ps, H q.1 = some (.tup [.int (q.2.1 : Int), .int (q.2.2 : Int)]) ∧ q.2.1 < h ∧ q.2.2 < h
theorem GoodP.same {h : Nat} {H H' : Hp} {ps : Prs} (s : Same H H') (g : GoodP h H ps) : GoodP h H' ps := fun q m => ⟨s _ _ (g q m).1, (g q m).2⟩
def spLawPairs : Sp := fun vs H Q _ => ∃ (h : Nat) (c : Int), vs = [.int (h : Int), .int c] ∧ 1 ≤ h ∧ h ≤ 12 ∧ 0 ≤ c ∧ c < 10 ^ 18 ∧ ∀ (l : Addr) (ps : Prs) (H' : Hp), Same H H' → H' l = some (.lst (vprs ps)) → GoodP h H' ps → (∀ q ∈ ps, q.2.1 ≠ q.2.2) → Q (.ref l) H'
theorem TabF.setv {H : Hp} {as : List Addr} {h : Nat} {F : Nat → Nat → Int} (g : TabF H as h F) {x y : Nat} {a : Addr} (ha : as[x]? = some a) (v : Int) : TabF (upd H a (.lst ((((List.range h).map fun y => F x y).map V.int).set y (.int v)))) as h (putF F x y (v - F x y)) := by
  have := g.put (y := y) ha (v - F x y)
  rwa [show F x y + (v - F x y) = v by omega] at this
theorem in_int {z : Int} {zs : List Int} : inV (V.int z) (zs.map V.int) = decide (z ∈ zs) := by
  unfold inV
  rw [List.any_map]
  by_cases c : z ∈ zs
  · rw [decide_eq_true c]
    exact List.any_eq_true.mpr ⟨z, c, by simp [eqV]⟩
  · rw [decide_eq_false c]
    refine Bool.eq_false_iff.mpr fun e => c ?_
    obtain ⟨y, my, ey⟩ := List.any_eq_true.mp e
    have : y = z := by simpa [eqV] using ey
    rw [← this]; exact my
theorem in_no {z : Int} {zs : List Int} (m : z ∉ zs) : (if false = true then !inV (V.int z) (zs.map V.int) else inV (V.int z) (zs.map V.int)) = false := by rw [if_neg (by decide), in_int, decide_eq_false m]
theorem nin_yes {z : Int} {zs : List Int} (m : z ∉ zs) : (if true = true then !inV (V.int z) (zs.map V.int) else inV (V.int z) (zs.map V.int)) = true := by rw [if_pos rfl, in_int, decide_eq_false m]; rfl
theorem nin_no {z : Int} {zs : List Int} (m : z ∈ zs) : (if true = true then !inV (V.int z) (zs.map V.int) else inV (V.int z) (zs.map V.int)) = false := by rw [if_pos rfl, in_int, decide_eq_true m]; rfl
theorem all_flat (zs : List Int) : (zs.map V.int).all flatV = true := by rw [List.all_map]; exact List.all_eq_true.mpr fun _ _ => rfl
theorem bit_by (m : Int) (i : Nat) : decide (V.int ((m.fdiv (1 * 2 ^ i)).fmod 2) = V.int 1) = bit m i := by
  unfold bit
  rw [Int.one_mul, Int.fdiv_eq_ediv_of_nonneg _ (Int.le_of_lt (Int.pow_pos (by decide))), Int.fmod_eq_emod_of_nonneg _ (by decide)]
  by_cases c : m / 2 ^ i % 2 = 1
  · rw [decide_eq_true c, decide_eq_true (congrArg V.int c)]
  · rw [decide_eq_false c, decide_eq_false fun e => c (V.int.inj e)]
theorem natz_at {ws : List Nat} {k : Nat} (h : k < ws.length) : atI ((natz ws).map V.int) (k : Int) = some (.int ((ws.getD k 0 : Nat) : Int)) := by
  refine atN ?_
  unfold natz
  rw [List.getElem?_map, List.getElem?_eq_getElem h, List.getD_eq_getElem?_getD, List.getElem?_eq_getElem h]
  rfl
theorem natz_len (ws : List Nat) : (natz ws).length = ws.length := by unfold natz; rw [List.length_map]
theorem natz_last {ws : List Nat} {y : Nat} (h : ws.getLast? = some y) : atI ((natz ws).map V.int) (-1) = some (.int (y : Int)) := by
  have hp : 0 < ws.length := by
    cases ws with
    | nil => cases h
    | cons a r => rw [List.length_cons]; omega
  have : atI ((natz ws).map V.int) (-1) = ((natz ws).map V.int)[ws.length - 1]? := by
    unfold atI ixN
    rw [List.length_map, natz_len, if_neg (by decide), if_pos (by omega)]
    show ((natz ws).map V.int)[((-1 : Int) + (ws.length : Int)).toNat]? = _
    congr 1
    omega
  rw [this, List.getElem?_map]
  unfold natz
  rw [List.getElem?_map, ← List.getLast?_eq_getElem?, h]
  rfl
theorem TabF.else {H : Hp} {as : List Addr} {h : Nat} {F : Nat → Nat → Int} {a : Addr} {o : HO} (g : TabF H as h F) (n : a ∉ as) : TabF (upd H a o) as h F := ⟨g.1, g.2.1, fun x b hb => by
  rw [upd_ne (fun z => n (by rw [← z]; exact List.mem_of_getElem? hb))]
  exact g.2.2 x b hb⟩
theorem LamQ.put {P l : Addr} {h : Nat} {H : Hp} {xs : List V} {o : HO} (t : LamQ P h H) (e : H l = some (.lst xs)) : LamQ P h (upd H l o) := ⟨LamT.put t.1 e, t.2.imp id fun z => Lam1.put z e⟩
theorem vprs_get {ps : Prs} {i : Nat} {x : V} (h : (vprs ps)[i]? = some x) : ∃ q, ps[i]? = some q ∧ x = .ref q.1 ∧ q ∈ ps ∧ ps.take (i + 1) = ps.take i ++ [q] := by
  unfold vprs at h
  rw [List.getElem?_map] at h
  obtain ⟨q, hq, rfl⟩ := Option.map_eq_some_iff.mp h
  exact ⟨q, hq, rfl, List.mem_of_getElem? hq, by rw [List.take_add_one, hq]; rfl⟩
theorem vprs_len (ps : Prs) : (vprs ps).length = ps.length := List.length_map ..
theorem nat_of {z : Int} {h : Nat} (z0 : 0 ≤ z) (z1 : z < (h : Int)) : ∃ n : Nat, z = (n : Int) ∧ n < h := ⟨z.toNat, by omega, by omega⟩
theorem quot_in {k h : Int} (k0 : 0 ≤ k) (h1 : 0 < h) (kh : k < h * h) : 0 ≤ k.fdiv h ∧ k.fdiv h < h := by
  rw [Int.fdiv_eq_ediv_of_nonneg _ (by omega)]
  exact ⟨Int.ediv_nonneg k0 (by omega), Int.ediv_lt_of_lt_mul h1 kh⟩
def top (i : Nat) : Stmt := PySem.Challenge.pw_pollproof_k52_ways_and_cuts_show.main.body.getD i (.Pass ⟨0, 0, 0, 0⟩)
abbrev s_with_one : Stmt := top 1
abbrev s_hands_of : Stmt := top 3
abbrev s_way_by : Stmt := top 5
abbrev s_law_whole : Stmt := top 11
abbrev s_law_cell : Stmt := top 12
abbrev s_law_mixed : Stmt := top 13
abbrev s_law_pairs : Stmt := top 18
abbrev s_reached_from : Stmt := top 4
abbrev s_cut_by : Stmt := top 6
abbrev s_law_table : Stmt := top 14
abbrev s_law_way : Stmt := top 15
abbrev s_law_cut : Stmt := top 16
abbrev s_law_leads : Stmt := top 17
abbrev s_strength : Stmt := top 7
abbrev s_way_between : Stmt := top 8
abbrev s_cut_between : Stmt := top 9
abbrev s_law : Stmt := top 19
theorem sc_with_one : FnScope ["mask", "hand"] ["mask", "hand"] (defScope s_with_one) := ⟨rfl, rfl, rfl, by decide +kernel, rfl, by decide +kernel, by decide +kernel⟩
theorem sc_hands_of : FnScope ["leads"] ["leads"] (defScope s_hands_of) := ⟨rfl, rfl, rfl, by decide +kernel, rfl, by decide +kernel, by decide +kernel⟩
theorem sc_way_by : FnScope ["reached", "x", "y", "way"] ["reached", "x", "y"] (defScope s_way_by) := ⟨rfl, rfl, rfl, by decide +kernel, rfl, by decide +kernel, by decide +kernel⟩
theorem sc_law_whole : FnScope ["_law_found"] ["_law_found"] (defScope s_law_whole) := ⟨rfl, rfl, rfl, by decide +kernel, rfl, by decide +kernel, by decide +kernel⟩
theorem sc_law_cell : FnScope ["_law_script", "_law_k"] ["_law_script", "_law_k"] (defScope s_law_cell) := ⟨rfl, rfl, rfl, by decide +kernel, rfl, by decide +kernel, by decide +kernel⟩
theorem sc_law_mixed : FnScope ["_law_cell_here", "_law_by", "_law_number"] ["_law_cell_here", "_law_by"] (defScope s_law_mixed) := ⟨rfl, rfl, rfl, by decide +kernel, rfl, by decide +kernel, by decide +kernel⟩
theorem sc_law_pairs : FnScope ["_law_hands", "_law_cell_here", "_law_some"] ["_law_hands", "_law_cell_here"] (defScope s_law_pairs) := ⟨rfl, rfl, rfl, by decide +kernel, rfl, by decide +kernel, by decide +kernel⟩
theorem sc_reached_from : FnScope ["leads", "x", "best", "before", "left", "through", "hand", "link"] ["leads", "x"] (defScope s_reached_from) := ⟨rfl, rfl, rfl, by decide +kernel, rfl, by decide +kernel, by decide +kernel⟩
theorem sc_cut_by : FnScope ["reached", "x", "y", "cut", "hand", "strong"] ["reached", "x", "y"] (defScope s_cut_by) := ⟨rfl, rfl, rfl, by decide +kernel, rfl, by decide +kernel, by decide +kernel⟩
theorem sc_law_table : FnScope ["_law_found", "_law_hands", "_law_row"] ["_law_found", "_law_hands"] (defScope s_law_table) := ⟨rfl, rfl, rfl, by decide +kernel, rfl, by decide +kernel, by decide +kernel⟩
theorem sc_law_way : FnScope ["_law_leads_here", "_law_some", "_law_x", "_law_y", "_law_worth"] ["_law_leads_here", "_law_some", "_law_x", "_law_y", "_law_worth"] (defScope s_law_way) := ⟨rfl, rfl, rfl, by decide +kernel, rfl, by decide +kernel, by decide +kernel⟩
theorem sc_law_cut : FnScope ["_law_leads_here", "_law_cut_here", "_law_x", "_law_y", "_law_worth", "_law_hands", "_law_inner", "_law_one", "_law_other"] ["_law_leads_here", "_law_cut_here", "_law_x", "_law_y", "_law_worth"] (defScope s_law_cut) := ⟨rfl, rfl, rfl, by decide +kernel, rfl, by decide +kernel, by decide +kernel⟩
theorem sc_law_leads : FnScope ["_law_script", "_law_hands", "_law_wide", "_law_leads_here", "_law_at", "_law_x", "_law_y", "_law_number", "_law_lead"] ["_law_script", "_law_hands", "_law_wide"] (defScope s_law_leads) := ⟨rfl, rfl, rfl, by decide +kernel, rfl, by decide +kernel, by decide +kernel⟩
theorem sc_strength : FnScope ["leads"] ["leads"] (defScope s_strength) := ⟨rfl, rfl, rfl, by decide +kernel, rfl, by decide +kernel, by decide +kernel⟩
theorem sc_way_between : FnScope ["leads", "x", "y"] ["leads", "x", "y"] (defScope s_way_between) := ⟨rfl, rfl, rfl, by decide +kernel, rfl, by decide +kernel, by decide +kernel⟩
theorem sc_cut_between : FnScope ["leads", "x", "y"] ["leads", "x", "y"] (defScope s_cut_between) := ⟨rfl, rfl, rfl, by decide +kernel, rfl, by decide +kernel, by decide +kernel⟩
theorem sc_law : FnScope ["_law_script", "_law_first", "_law_hands", "_law_leads_here", "_law_handed", "_law_found", "_law_held", "_law_x", "_law_y"] ["_law_script"] (defScope s_law) := ⟨rfl, rfl, rfl, by decide +kernel, rfl, by decide +kernel, by decide +kernel⟩
structure Ads where
  f_with_one : Addr
  d_with_one : FuncData
  f_hands_of : Addr
  d_hands_of : FuncData
  f_way_by : Addr
  d_way_by : FuncData
  f_law_whole : Addr
  d_law_whole : FuncData
  f_law_cell : Addr
  d_law_cell : FuncData
  f_law_mixed : Addr
  d_law_mixed : FuncData
  f_law_pairs : Addr
  d_law_pairs : FuncData
  f_reached_from : Addr
  d_reached_from : FuncData
  f_cut_by : Addr
  d_cut_by : FuncData
  f_law_table : Addr
  d_law_table : FuncData
  f_law_way : Addr
  d_law_way : FuncData
  f_law_cut : Addr
  d_law_cut : FuncData
  f_law_leads : Addr
  d_law_leads : FuncData
  f_strength : Addr
  d_strength : FuncData
  f_way_between : Addr
  d_way_between : FuncData
  f_cut_between : Addr
  d_cut_between : FuncData
  f_law : Addr
  d_law : FuncData
  lc : Addr
  lP : Addr
structure Tx (K : PySem.W.Frag) (mg : Str → Option Value) (base : Heap) (a : Ads) : Prop where
  F_with_one : Fun K "with_one" "with_one" s_with_one a.f_with_one a.d_with_one
  b_with_one : Binds K a.d_with_one ["mask", "hand"] []
  m_with_one : mg "with_one" = some (.ref a.f_with_one)
  F_hands_of : Fun K "hands_of" "hands_of" s_hands_of a.f_hands_of a.d_hands_of
  b_hands_of : Binds K a.d_hands_of ["leads"] []
  m_hands_of : mg "hands_of" = some (.ref a.f_hands_of)
  F_way_by : Fun K "way_by" "way_by" s_way_by a.f_way_by a.d_way_by
  b_way_by : Binds K a.d_way_by ["reached", "x", "y"] []
  m_way_by : mg "way_by" = some (.ref a.f_way_by)
  F_law_whole : Fun K "_law_whole" "_law_whole" s_law_whole a.f_law_whole a.d_law_whole
  b_law_whole : Binds K a.d_law_whole ["_law_found"] []
  m_law_whole : mg "_law_whole" = some (.ref a.f_law_whole)
  F_law_cell : Fun K "_law_cell" "_law_cell" s_law_cell a.f_law_cell a.d_law_cell
  b_law_cell : Binds K a.d_law_cell ["_law_script", "_law_k"] []
  m_law_cell : mg "_law_cell" = some (.ref a.f_law_cell)
  F_law_mixed : Fun K "_law_mixed" "_law_mixed" s_law_mixed a.f_law_mixed a.d_law_mixed
  b_law_mixed : Binds K a.d_law_mixed ["_law_cell_here", "_law_by"] []
  m_law_mixed : mg "_law_mixed" = some (.ref a.f_law_mixed)
  F_law_pairs : Fun K "_law_pairs" "_law_pairs" s_law_pairs a.f_law_pairs a.d_law_pairs
  b_law_pairs : Binds K a.d_law_pairs ["_law_hands", "_law_cell_here"] []
  m_law_pairs : mg "_law_pairs" = some (.ref a.f_law_pairs)
  F_reached_from : Fun K "reached_from" "reached_from" s_reached_from a.f_reached_from a.d_reached_from
  b_reached_from : Binds K a.d_reached_from ["leads", "x"] []
  m_reached_from : mg "reached_from" = some (.ref a.f_reached_from)
  F_cut_by : Fun K "cut_by" "cut_by" s_cut_by a.f_cut_by a.d_cut_by
  b_cut_by : Binds K a.d_cut_by ["reached", "x", "y"] []
  m_cut_by : mg "cut_by" = some (.ref a.f_cut_by)
  F_law_table : Fun K "_law_table" "_law_table" s_law_table a.f_law_table a.d_law_table
  b_law_table : Binds K a.d_law_table ["_law_found", "_law_hands"] []
  m_law_table : mg "_law_table" = some (.ref a.f_law_table)
  F_law_way : Fun K "_law_way" "_law_way" s_law_way a.f_law_way a.d_law_way
  b_law_way : Binds K a.d_law_way ["_law_leads_here", "_law_some", "_law_x", "_law_y", "_law_worth"] []
  m_law_way : mg "_law_way" = some (.ref a.f_law_way)
  F_law_cut : Fun K "_law_cut" "_law_cut" s_law_cut a.f_law_cut a.d_law_cut
  b_law_cut : Binds K a.d_law_cut ["_law_leads_here", "_law_cut_here", "_law_x", "_law_y", "_law_worth"] []
  m_law_cut : mg "_law_cut" = some (.ref a.f_law_cut)
  F_law_leads : Fun K "_law_leads" "_law_leads" s_law_leads a.f_law_leads a.d_law_leads
  b_law_leads : Binds K a.d_law_leads ["_law_script", "_law_hands", "_law_wide"] []
  m_law_leads : mg "_law_leads" = some (.ref a.f_law_leads)
  F_strength : Fun K "strength" "strength" s_strength a.f_strength a.d_strength
  b_strength : Binds K a.d_strength ["leads"] []
  m_strength : mg "strength" = some (.ref a.f_strength)
  F_way_between : Fun K "way_between" "way_between" s_way_between a.f_way_between a.d_way_between
  b_way_between : Binds K a.d_way_between ["leads", "x", "y"] []
  m_way_between : mg "way_between" = some (.ref a.f_way_between)
  F_cut_between : Fun K "cut_between" "cut_between" s_cut_between a.f_cut_between a.d_cut_between
  b_cut_between : Binds K a.d_cut_between ["leads", "x", "y"] []
  m_cut_between : mg "cut_between" = some (.ref a.f_cut_between)
  F_law : Fun K "law" "law" s_law a.f_law a.d_law
  b_law : Binds K a.d_law ["_law_script"] []
  m_law : mg "law" = some (.ref a.f_law)
  z_all : mg "all" = none
  z_bool : mg "bool" = none
  z_enumerate : mg "enumerate" = none
  z_int : mg "int" = none
  z_isinstance : mg "isinstance" = none
  z_len : mg "len" = none
  z_list : mg "list" = none
  z_max : mg "max" = none
  z_min : mg "min" = none
  z_range : mg "range" = none
  z_set : mg "set" = none
  lam : LamB base mg a.lc a.lP
  lcode : a.d_reached_from.code = .ref a.lc
local macro_rules | `(tactic| trivial) => `(tactic| refine Sz.neg (by trivial))
local macro_rules | `(tactic| trivial) => `(tactic| refine Sz.fdiv (by trivial))
local macro_rules | `(tactic| trivial) => `(tactic| refine Sz.sub (by trivial) (by trivial))
local macro_rules | `(tactic| trivial) => `(tactic| refine Sz.add (by trivial) (by trivial))
local macro_rules | `(tactic| trivial) => `(tactic| refine Sz.mul (by trivial) (by trivial))
local macro_rules | `(tactic| trivial) => `(tactic| exact sz_fmod _ (by first | decide | decide +kernel) (szd 200))
local macro_rules | `(tactic| trivial) => `(tactic| first | assumption | exact szd 64 | exact szd 200 | exact szd 1000)
local macro_rules | `(tactic| and_intros) => `(tactic| (repeat (first | refine ⟨_, rfl, ?_⟩ | refine ⟨_, _, rfl, rfl, ?_⟩ | refine ⟨rfl, ?_⟩ | refine ⟨(by show (_ : Int) ≠ 0; first | decide | decide +kernel), ?_⟩ | refine ⟨⟨(by show (_ : Int) ≠ 0; decide), szd 9000⟩, ?_⟩ | refine ⟨(by show CPow _ _; exact ⟨by decide, by decide, by decide⟩), ?_⟩ | refine ⟨(by show CMulB _ _; refine ⟨_, _, (by trivial), (by trivial), ?_⟩; decide +kernel), ?_⟩ | refine ⟨_, _, _, _, rfl, rfl, SqL.of (by assumption), (by rfl), ?_⟩ | refine ⟨_, _, _, _, rfl, rfl, SqT.of (by assumption), (by rfl), ?_⟩ | refine ⟨_, _, rfl, .inl (SqL.of (by assumption)), ?_⟩ | refine ⟨_, _, rfl, .inr (SqT.of (by assumption)), ?_⟩)))
section
variable {P : Program} {w : World} {K : PySem.W.Frag} {mg : Str → Option Value} {base : Heap} {ad : Ads}
theorem ok_with_one (T : Tx K mg base ad) : FnOk P w K mg base CX0 1 ad.f_with_one ad.d_with_one ["mask", "hand"] spWith := by
  refine T.F_with_one.ok sc_with_one (fun vs H Q E h => ?_) (fun cdv A outer s H vs Q E hr h => ?_)
  · obtain ⟨m, h, rfl, _⟩ := h
    rfl
  obtain ⟨m, h, rfl, h0, h1, q⟩ := h
  refine ⟨_, (@pss_one _ _ _ (@ps_ret _ _ _ _ (@pe_op _ _ _ _ _ _ _ _ op_or (pv 0) (@pe_op _ _ _ _ _ _ _ _ op_shl pe_int (pv 1))))), ?_⟩
  exact ⟨_, rfl, _, rfl, _, _, rfl, rfl, ⟨h0, by omega, by decide⟩, _, _, rfl, rfl, q⟩
theorem ok_hands_of (T : Tx K mg base ad) : FnOk P w K mg base CX0 1 ad.f_hands_of ad.d_hands_of ["leads"] spHandsOf := by
  refine T.F_hands_of.ok sc_hands_of (fun vs H Q E h => ?_) (fun cdv A outer s H vs Q E hr h => ?_)
  · obtain ⟨a, t, h, rfl, _⟩ := h
    rfl
  obtain ⟨a, t, h, rfl, ha, hl, h12, q⟩ := h
  refine ⟨_, (@pss_one _ _ _ (@ps_ret _ _ _ _ (pe_listrange rfl (by rfl) T.z_list (by rfl) T.z_range (@pe_callB _ _ _ _ _ _ _ _ _ call_len_seq (by rfl) T.z_len PySem.boot_len (@pa_cons _ _ _ _ _ (pv 0) pa_nil (by rfl)) (by decide) (by decide) (by rfl) (by rfl))))), ?_⟩
  and_intros
  have e : (vtb t).length = h := by unfold vtb; rw [List.length_map, hl]
  refine ⟨by omega, fun l hl0 => ?_⟩
  rw [e, show (List.map (fun i : Nat => V.int (i : Int)) (List.range h)) = (ups h).map V.int from (by unfold ups; rw [List.map_map]; rfl)]
  exact q l _ hl0 (same_new hl0 _) upd_same
theorem ok_way_by (T : Tx K mg base ad) : FnOk P w K mg base CX0 1 ad.f_way_by ad.d_way_by ["reached", "x", "y"] spWayBy := by
  refine T.F_way_by.ok sc_way_by (fun vs H Q E h => ?_) (fun cdv A outer s H vs Q E hr h => ?_)
  · obtain ⟨t, h, x, y, L, be, rfl, _⟩ := h
    rfl
  obtain ⟨t, h, x, y, L, be, rfl, td, hy, yx, h12, q⟩ := h
  refine ⟨_, (@pss_cons _ _ _ _ _ (@ps_set _ _ (3) _ _ _ _ sc_way_by.nd rfl (Or.inl rfl) (@pe_lst _ _ _ _ (@pa_cons _ _ _ _ _ (pv 2) pa_nil (by rfl))) (by rfl) (by first | exact .inl rfl | exact .inr rfl | assumption)) (@pss_cons _ _ _ _ _ (ps_while PassesOwn.never (@pt_cmpR _ _ _ _ _ _ _ _ op_ne (@pe_ix _ _ _ _ _ _ _ ix_list (pv 3) pe_int (fun _ _ => rfl)) (pv 1) (nomark _)) (@pss_one _ _ _ (@ps_expr _ _ _ _ (pe_bm PySem.F.plainAttrs_list PySem.F.slot_list_insert PySem.F.type_list_insert mt_insert (pv 3) (@pa_cons _ _ _ _ _ pe_int (@pa_cons _ _ _ _ _ (@pe_ix _ _ _ _ _ _ _ ix_list (@pe_ix _ _ _ _ _ _ _ ix_tup (pv 0) pe_int (fun _ _ => rfl)) (@pe_ix _ _ _ _ _ _ _ ix_list (pv 3) pe_int (fun _ _ => rfl)) (fun _ _ => rfl)) pa_nil (by rfl)) (by rfl))) (by rfl)))) (@pss_one _ _ _ (@ps_ret _ _ _ _ (pv 3))))), ?_⟩
  obtain ⟨b, f, bf, et, eb, ef, re⟩ := td.is
  obtain ⟨rk, par⟩ := re.par
  and_intros
  refine ⟨(by show 1 ≤ sizeLine; decide), fun l hl => ?_⟩
  have s1 := same_new hl (.lst [V.int (y : Int)])
  have e1 : (upd H l (.lst [V.int (y : Int)])) l = some (.lst ((natz (y :: [])).map V.int)) := upd_same
  generalize upd H l (.lst [V.int (y : Int)]) = H1 at s1 e1 ⊢
  refine ⟨fun m σ' H' => ∃ (w : Nat) (r : List Nat), σ' = [some (.ref t), some (.int (x : Int)), some (.int (y : Int)), some (.ref l)] ∧ Same H H' ∧ H' l = some (.lst ((natz (w :: r)).map V.int)) ∧ Part h x y L be rk w r ∧ rk w = m, ⟨_, y, [], rfl, s1, e1, Part.start rk hy yx, rfl⟩, ?_⟩
  rintro m σ' H' ⟨w, r, rfl, s2, e2, pt, rm⟩
  have wh : w < h := pt.all w (List.mem_cons_self ..)
  have at0 : atI ((natz (w :: r)).map V.int) ((0 : Nat) : Int) = some (.int (w : Int)) := atI_nat rfl
  have rl : r.length ≤ 12 := by
    have := nodup_len (xs := natz (w :: r)) (ys := ups h) (List.Pairwise.map _ (fun a b (ne : a ≠ b) e => ne (Int.ofNat.inj e)) (pt.rise.imp fun z e => by rw [e] at z; exact Nat.lt_irrefl _ z)) fun z mz => by
      obtain ⟨v, mv, rfl⟩ := List.mem_map.mp mz
      exact List.mem_map.mpr ⟨v, List.mem_range.mpr (pt.all v mv), rfl⟩
    unfold natz at this
    rw [List.length_map, ups_len, List.length_cons] at this
    omega
  refine ⟨_, rfl, l, _, _, _, rfl, rfl, SqL.of e2, at0, ?_⟩
  and_intros
  by_cases c : w = x
  · refine ifF (ne_f (by rw [c])) ?_
    subst c
    and_intros
    exact q l (w :: r) H' hl s2 e2 pt.way
  · refine ifT (ne_t fun e => c (Int.ofNat.inj e)) ?_
    obtain ⟨p, hp, p1, p2, p3, p4⟩ := par w wh c
    refine ⟨fun σ' H' => ∃ (w' : Nat) (r : List Nat), σ' = [some (.ref t), some (.int (x : Int)), some (.int (y : Int)), some (.ref l)] ∧ Same H H' ∧ H' l = some (.lst ((natz (w' :: r)).map V.int)) ∧ Part h x y L be rk w' r ∧ rk w' < m, fun σ' H' ⟨w', r, a1, a2, a3, a4, a5⟩ => ⟨rk w', a5, w', r, a1, a2, a3, a4, rfl⟩, ?_⟩
    have et2 := s2 _ _ et
    and_intros
    refine ⟨.inl ⟨rfl, _, SqL.of e2⟩, ?_⟩
    and_intros
    refine ⟨l, _, _, _, rfl, rfl, SqL.of e2, at0, ?_⟩
    refine ⟨f, _, _, _, rfl, rfl, SqL.of (s2 _ _ ef), atG (by rw [re.lenf]; exact wh), ?_⟩
    rw [p1]
    refine ⟨l, _, 0, V.int (p : Int), rfl, rfl, e2, Nat.zero_le _, small1000 (by unfold natz; rw [List.length_map, List.length_map, List.length_cons]; omega), ?_⟩
    exact ⟨p, w :: r, rfl, same_upd s2 hl, by rw [upd_same]; rfl, pt.step c hp p2 p3 p4, by omega⟩
theorem ok_law_whole (T : Tx K mg base ad) : FnOk P w K mg base CX0 1 ad.f_law_whole ad.d_law_whole ["_law_found"] spWhole := by
  refine T.F_law_whole.ok sc_law_whole (fun vs H Q E h => ?_) (fun cdv A outer s H vs Q E hr h => ?_)
  · obtain ⟨c, rfl, _⟩ := h
    rfl
  obtain ⟨c, rfl, q⟩ := h
  refine ⟨_, (@pss_one _ _ _ (@ps_ret _ _ _ _ (@pe_and _ _ _ _ _ _ _ (@pe_callB _ _ _ _ _ _ _ _ _ call_isi (by rfl) T.z_isinstance PyProof.Rows.boot_isinstance (@pa_cons _ _ _ _ _ (pv 0) (@pa_cons _ _ _ _ _ (pe_bltn (v := .ty "int") rfl T.z_int PyProof.Rows.boot_int rfl) pa_nil (by rfl)) (by rfl)) (by decide) (by decide) (by rfl) (by rfl)) (@pe_one _ _ _ _ _ (@pe_not _ _ _ _ (@pe_callB _ _ _ _ _ _ _ _ _ call_isi (by rfl) T.z_isinstance PyProof.Rows.boot_isinstance (@pa_cons _ _ _ _ _ (pv 0) (@pa_cons _ _ _ _ _ (pe_bltn (v := .ty "bool") rfl T.z_bool PyProof.Rows.boot_bool rfl) pa_nil (by rfl)) (by rfl)) (by decide) (by decide) (by rfl) (by rfl))))))), ?_⟩
  refine ⟨_, rfl, _, _, _, _, rfl, TyOf.int c, kit_int_int, _, rfl, ?_⟩
  refine iteT ?_
  exact ⟨_, rfl, _, _, _, _, rfl, TyOf.int c, kit_int_bool, _, rfl, q⟩
theorem ok_law_cell (T : Tx K mg base ad) : FnOk P w K mg base CX0 1 ad.f_law_cell ad.d_law_cell ["_law_script", "_law_k"] (spC40 K) := by
  refine T.F_law_cell.ok sc_law_cell (fun vs H Q E h => ?_) (fun cdv A outer s H vs Q E hr h => ?_)
  · obtain ⟨p, ns, k, rfl, _⟩ := h
    rfl
  obtain ⟨p, ns, k, rfl, hS, h63, k0, k1, q⟩ := h
  refine ⟨_, (@pss_cons _ _ _ _ _ (@ps_if _ _ _ _ _ _ _ _ (@pt_cmpR _ _ _ _ _ _ _ _ op_lt (pv 1) (@pe_callB _ _ _ _ _ _ _ _ _ call_len_seq (by rfl) T.z_len PySem.boot_len (@pa_cons _ _ _ _ _ (pv 0) pa_nil (by rfl)) (by decide) (by decide) (by rfl) (by rfl)) (nomark _)) (@pss_one _ _ _ (@ps_ret _ _ _ _ (@pe_op _ _ _ _ _ _ _ _ op_modN (@pe_ix _ _ _ _ _ _ _ ix_list (pv 0) (pv 1) (fun _ _ => rfl)) (@pe_op _ _ _ _ _ _ _ _ op_pow pe_int pe_int)))) pss_nil) (@pss_one _ _ _ (@ps_ret _ _ _ _ (@pe_op _ _ _ _ _ _ _ _ op_modN (@pe_op _ _ _ _ _ _ _ _ op_mulB (@pe_op _ _ _ _ _ _ _ _ op_add (@pe_op _ _ _ _ _ _ _ _ op_mulB (pv 1) (pv 1)) pe_int) pe_int) pe_int)))), ?_⟩
  have hl : (ns.map V.int).length = ns.length := List.length_map _
  have szk : Sz 64 k := sz_of (by omega) (by omega)
  have p40 : (0 : Int) < 10 ^ (40 : Int).toNat := by decide +kernel
  refine ⟨_, rfl, _, rfl, p, _, rfl, .inl hS, _, _, rfl, rfl, _, rfl, ?_⟩
  refine ite2 (fun c => ?_) (fun c => ?_)
  · have c' : k < (((ns.map V.int).length : Nat) : Int) := of_decide_eq_true c
    rw [hl] at c'
    obtain ⟨v, hv⟩ := item_at k0 c'
    refine ⟨_, rfl, _, rfl, p, _, _, _, rfl, rfl, hS, hv, _, _, rfl, rfl, cpow40, _, _, rfl, rfl, (Int.ne_of_gt p40), ?_⟩
    exact q _ (fmod_in v p40).1 (fmod_in v p40).2
  · and_intros
    have m := fmod_in ((k * k + 7) * 48271) (show (0 : Int) < 1009 by decide)
    exact q _ m.1 (Int.lt_trans m.2 (by decide))
theorem ok_law_mixed (T : Tx K mg base ad) : FnOk P w K mg base CX0 1 ad.f_law_mixed ad.d_law_mixed ["_law_cell_here", "_law_by"] spMixed := by
  refine T.F_law_mixed.ok sc_law_mixed (fun vs H Q E h => ?_) (fun cdv A outer s H vs Q E hr h => ?_)
  · obtain ⟨c, b, rfl, _⟩ := h
    rfl
  obtain ⟨c, b, rfl, szc, szb, q⟩ := h
  refine ⟨_, (@pss_cons _ _ _ _ _ (@ps_set _ _ (2) _ _ _ _ sc_law_mixed.nd rfl (Or.inl rfl) (@pe_op _ _ _ _ _ _ _ _ op_add (@pe_op _ _ _ _ _ _ _ _ op_mulB (pv 0) pe_int) (@pe_op _ _ _ _ _ _ _ _ op_mulB (pv 1) pe_int)) (by rfl) (by first | exact .inl rfl | exact .inr rfl | assumption)) (@pss_cons _ _ _ _ _ (@ps_set _ _ (2) _ _ _ _ sc_law_mixed.nd rfl (Or.inl rfl) (@pe_op _ _ _ _ _ _ _ _ op_modN (@pe_op _ _ _ _ _ _ _ _ op_add (pv 2) pe_int) (@pe_op _ _ _ _ _ _ _ _ op_add (@pe_op _ _ _ _ _ _ _ _ op_pow pe_int pe_int) pe_int)) (by rfl) (by first | exact .inl rfl | exact .inr rfl | assumption)) (@pss_one _ _ _ (@ps_ret _ _ _ _ (@pe_op _ _ _ _ _ _ _ _ op_fdivB (@pe_op _ _ _ _ _ _ _ _ op_modN (@pe_op _ _ _ _ _ _ _ _ op_mulB (pv 2) (pv 2)) (@pe_op _ _ _ _ _ _ _ _ op_add (@pe_op _ _ _ _ _ _ _ _ op_pow pe_int pe_int) pe_int)) pe_int))))), ?_⟩
  and_intros
  exact q _ (mix_end _).1 (mix_end _).2
theorem ok_law_pairs (T : Tx K mg base ad) : FnOk P w K mg base CX0 1 ad.f_law_pairs ad.d_law_pairs ["_law_hands", "_law_cell_here"] spLawPairs := by
  refine T.F_law_pairs.ok sc_law_pairs (fun vs H Q E h => ?_) (fun cdv A outer s H vs Q E hr h => ?_)
  · obtain ⟨h, c, rfl, _⟩ := h
    rfl
  obtain ⟨h, c, rfl, h1, h12, c0, c1, q⟩ := h
  refine ⟨_, (@pss_cons _ _ _ _ _ (@ps_ifJ _ _ _ _ _ _ _ _ (@pt_cmpR _ _ _ _ _ _ _ _ op_eq (pv 0) pe_int (nomark _)) (@pss_one _ _ _ (ps_setC (j := 2) (fsc := defScope s_law_pairs) (N := ["_law_hands", "_law_cell_here", "_law_some"]) (Nc := ["_law_hands", "_law_cell_here", "_law_some", "_law_k"]) rfl rfl ⟨rfl, by decide +kernel, by decide +kernel, rfl, by decide +kernel, rfl, by decide +kernel, rfl, by decide +kernel⟩ rfl sc_law_pairs.nd rfl rfl (pi_range1 rfl T.z_range (@pa_cons _ _ _ _ _ pe_int pa_nil (by rfl))) (fun _ _ _ _ => pif_nil) (fun _ _ _ _ => (@pe_tup _ _ _ _ _ (@pa_cons _ _ _ _ _ (@pe_op _ _ _ _ _ _ _ _ op_modN (@pe_op _ _ _ _ _ _ _ _ op_fdivB (pv 1) (@pe_op _ _ _ _ _ _ _ _ op_add (@pe_op _ _ _ _ _ _ _ _ op_mulB pe_int (pv 3)) pe_int)) pe_int) (@pa_cons _ _ _ _ _ (@pe_op _ _ _ _ _ _ _ _ op_modN (@pe_op _ _ _ _ _ _ _ _ op_fdivB (pv 1) (@pe_op _ _ _ _ _ _ _ _ op_add (@pe_op _ _ _ _ _ _ _ _ op_mulB pe_int (pv 3)) pe_int)) pe_int) pa_nil (by rfl)) (by rfl)))) rfl)) (@pss_one _ _ _ (ps_setC (j := 2) (fsc := defScope s_law_pairs) (N := ["_law_hands", "_law_cell_here", "_law_some"]) (Nc := ["_law_hands", "_law_cell_here", "_law_some", "_law_k"]) rfl rfl ⟨rfl, by decide +kernel, by decide +kernel, rfl, by decide +kernel, rfl, by decide +kernel, rfl, by decide +kernel⟩ rfl sc_law_pairs.nd rfl rfl (pi_range1 rfl T.z_range (@pa_cons _ _ _ _ _ (@pe_op _ _ _ _ _ _ _ _ op_mulB (pv 0) (pv 0)) pa_nil (by rfl))) (fun _ _ _ _ => pif_nil) (fun _ _ _ _ => (@pe_tup _ _ _ _ _ (@pa_cons _ _ _ _ _ (@pe_op _ _ _ _ _ _ _ _ op_fdivB (pv 3) (pv 0)) (@pa_cons _ _ _ _ _ (@pe_op _ _ _ _ _ _ _ _ op_modN (pv 3) (pv 0)) pa_nil (by rfl)) (by rfl)))) rfl))) (@pss_one _ _ _ (@ps_ret _ _ _ _ (pe_comp (fsc := defScope s_law_pairs) (N := ["_law_hands", "_law_cell_here", "_law_some"]) (Nc := ["_law_hands", "_law_cell_here", "_law_some", "_law_pair"]) rfl rfl ⟨rfl, by decide +kernel, by decide +kernel, rfl, by decide +kernel, rfl, by decide +kernel, rfl, by decide +kernel⟩ rfl (pi_list (pv 2)) (fun _ _ _ _ => (pif_one (@pt_cmpR _ _ _ _ _ _ _ _ op_ne (@pe_ix _ _ _ _ _ _ _ (ix_tupK K) (pv 3) pe_int (fun _ _ => rfl)) (@pe_ix _ _ _ _ _ _ _ (ix_tupK K) (pv 3) pe_int (fun _ _ => rfl)) (nomark _)))) (fun _ _ _ _ => (pv 3)))))), ?_⟩
  have szc := sz18 c0 c1
  have hh : (h : Int) * (h : Int) ≤ 144 := by
    have := Int.mul_le_mul (show (h : Int) ≤ 12 by omega) (show (h : Int) ≤ 12 by omega) (by omega) (by decide)
    omega
  have hh0 : 0 ≤ (h : Int) * (h : Int) := Int.mul_nonneg (by omega) (by omega)
  have szh : Sz 64 (h : Int) := sz_of (by omega) (by omega)
  refine ⟨fun σ' H' => ∃ (l : Addr) (ps : Prs), σ' = [some (.int (h : Int)), some (.int c), some (.ref l)] ∧ Same H H' ∧ H' l = some (.lst (vprs ps)) ∧ ps.length ≤ 200 ∧ GoodP h H' ps, ?_, ?_⟩
  · and_intros
    refine ite2 (fun ch => ?_) (fun ch => ?_)
    · have eh : (h : Int) = 12 := V.int.inj (of_decide_eq_true ch)
      and_intros
      refine ⟨by decide, by decide, ?_⟩
      refine comp_range (by decide) (fun D i ys J => ∃ ps : Prs, ys = vprs ps ∧ ps.length = i ∧ J D = some (.lst ys) ∧ Same H J ∧ GoodP h J ps ∧ ∀ q ∈ ps, q.1 ≠ D) (fun D hD => ⟨[], rfl, rfl, upd_same, same_new hD _, (fun _ m => nomatch m), (fun _ m => nomatch m)⟩) (fun D i ys J ⟨ps, g1, g2, g3, _⟩ => ⟨g3, by rw [g1, vprs_len, g2]; exact Nat.le_refl _⟩) ?_ ?_
      · rintro D i ys J K1 K2 hD hi ⟨ps, rfl, f2, f3, f4, f5, f6⟩ k1 k2
        have hi3 : (i : Int) < 3 := by have : i < (3 : Int).toNat := hi; omega
        refine yes (ifT rfl ?_)
        have szi : Sz 64 (0 + (i : Int)) := sz_of (by omega) (by omega)
        and_intros
        refine ⟨⟨(by show (_ : Int) ≠ 0; omega), ((szd 64).mul szi |>.add (szd 64)).mono (by decide)⟩, ?_⟩
        and_intros
        refine ⟨⟨(by show (_ : Int) ≠ 0; omega), ((szd 64).mul szi |>.add (szd 64)).mono (by decide)⟩, ?_⟩
        and_intros
        refine ⟨(by show 2 ≤ sizeLine; decide), fun t ht => ?_⟩
        dsimp only at ht ⊢
        have b1 : 0 ≤ (c.fdiv (7 * (0 + (i : Int)) + 1)).fmod 12 ∧ (c.fdiv (7 * (0 + (i : Int)) + 1)).fmod 12 < (h : Int) := by rw [eh]; exact fmod_in _ (by decide)
        have b2 : 0 ≤ (c.fdiv (13 * (0 + (i : Int)) + 12)).fmod 12 ∧ (c.fdiv (13 * (0 + (i : Int)) + 12)).fmod 12 < (h : Int) := by rw [eh]; exact fmod_in _ (by decide)
        have st := same_new ht (.tup [V.int ((c.fdiv (7 * (0 + (i : Int)) + 1)).fmod 12), V.int ((c.fdiv (13 * (0 + (i : Int)) + 12)).fmod 12)])
        have et : (upd J t (.tup [V.int ((c.fdiv (7 * (0 + (i : Int)) + 1)).fmod 12), V.int ((c.fdiv (13 * (0 + (i : Int)) + 12)).fmod 12)])) t = some (.tup [V.int ((c.fdiv (7 * (0 + (i : Int)) + 1)).fmod 12), V.int ((c.fdiv (13 * (0 + (i : Int)) + 12)).fmod 12)]) := upd_same
        obtain ⟨n1, en1, hn1⟩ := nat_of b1.1 b1.2
        obtain ⟨n2, en2, hn2⟩ := nat_of b2.1 b2.2
        generalize upd J t (.tup [V.int ((c.fdiv (7 * (0 + (i : Int)) + 1)).fmod 12), V.int ((c.fdiv (13 * (0 + (i : Int)) + 12)).fmod 12)]) = J1 at st et ⊢
        rw [en1, en2] at et
        have tD : t ≠ D := fun z => by rw [z, f3] at ht; cases ht
        refine k1 _ _ (st _ _ f3) ⟨ps ++ [(t, n1, n2)], by unfold vprs; rw [List.map_append]; rfl, by rw [List.length_append, f2]; rfl, upd_same, same_upd (f4.trans st) hD, fun q m => ?_, fun q m => ?_⟩
        · rcases List.mem_append.mp m with m | m
          · exact ⟨by rw [upd_ne (f6 q m)]; exact st _ _ (f5 q m).1, (f5 q m).2⟩
          · rw [List.mem_singleton.mp m]
            exact ⟨by rw [upd_ne tD]; exact et, hn1, hn2⟩
        · rcases List.mem_append.mp m with m | m
          · exact f6 q m
          · rw [List.mem_singleton.mp m]; exact tD
      rintro D ys J hD ⟨ps, rfl, f2, f3, f4, f5, f6⟩
      exact ⟨D, ps, rfl, f4, f3, by rw [f2]; decide, f5⟩
    · and_intros
      refine ⟨by omega, by omega, ?_⟩
      refine comp_range (small1000 (by omega) |> Nat.le_of_lt) (fun D i ys J => ∃ ps : Prs, ys = vprs ps ∧ ps.length = i ∧ J D = some (.lst ys) ∧ Same H J ∧ GoodP h J ps ∧ ∀ q ∈ ps, q.1 ≠ D) (fun D hD => ⟨[], rfl, rfl, upd_same, same_new hD _, (fun _ m => nomatch m), (fun _ m => nomatch m)⟩) (fun D i ys J ⟨ps, g1, g2, g3, _⟩ => ⟨g3, by rw [g1, vprs_len, g2]; exact Nat.le_refl _⟩) ?_ ?_
      · rintro D i ys J K1 K2 hD hi ⟨ps, rfl, f2, f3, f4, f5, f6⟩ k1 k2
        have hi3 : (i : Int) < (h : Int) * (h : Int) := by omega
        refine yes (ifT rfl ?_)
        and_intros
        refine ⟨⟨(by show (_ : Int) ≠ 0; omega), szh.mono (by decide)⟩, ?_⟩
        and_intros
        refine ⟨(by show (_ : Int) ≠ 0; omega), ?_⟩
        and_intros
        refine ⟨(by show 2 ≤ sizeLine; decide), fun t ht => ?_⟩
        dsimp only at ht ⊢
        have b1 := quot_in (k := 0 + (i : Int)) (h := (h : Int)) (by omega) (by omega) (by omega)
        have b2 := fmod_in (0 + (i : Int)) (show (0 : Int) < (h : Int) by omega)
        have st := same_new ht (.tup [V.int ((0 + (i : Int)).fdiv (h : Int)), V.int ((0 + (i : Int)).fmod (h : Int))])
        have et : (upd J t (.tup [V.int ((0 + (i : Int)).fdiv (h : Int)), V.int ((0 + (i : Int)).fmod (h : Int))])) t = some (.tup [V.int ((0 + (i : Int)).fdiv (h : Int)), V.int ((0 + (i : Int)).fmod (h : Int))]) := upd_same
        obtain ⟨n1, en1, hn1⟩ := nat_of b1.1 b1.2
        obtain ⟨n2, en2, hn2⟩ := nat_of b2.1 b2.2
        generalize upd J t (.tup [V.int ((0 + (i : Int)).fdiv (h : Int)), V.int ((0 + (i : Int)).fmod (h : Int))]) = J1 at st et ⊢
        rw [en1, en2] at et
        have tD : t ≠ D := fun z => by rw [z, f3] at ht; cases ht
        refine k1 _ _ (st _ _ f3) ⟨ps ++ [(t, n1, n2)], by unfold vprs; rw [List.map_append]; rfl, by rw [List.length_append, f2]; rfl, upd_same, same_upd (f4.trans st) hD, fun q m => ?_, fun q m => ?_⟩
        · rcases List.mem_append.mp m with m | m
          · exact ⟨by rw [upd_ne (f6 q m)]; exact st _ _ (f5 q m).1, (f5 q m).2⟩
          · rw [List.mem_singleton.mp m]
            exact ⟨by rw [upd_ne tD]; exact et, hn1, hn2⟩
        · rcases List.mem_append.mp m with m | m
          · exact f6 q m
          · rw [List.mem_singleton.mp m]; exact tD
      rintro D ys J hD ⟨ps, rfl, f2, f3, f4, f5, f6⟩
      exact ⟨D, ps, rfl, f4, f3, by omega, f5⟩
  rintro σ' H1 ⟨l, ps, rfl, s1, e1, pl, gp⟩
  and_intros
  refine ⟨⟨_, SqL.of e1⟩, ?_⟩
  refine comp_list (xs := vprs ps) (by rw [vprs_len]; exact Nat.le_of_lt (small1000 (by omega))) (fun D i ys J => ∃ qs : Prs, ys = vprs qs ∧ qs.length ≤ i ∧ J = upd H1 D (.lst ys) ∧ (∀ q ∈ qs, q ∈ ps ∧ q.2.1 ≠ q.2.2)) (fun D hD => ⟨[], rfl, Nat.le_refl _, rfl, (fun _ m => nomatch m)⟩) (fun D i ys J ⟨qs, g1, g2, g3, _⟩ => ⟨by rw [g3]; exact upd_same, by rw [g1, vprs_len]; exact g2⟩) (fun D i ys J hD ⟨_, _, _, g3, _⟩ => by rw [g3]; exact SqL.of (same_new hD _ _ _ e1)) ?_ ?_
  · rintro D i w ys J K1 K2 hD hw ⟨qs, rfl, g2, rfl, g4⟩ k1 k2
    obtain ⟨f, hf, rfl, fm, et⟩ := vprs_get hw
    have ef := same_new hD (.lst (vprs qs)) _ _ (gp f fm).1
    and_intros
    by_cases cc : f.2.1 = f.2.2
    · refine ifF (ne_f (by rw [cc])) ?_
      exact k2 _ ⟨qs, rfl, by omega, rfl, g4⟩
    · refine ifT (ne_t fun e => cc (Int.ofNat.inj e)) ?_
      refine ⟨_, rfl, ?_⟩
      refine k1 _ _ upd_same ⟨qs ++ [f], by unfold vprs; rw [List.map_append]; rfl, by rw [List.length_append]; show qs.length + 1 ≤ _; omega, by rw [upd_upd], fun q m => ?_⟩
      rcases List.mem_append.mp m with m | m
      · exact g4 q m
      · rw [List.mem_singleton.mp m]; exact ⟨fm, cc⟩
  rintro D ys H2 hD ⟨qs, rfl, g2, rfl, g4⟩
  have s2 := same_new hD (.lst (vprs qs))
  exact q D qs _ (s1.trans s2) upd_same (fun z m => (gp.same s2) z (g4 z m).1) fun z m => (g4 z m).2
theorem ok_reached_from (T : Tx K mg base ad) : FnOk P w K mg base CX0 2 ad.f_reached_from ad.d_reached_from ["leads", "x"] (spReached ad.lP) := by
  refine T.F_reached_from.okC sc_reached_from (fun vs H Q E h => ?_) (fun cdv hcd A outer s H vs Q E hr h => ?_)
  · obtain ⟨a, as, h, x, L, rfl, _⟩ := h
    rfl
  obtain ⟨a, as, h, x, L, rfl, ha, tb, hx, h12, lt, q⟩ := h
  refine ⟨_, (@pss_cons _ _ _ _ _ (@ps_set _ _ (2) _ _ _ _ sc_reached_from.nd rfl (Or.inr rfl) (@pe_callTy _ _ _ _ _ _ _ _ _ call_list_of (by rfl) T.z_list PyProof.Rows.boot_list (@pa_cons _ _ _ _ _ (@pe_ix _ _ _ _ _ _ _ ix_list (pv 0) (pv 1) (fun _ _ => rfl)) pa_nil (by rfl)) (by decide) (by decide) (by rfl) (by rfl)) (by rfl) (by first | exact .inl rfl | exact .inr rfl | assumption)) (@pss_cons _ _ _ _ _ (ps_setC (j := 3) (fsc := defScope s_reached_from) (N := ["leads", "x", "best", "before", "left", "through", "hand", "link"]) (Nc := ["leads", "x", "best", "before", "left", "through", ".s6", "link", "hand"]) rfl rfl ⟨rfl, by decide +kernel, by decide +kernel, rfl, by decide +kernel, rfl, by decide +kernel, rfl, by decide +kernel⟩ rfl sc_reached_from.nd rfl rfl (pi_list (pv 0)) (fun _ _ _ _ => pif_nil) (fun _ _ _ _ => (pv 1)) rfl) (@pss_cons _ _ _ _ _ (ps_setC (j := 4) (fsc := defScope s_reached_from) (N := ["leads", "x", "best", "before", "left", "through", "hand", "link"]) (Nc := ["leads", "x", "best", "before", "left", "through", ".s6", "link", "hand"]) rfl rfl ⟨rfl, by decide +kernel, by decide +kernel, rfl, by decide +kernel, rfl, by decide +kernel, rfl, by decide +kernel⟩ rfl sc_reached_from.nd rfl rfl (pi_list (@pe_call _ _ _ _ _ _ _ _ _ _ _ _ _ _ _ _ (ok_hands_of T) (hr.mono (by decide)) rfl T.m_hands_of T.F_hands_of.kp T.b_hands_of .nil pass0 (@pa_cons _ _ _ _ _ (pv 0) pa_nil (by rfl)) (by decide) (by rfl) (by rfl))) (fun _ _ _ _ => (pif_one (@pt_cmpR _ _ _ _ _ _ _ _ op_ne (pv 8) (pv 1) (nomark _)))) (fun _ _ _ _ => (pv 8)) rfl) (@pss_cons _ _ _ _ _ (ps_while PassesOwn.never (@pt_cmpR _ _ _ _ _ _ _ _ (op_neD (K := K) hr.units) (pv 4) (@pe_lst _ _ _ _ pa_nil) (nomark _)) (@pss_cons _ _ _ _ _ (@ps_set _ _ (5) _ _ _ _ sc_reached_from.nd rfl (Or.inl rfl) (pe_maxkey (fsc := defScope s_reached_from) (N := ["leads", "x", "best", "before", "left", "through", "hand", "link"]) (Nc := ["leads", "x", "best", "before", "left", "through", ".s6", "link", "hand"]) (x := "hand") rfl T.lam (hcd.symm.trans T.lcode) (hr.mono (by decide)) rfl T.z_max rfl rfl ⟨rfl, by decide +kernel, by decide +kernel, rfl, by decide +kernel, rfl, by decide +kernel, rfl, by decide +kernel⟩ rfl rfl (pv 4) (fun _ _ _ _ _ => (@pe_ix _ _ _ _ _ _ _ (ix_listK K) (pv 2) (pv 8) (fun _ _ => rfl)))) (by rfl) (by first | exact .inl rfl | exact .inr rfl | assumption)) (@pss_cons _ _ _ _ _ (@ps_expr _ _ _ _ (pe_bm PySem.F.plainAttrs_list PySem.F.slot_list_remove PySem.F.type_list_remove mt_remove (pv 4) (@pa_cons _ _ _ _ _ (pv 5) pa_nil (by rfl))) (by rfl)) (@pss_one _ _ _ (ps_for PassesOwn.never rfl (pi_list (pv 4)) (pg_name (i := 6) sc_reached_from.nd rfl (Or.inl rfl)) (@pss_cons _ _ _ _ _ (@ps_set _ _ (7) _ _ _ _ sc_reached_from.nd rfl (Or.inl rfl) (@pe_callB _ _ _ _ _ _ _ _ _ (call_min2 rfl) (by rfl) T.z_min PyProof.Rows.boot_min (@pa_cons _ _ _ _ _ (@pe_ix _ _ _ _ _ _ _ ix_list (pv 2) (pv 5) (fun _ _ => rfl)) (@pa_cons _ _ _ _ _ (@pe_ix _ _ _ _ _ _ _ ix_list (@pe_ix _ _ _ _ _ _ _ ix_list (pv 0) (pv 5) (fun _ _ => rfl)) (pv 6) (fun _ _ => rfl)) pa_nil (by rfl)) (by rfl)) (by decide) (by decide) (by rfl) (by rfl)) (by rfl) (by first | exact .inl rfl | exact .inr rfl | assumption)) (@pss_one _ _ _ (@ps_if _ _ _ _ _ _ _ _ (@pt_cmpR _ _ _ _ _ _ _ _ op_gt (pv 7) (@pe_ix _ _ _ _ _ _ _ ix_list (pv 2) (pv 6) (fun _ _ => rfl)) (nomark _)) (@pss_cons _ _ _ _ _ (ps_asg (pv 7) (pg_sub (pv 2) (pv 6) set_list)) (@pss_one _ _ _ (ps_asg (pv 5) (pg_sub (pv 3) (pv 6) set_list)))) pss_nil)))))))) (@pss_one _ _ _ (@ps_ret _ _ _ _ (@pe_tup _ _ _ _ _ (@pa_cons _ _ _ _ _ (pv 2) (@pa_cons _ _ _ _ _ (pv 3) pa_nil (by rfl)) (by rfl))))))))), ?_⟩
  obtain ⟨ax, _, _, x3, x4⟩ := tb.row hx
  refine ⟨_, rfl, _, rfl, a, _, _, _, rfl, rfl, SqL.of ha, x3, ?_⟩
  refine ⟨ax, _, rfl, .inl (SqL.of x4), fun b hb => ?_⟩
  obtain ⟨be0, ebe⟩ : ∃ be0, be0 = (List.range h).map fun y => L x y := ⟨_, rfl⟩
  rw [← ebe]
  have s1 := same_new hb (.lst (be0.map V.int))
  have e1 : (upd H b (.lst (be0.map V.int))) b = some (.lst (be0.map V.int)) := upd_same
  generalize upd H b (.lst (be0.map V.int)) = H1 at s1 e1 ⊢
  and_intros
  refine ⟨⟨_, SqL.of (s1 _ _ ha)⟩, ?_⟩
  refine comp_list (xs := as.map V.ref) (by rw [List.length_map, tb.1]; exact small63 (by omega)) (fun D i ys J => ys = (List.replicate i (x : Int)).map V.int ∧ J = upd H1 D (.lst ys)) (fun D hD => ⟨rfl, rfl⟩) (fun D i ys J ⟨f1, f2⟩ => ⟨by rw [f2]; exact upd_same, by rw [f1, List.length_map, List.length_replicate]; exact Nat.le_refl _⟩) (fun D i ys J hD ⟨_, f2⟩ => by rw [f2]; exact SqL.of (same_new hD _ _ _ (s1 _ _ ha))) ?_ ?_
  · rintro D i y ys J K1 K2 hD hy ⟨f1, rfl⟩ k1 k2
    refine yes (ifT rfl ?_)
    refine ⟨_, rfl, ?_⟩
    refine k1 _ _ upd_same ⟨?_, by rw [upd_upd]⟩
    rw [f1, List.replicate_succ', List.map_append]
    rfl
  rintro f ys H2 hf ⟨rfl, rfl⟩
  rw [List.length_map, tb.1]
  have fb : f ≠ b := fun z => by rw [z, e1] at hf; cases hf
  have hfH := none_of s1 hf
  have s2 := s1.trans (same_new hf (.lst ((List.replicate h (x : Int)).map V.int)))
  have e2 : (upd H1 f (.lst ((List.replicate h (x : Int)).map V.int))) f = some (.lst ((List.replicate h (x : Int)).map V.int)) := upd_same
  have b2 := same_new hf (.lst ((List.replicate h (x : Int)).map V.int)) _ _ e1
  generalize upd H1 f (.lst ((List.replicate h (x : Int)).map V.int)) = H2 at s2 e2 b2 ⊢
  and_intros
  have tb2 := tb.same s2
  refine ⟨a, tbOf as h L, h, rfl, (by rw [tb2.vtb]; exact s2 _ _ ha), tb2.good.1, h12, fun l0 H3 hl0 s3 e3 => ?_⟩
  have b3 := s3 _ _ b2
  have f3 := s3 _ _ e2
  have s3 := s2.trans s3
  and_intros
  refine ⟨⟨_, SqL.of e3⟩, ?_⟩
  refine comp_list (xs := (ups h).map V.int) (by rw [List.length_map, ups_len]; exact small63 (by omega)) (fun D i ys J => ys = (butX i x).map V.int ∧ J = upd H3 D (.lst ys)) (fun D hD => ⟨rfl, rfl⟩) (fun D i ys J ⟨g1, g2⟩ => ⟨by rw [g2]; exact upd_same, by rw [g1, List.length_map]; unfold butX; rw [List.length_map]; exact Nat.le_trans (List.length_filter_le _ _) (by rw [List.length_range]; exact Nat.le_refl _)⟩) (fun D i ys J hD ⟨_, g2⟩ => by rw [g2]; exact SqL.of (same_new hD _ _ _ e3)) ?_ ?_
  · rintro D i y ys J K1 K2 hD hy ⟨g1, rfl⟩ k1 k2
    obtain ⟨z, hz, rfl⟩ := int_at hy
    obtain ⟨rfl, hi⟩ := ups_at hz
    and_intros
    by_cases c : i = x
    · refine ifF (ne_f (by rw [c])) ?_
      exact k2 _ ⟨by rw [g1, butX_succ, if_pos c, List.append_nil], rfl⟩
    · refine ifT (ne_t fun e => c (Int.ofNat.inj e)) ?_
      refine ⟨_, rfl, ?_⟩
      exact k1 _ _ upd_same ⟨by rw [g1, butX_succ, if_neg c, List.map_append]; rfl, by rw [upd_upd]⟩
  rintro l ys H4 hl ⟨rfl, rfl⟩
  rw [List.length_map, ups_len]
  have lb : l ≠ b := fun z => by rw [z, b3] at hl; cases hl
  have lf : l ≠ f := fun z => by rw [z, f3] at hl; cases hl
  have hlH := none_of s3 hl
  have sn := same_new hl (.lst ((butX h x).map V.int))
  have e4 : (upd H3 l (.lst ((butX h x).map V.int))) l = some (.lst ((butX h x).map V.int)) := upd_same
  have b4 := sn _ _ b3
  have f4 := sn _ _ f3
  have s4 := s3.trans sn
  generalize upd H3 l (.lst ((butX h x).map V.int)) = H4 at s4 e4 b4 f4 ⊢
  have bl := butX_len' hx
  refine ⟨fun m σ' H' => ∃ (v5 v6 v7 : Option V) (be bf left : List Int) (rk : Nat → Nat), σ' = [some (V.ref a), some (.int (x : Int)), some (.ref b), some (.ref f), some (.ref l), v5, v6, v7] ∧ Sm H H' ∧ (LamQ ad.lP h H → Same H H') ∧ LT ad.lP H' ∧ (left.length + 1 = h ∨ L1 ad.lP H') ∧ H' b = some (.lst (be.map V.int)) ∧ H' f = some (.lst (bf.map V.int)) ∧ H' l = some (.lst (left.map V.int)) ∧ Dij h x L be bf left rk ∧ left.length = m,
    ⟨_, none, none, none, be0, List.replicate h (x : Int), butX h x, fun _ => 0, rfl, Sm.of s4, (fun _ => s4), lt.same s4, .inl bl, b4, f4, e4, (by rw [ebe]; exact Dij.start hx L), rfl⟩, ?_⟩
  rintro m σ' H' ⟨v5, v6, v7, be, bf, left, rk, rfl, sm, sq, lt', l1, eb, ef, el, dj, lm⟩
  refine ⟨_, rfl, (by show 0 ≤ sizeLine; decide), fun z3 hz3 => ?_⟩
  have sz := same_new hz3 (.lst [])
  have ez : (upd H' z3 (.lst [])) z3 = some (.lst (([] : List Int).map V.int)) := upd_same
  generalize upd H' z3 (.lst []) = H5 at sz ez ⊢
  have eb := sz _ _ eb
  have ef := sz _ _ ef
  have el := sz _ _ el
  have sm := sm.trans (Sm.of sz)
  have sq : LamQ ad.lP h H → Same H H5 := fun z => (sq z).trans sz
  have lt' := lt'.same sz
  have l1 : left.length + 1 = h ∨ L1 ad.lP H5 := l1.imp id fun z => z.same sz
  refine ⟨.list (left.map .int), .list (([] : List Int).map .int), .lst (SqL.of el) (.ints _), .lst (SqL.of ez) (.ints []), (shape_ints _).2, (shape_ints _).2, ?_⟩
  rw [show PyData.eqv (.list (left.map .int)) (.list (([] : List Int).map .int)) = decide (left = []) from eqv_ints _ _]
  refine ⟨_, rfl, ?_⟩
  by_cases cl : left = []
  · refine ifF (by rw [decide_eq_true cl]; rfl) ?_
    subst cl
    and_intros
    refine ⟨(by show 2 ≤ sizeLine; decide), fun t ht => ?_⟩
    have st := same_new ht (.tup [V.ref b, V.ref f])
    have l1' : h = 1 ∨ L1 ad.lP H5 := l1.imp (fun z => by rw [List.length_nil] at z; omega) id
    exact q t b f be bf _ (sm.trans (Sm.of st)) (fun z => (sq z).trans st) (LamQ.same ⟨lt', l1'⟩ st) (sm.gone t ht) hb hfH (Ne.symm fb) upd_same (st _ _ eb) (st _ _ ef) dj.done
  · refine ifT (by rw [decide_eq_false cl]; rfl) ?_
    have pl : 0 < left.length := List.length_pos_iff.mpr cl
    refine ⟨fun σ' H' => ∃ (v5 v6 v7 : Option V) (be bf left : List Int) (rk : Nat → Nat), σ' = [some (V.ref a), some (.int (x : Int)), some (.ref b), some (.ref f), some (.ref l), v5, v6, v7] ∧ Sm H H' ∧ (LamQ ad.lP h H → Same H H') ∧ LT ad.lP H' ∧ (left.length + 1 = h ∨ L1 ad.lP H') ∧ H' b = some (.lst (be.map V.int)) ∧ H' f = some (.lst (bf.map V.int)) ∧ H' l = some (.lst (left.map V.int)) ∧ Dij h x L be bf left rk ∧ left.length = m - 1, fun σ' H' e => ⟨m - 1, by omega, e⟩, ?_⟩
    and_intros
    refine ⟨l, left.map V.int, fun i => be.getD (left.getD i 0).toNat 0, rfl, by rw [List.length_map]; exact pl, lt', fun H6 q1 q2 q3 q4 => ?_⟩
    have s56 := sm_lam lt' q2 q4
    have eb := s56.lst eb
    have ef := s56.lst ef
    have el := s56.lst el
    have sm := sm.trans s56
    have lsub : ∀ {i : Nat} {z : Int}, left[i]? = some z → ∃ y : Nat, z = (y : Int) ∧ y < h ∧ y ≠ x ∧ left.getD i 0 = (y : Int) := fun {i z} e => by
      obtain ⟨y, a1, a2, a3⟩ := dj.sub z (List.mem_of_getElem? e)
      exact ⟨y, a3, a1, a2, by rw [List.getD_eq_getElem?_getD, e]; exact a3⟩
    have sq : LamQ ad.lP h H → Same H H6 := fun z => by
      have l1' : L1 ad.lP H5 := by
        rcases (LamQ.same z (sq z)).2 with c | c
        · have := dj.sub _ (List.mem_of_getElem? (List.getElem?_eq_getElem pl))
          obtain ⟨y, a1, a2, _⟩ := this
          omega
        · exact c
      rw [← q3 l1']
      exact sq z
    clear q2 q3 q4 s56
    refine ⟨SqL.of el, fun i w hw => ?_, fun i w hw bst => ?_⟩
    · obtain ⟨z, hz, rfl⟩ := int_at hw
      obtain ⟨y, rfl, hy, _, ey⟩ := lsub hz
      refine ⟨_, rfl, _, rfl, b, _, _, _, rfl, rfl, SqL.of eb, atG (by rw [dj.lenb]; exact hy), ?_⟩
      refine ⟨?_, rfl⟩
      show V.int (be.getD y 0) = V.int (be.getD (left.getD i 0).toNat 0)
      rw [ey]
      rfl
    obtain ⟨z, hz, rfl⟩ := int_at hw
    obtain ⟨t, rfl, hth, htx, et⟩ := lsub hz
    have tm := List.mem_of_getElem? hz
    have best : ∀ y : Nat, (y : Int) ∈ left → be.getD y 0 ≤ be.getD t 0 := fun y my => by
      obtain ⟨j, hj⟩ := List.getElem?_of_mem my
      have jl := (List.getElem?_eq_some_iff.mp hj).1
      have := (bst j (by rw [List.length_map]; exact jl)).1
      dsimp only at this
      rw [et, List.getD_eq_getElem?_getD (l := left), hj] at this
      exact this
    clear bst
    and_intros
    refine ⟨.inl ⟨rfl, _, SqL.of el⟩, ?_⟩
    and_intros
    refine ⟨l, left, (t : Int), rfl, rfl, el, tm, ?_⟩
    rw [← erase_idx]
    have lme : (left.erase (t : Int)).length = left.length - 1 := List.length_erase_of_mem tm
    obtain ⟨lf2, elf⟩ : ∃ lf2, lf2 = left.erase (t : Int) := ⟨_, rfl⟩
    rw [← elf]
    have sub2 : ∀ z ∈ lf2, ∃ y : Nat, y < h ∧ z = (y : Int) := fun z m => by
      rw [elf] at m
      obtain ⟨y, a1, _, a3⟩ := dj.sub z (List.mem_of_mem_erase m)
      exact ⟨y, a1, a3⟩
    have nd2 : lf2.Nodup := by rw [elf]; exact dj.nd.erase _
    have nt2 : (t : Int) ∉ lf2 := fun m => by rw [elf] at m; exact (dj.nd.mem_erase_iff.mp m).1 rfl
    rw [← elf] at lme
    have k1 : ∀ {c : Addr} {xs : List V}, H6 c = some (.lst xs) → c ≠ l → (upd H6 l (.lst (lf2.map V.int))) c = some (.lst xs) := fun e n => by rw [upd_ne n]; exact e
    have el' : (upd H6 l (.lst (lf2.map V.int))) l = some (.lst (lf2.map V.int)) := upd_same
    have eb' := k1 eb (Ne.symm lb)
    have ef' := k1 ef (Ne.symm lf)
    have sm' := sm.put (o := .lst (lf2.map V.int)) hlH
    have sq' : LamQ ad.lP h H → Same H (upd H6 l (.lst (lf2.map V.int))) := fun z => same_upd (sq z) hlH
    have l1' : L1 ad.lP (upd H6 l (.lst (lf2.map V.int))) := Lam1.put q1 el
    generalize upd H6 l (.lst (lf2.map V.int)) = H7 at el' eb' ef' sm' sq' l1' ⊢
    clear k1
    and_intros
    refine ⟨⟨_, SqL.of el'⟩, for_list (xs := lf2.map V.int) (fun k σ' H' => ∃ (v6 v7 : Option V) (be' bf' : List Int), σ' = [some (V.ref a), some (.int (x : Int)), some (.ref b), some (.ref f), some (.ref l), some (.int (t : Int)), v6, v7] ∧ Sm H H' ∧ (LamQ ad.lP h H → Same H H') ∧ L1 ad.lP H' ∧ H' b = some (.lst (be'.map V.int)) ∧ H' f = some (.lst (bf'.map V.int)) ∧ H' l = some (.lst (lf2.map V.int)) ∧ Upd h t L be bf (lf2.take k) be' bf') ⟨_, _, be, bf, rfl, sm', sq', l1', eb', ef', el', Upd.nil dj.lenb dj.lenf⟩ (fun k σ' H' _ ⟨_, _, _, _, _, _, _, _, _, _, e, _⟩ => SqL.of e) ?_ ?_⟩
    · rintro k w σ' H' hw ⟨v6, v7, be', bf', rfl, sm8, sq8, l18, eb8, ef8, el8, ud⟩
      obtain ⟨z, hz, rfl⟩ := int_at hw
      obtain ⟨y, hy, rfl⟩ := sub2 z (List.mem_of_getElem? hz)
      obtain ⟨ek, nk⟩ := step_at nd2 hz
      have lb8 : be'.length = h := ud.1
      have lf8 : bf'.length = h := ud.2.1
      have bt : be'.getD t 0 = be.getD t 0 := ud.at hth fun m => nt2 (List.mem_of_mem_take m)
      have by' : be'.getD y 0 = be.getD y 0 := ud.at hy nk
      obtain ⟨at8, _, _, r3, r4⟩ := (tb.sm sm8).row hth
      have ha8 := sm8.lst ha
      and_intros
      refine ⟨b, _, _, _, rfl, rfl, SqL.of eb8, atG (by omega), ?_⟩
      refine ⟨_, rfl, _, rfl, a, _, _, _, rfl, rfl, SqL.of ha8, r3, ?_⟩
      refine ⟨_, rfl, at8, _, _, _, rfl, rfl, SqL.of r4, row_cell (L t) hy, ?_⟩
      refine ⟨_, _, rfl, ?_⟩
      rw [min_if, bt]
      and_intros
      refine ⟨b, _, _, _, rfl, rfl, SqL.of eb8, atG (by omega), ?_⟩
      and_intros
      rw [by']
      by_cases c : be.getD y 0 < min (be.getD t 0) (L t y)
      · refine ifT (decide_eq_true c) ?_
        and_intros
        refine ⟨b, _, _, y, rfl, rfl, eb8, ixN_nat (by rw [List.length_map]; omega), ?_⟩
        rw [set_map]
        have ef9 : (upd H' b (.lst ((be'.set y (min (be.getD t 0) (L t y))).map V.int))) f = some (.lst (bf'.map V.int)) := by rw [upd_ne fb]; exact ef8
        have eb9 : (upd H' b (.lst ((be'.set y (min (be.getD t 0) (L t y))).map V.int))) b = some (.lst ((be'.set y (min (be.getD t 0) (L t y))).map V.int)) := upd_same
        have el9 : (upd H' b (.lst ((be'.set y (min (be.getD t 0) (L t y))).map V.int))) l = some (.lst (lf2.map V.int)) := by rw [upd_ne lb]; exact el8
        have sm9 := sm8.put (o := .lst ((be'.set y (min (be.getD t 0) (L t y))).map V.int)) hb
        have sq9 : LamQ ad.lP h H → Same H (upd H' b (.lst ((be'.set y (min (be.getD t 0) (L t y))).map V.int))) := fun z => same_upd (sq8 z) hb
        have l19 : L1 ad.lP (upd H' b (.lst ((be'.set y (min (be.getD t 0) (L t y))).map V.int))) := Lam1.put l18 eb8
        generalize upd H' b (.lst ((be'.set y (min (be.getD t 0) (L t y))).map V.int)) = H9 at ef9 eb9 el9 sm9 sq9 l19 ⊢
        and_intros
        refine ⟨f, _, _, y, rfl, rfl, ef9, ixN_nat (by rw [List.length_map]; omega), ?_⟩
        rw [set_map]
        exact ⟨_, _, be'.set y (min (be.getD t 0) (L t y)), bf'.set y (t : Int), rfl, sm9.put hfH, (fun z => same_upd (sq9 z) hfH), Lam1.put l19 ef9, by rw [upd_ne (Ne.symm fb)]; exact eb9, upd_same, by rw [upd_ne lf]; exact el9, by rw [ek]; exact ud.put hy c⟩
      · refine ifF (decide_eq_false c) ?_
        exact ⟨_, _, be', bf', rfl, sm8, sq8, l18, eb8, ef8, el8, by rw [ek]; exact ud.skip c⟩
    · rintro σ' H' ⟨v6, v7, be', bf', rfl, sm8, sq8, l18, eb8, ef8, el8, ud⟩
      rw [List.length_map, List.take_of_length_le (Nat.le_refl _), elf] at ud
      exact ⟨_, _, _, be', bf', lf2, _, rfl, sm8, sq8, .inr l18, .inr l18, eb8, ef8, el8, by rw [elf]; exact dj.step hx tm best ud, by omega⟩
theorem ok_cut_by (T : Tx K mg base ad) : FnOk P w K mg base CX0 2 ad.f_cut_by ad.d_cut_by ["reached", "x", "y"] spCutBy := by
  refine T.F_cut_by.ok sc_cut_by (fun vs H Q E h => ?_) (fun cdv A outer s H vs Q E hr h => ?_)
  · obtain ⟨t, h, x, y, L, be, rfl, _⟩ := h
    rfl
  obtain ⟨t, h, x, y, L, be, rfl, td, hx, hy, h12, q⟩ := h
  refine ⟨_, (@pss_cons _ _ _ _ _ (@ps_set _ _ (3) _ _ _ _ sc_cut_by.nd rfl (Or.inl rfl) (@pe_call _ _ _ _ _ _ _ _ _ _ _ _ _ _ _ _ (ok_with_one T) (hr.mono (by decide)) rfl T.m_with_one T.F_with_one.kp T.b_with_one .nil pass0 (@pa_cons _ _ _ _ _ pe_int (@pa_cons _ _ _ _ _ (pv 1) pa_nil (by rfl)) (by rfl)) (by decide) (by rfl) (by rfl)) (by rfl) (by first | exact .inl rfl | exact .inr rfl | assumption)) (@pss_cons _ _ _ _ _ (ps_for PassesOwn.never rfl (pi_enum rfl T.z_enumerate (@pa_cons _ _ _ _ _ (@pe_ix _ _ _ _ _ _ _ ix_tup (pv 0) pe_int (fun _ _ => rfl)) pa_nil (by rfl))) (pg_tup rfl (pgs_cons (pg_name (i := 4) sc_cut_by.nd rfl (Or.inl rfl)) (pgs_cons (pg_name (i := 5) sc_cut_by.nd rfl (Or.inl rfl)) pgs_nil))) (@pss_one _ _ _ (@ps_if _ _ _ _ _ _ _ _ (@pt_cmpR _ _ _ _ _ _ _ _ op_gt (pv 5) (@pe_ix _ _ _ _ _ _ _ ix_list (@pe_ix _ _ _ _ _ _ _ ix_tup (pv 0) pe_int (fun _ _ => rfl)) (pv 2) (fun _ _ => rfl)) (nomark _)) (@pss_one _ _ _ (@ps_set _ _ (3) _ _ _ _ sc_cut_by.nd rfl (Or.inl rfl) (@pe_call _ _ _ _ _ _ _ _ _ _ _ _ _ _ _ _ (ok_with_one T) (hr.mono (by decide)) rfl T.m_with_one T.F_with_one.kp T.b_with_one .nil pass0 (@pa_cons _ _ _ _ _ (pv 3) (@pa_cons _ _ _ _ _ (pv 4) pa_nil (by rfl)) (by rfl)) (by decide) (by rfl) (by rfl)) (by rfl) (by first | exact .inl rfl | exact .inr rfl | assumption))) pss_nil))) (@pss_one _ _ _ (@ps_ret _ _ _ _ (pv 3))))), ?_⟩
  obtain ⟨b, f, bf, et, eb, ef, re⟩ := td.is
  have bl := re.lenb
  and_intros
  refine ⟨0, (x : Int), rfl, by omega, by omega, ?_⟩
  rw [show Builtin.bitOr 0 (1 * 2 ^ (x : Int).toNat) = msum h (fun i => decide (i = x)) from (by
    rw [Int.toNat_natCast, show (0 : Int) = msum h (fun _ => false) from (msum_zero fun _ _ => rfl).symm, or_at _ hx]
    exact msum_congr h fun i _ => by rw [Bool.false_or])]
  and_intros
  refine ⟨⟨_, SqL.of eb⟩, for_enum (xs := be.map V.int) (fun i σ' H' => ∃ v4 v5 : Option V, σ' = [some (.ref t), some (.int (x : Int)), some (.int (y : Int)), some (.int (msum h fun j => decide (j = x) || (decide (j < i) && decide (be.getD y 0 < be.getD j 0)))), v4, v5] ∧ Same H H') ⟨none, none, ?_, fun _ _ e => e⟩ (fun i σ' H' _ ⟨_, _, _, e⟩ => SqL.of (e _ _ eb)) ?_ ?_⟩
  · rw [msum_congr h (g := fun j => decide (j = x) || (decide (j < 0) && decide (be.getD y 0 < be.getD j 0))) (fun j _ => by rw [decide_eq_false (Nat.not_lt_zero j), Bool.false_and, Bool.or_false])]
    rfl
  · rintro i w T0 σ' H' hw ⟨v4, v5, rfl, s1⟩ hT
    obtain ⟨z, hz, rfl⟩ := int_at hw
    have hi : i < be.length := (List.getElem?_eq_some_iff.mp hz).1
    have ez : be.getD i 0 = z := by rw [List.getD_eq_getElem?_getD, hz]; rfl
    have s2 := same_new hT (.tup [.int (i : Int), .int z])
    have eT : (upd H' T0 (.tup [.int (i : Int), .int z])) T0 = some (.tup [.int (i : Int), .int z]) := upd_same
    generalize upd H' T0 (.tup [.int (i : Int), .int z]) = H2 at s2 eT ⊢
    have s12 := s1.trans s2
    refine ⟨T0, _, rfl, SqT.of eT, rfl, _, _, rfl, _, _, rfl, rfl, ?_⟩
    have et2 := s12 _ _ et
    and_intros
    refine ⟨b, _, _, _, rfl, rfl, SqL.of (s12 _ _ eb), atG (by omega), ?_⟩
    and_intros
    by_cases c : be.getD y 0 < z
    · refine ifT (decide_eq_true c) ?_
      and_intros
      refine ⟨_, (i : Int), rfl, by omega, by omega, ?_⟩
      rw [Int.toNat_natCast, or_at _ (by omega)]
      refine ⟨some (.int (i : Int)), some (.int z), ?_, s12⟩
      have em : msum h (fun j => (decide (j = x) || (decide (j < i) && decide (be.getD y 0 < be.getD j 0))) || decide (j = i)) = msum h (fun j => decide (j = x) || (decide (j < i + 1) && decide (be.getD y 0 < be.getD j 0))) := msum_congr h fun j _ => ?_
      · rw [em]; rfl
      · by_cases e : j = i
        · subst e
          rw [decide_eq_true rfl, decide_eq_true (show j < j + 1 by omega), ez, decide_eq_true c]
          simp
        · rw [decide_eq_false e, Bool.or_false]
          by_cases d : j < i
          · rw [decide_eq_true d, decide_eq_true (show j < i + 1 by omega)]
          · rw [decide_eq_false d, decide_eq_false (show ¬ j < i + 1 by omega)]
    · refine ifF (decide_eq_false c) ?_
      refine ⟨some (.int (i : Int)), some (.int z), ?_, s12⟩
      have em : msum h (fun j => decide (j = x) || (decide (j < i) && decide (be.getD y 0 < be.getD j 0))) = msum h (fun j => decide (j = x) || (decide (j < i + 1) && decide (be.getD y 0 < be.getD j 0))) := msum_congr h fun j _ => ?_
      · rw [em]; rfl
      · by_cases e : j = i
        · subst e
          rw [ez, decide_eq_false c, Bool.and_false, Bool.and_false]
        · by_cases d : j < i
          · rw [decide_eq_true d, decide_eq_true (show j < i + 1 by omega)]
          · rw [decide_eq_false d, decide_eq_false (show ¬ j < i + 1 by omega)]
  · rintro σ' H' ⟨v4, v5, rfl, s1⟩
    rw [List.length_map, bl]
    and_intros
    rw [msum_congr h (g := cutF x y be) (fun j hj => ?_)]
    · exact q _ s1
    · unfold cutF
      rw [decide_eq_true hj, Bool.true_and, Bool.decide_or]
theorem ok_law_table (T : Tx K mg base ad) : FnOk P w K mg base CX0 2 ad.f_law_table ad.d_law_table ["_law_found", "_law_hands"] spTable51 := by
  refine T.F_law_table.ok sc_law_table (fun vs H Q E h => ?_) (fun cdv A outer s H vs Q E hr h => ?_)
  · obtain ⟨a, t, h, rfl, _⟩ := h
    rfl
  obtain ⟨a, t, h, rfl, ha, g, h12, q⟩ := h
  refine ⟨_, (@pss_cons _ _ _ _ _ (@ps_if _ _ _ _ _ _ _ _ (PW.pt (@pw_or _ _ _ _ _ _ _ (@pt_not _ _ _ _ (@pt_val _ _ _ (@pe_callB _ _ _ _ _ _ _ _ _ call_isi (by rfl) T.z_isinstance PyProof.Rows.boot_isinstance (@pa_cons _ _ _ _ _ (pv 0) (@pa_cons _ _ _ _ _ (pe_bltn (v := .ty "list") rfl T.z_list PyProof.Rows.boot_list rfl) pa_nil (by rfl)) (by rfl)) (by decide) (by decide) (by rfl) (by rfl)) (by intro _; rfl))) (@pw_or1 _ _ _ _ (@pt_cmpR _ _ _ _ _ _ _ _ op_ne (@pe_callB _ _ _ _ _ _ _ _ _ call_len_seq (by rfl) T.z_len PySem.boot_len (@pa_cons _ _ _ _ _ (pv 0) pa_nil (by rfl)) (by decide) (by decide) (by rfl) (by rfl)) (pv 1) (nomark _))))) (@pss_one _ _ _ (@ps_ret _ _ _ _ pe_bl)) pss_nil) (@pss_cons _ _ _ _ _ (ps_for PassesOwn.never rfl (pi_list (pv 0)) (pg_name (i := 2) sc_law_table.nd rfl (Or.inl rfl)) (@pss_one _ _ _ (@ps_if _ _ _ _ _ _ _ _ (PW.pt (@pw_or _ _ _ _ _ _ _ (@pt_not _ _ _ _ (@pt_val _ _ _ (@pe_callB _ _ _ _ _ _ _ _ _ call_isi (by rfl) T.z_isinstance PyProof.Rows.boot_isinstance (@pa_cons _ _ _ _ _ (pv 2) (@pa_cons _ _ _ _ _ (pe_bltn (v := .ty "list") rfl T.z_list PyProof.Rows.boot_list rfl) pa_nil (by rfl)) (by rfl)) (by decide) (by decide) (by rfl) (by rfl)) (by intro _; rfl))) (@pw_or _ _ _ _ _ _ _ (@pt_cmpR _ _ _ _ _ _ _ _ op_ne (@pe_callB _ _ _ _ _ _ _ _ _ call_len_seq (by rfl) T.z_len PySem.boot_len (@pa_cons _ _ _ _ _ (pv 2) pa_nil (by rfl)) (by decide) (by decide) (by rfl) (by rfl)) (pv 1) (nomark _)) (@pw_or1 _ _ _ _ (@pt_not _ _ _ _ (@pt_val _ _ _ (@pe_callB _ _ _ _ _ _ _ _ _ (call_all rfl) (by rfl) T.z_all PyProof.Rows.boot_all (@pa_cons _ _ _ _ _ (pe_comp (fsc := defScope s_law_table) (N := ["_law_found", "_law_hands", "_law_row"]) (Nc := ["_law_found", "_law_hands", "_law_row", "_law_many"]) rfl rfl ⟨rfl, by decide +kernel, by decide +kernel, rfl, by decide +kernel, rfl, by decide +kernel, rfl, by decide +kernel⟩ rfl (pi_list (pv 2)) (fun _ _ _ _ => pif_nil) (fun _ _ _ _ => (@pe_call _ _ _ _ _ _ _ _ _ _ _ _ _ _ _ _ (ok_law_whole T) (hr.mono (by decide)) rfl T.m_law_whole T.F_law_whole.kp T.b_law_whole .nil pass0 (@pa_cons _ _ _ _ _ (pv 3) pa_nil (by rfl)) (by decide) (by rfl) (by rfl)))) pa_nil (by rfl)) (by decide) (by decide) (by rfl) (by rfl)) (by intro _; rfl))))))) (@pss_one _ _ _ (@ps_ret _ _ _ _ pe_bl)) pss_nil))) (@pss_one _ _ _ (@ps_ret _ _ _ _ pe_bl)))), ?_⟩
  refine ⟨_, rfl, _, _, _, _, rfl, TyOf.lst ha, kit_list_list, ?_⟩
  have tl : (vtb t).length = h := by unfold vtb; rw [List.length_map, g.1]
  and_intros
  refine ifF (ne_f (by rw [tl])) ?_
  and_intros
  refine ⟨⟨_, SqL.of ha⟩, for_list (xs := vtb t) (fun i σ' H' => ∃ v2 : Option V, σ' = [some (.ref a), some (.int (h : Int)), v2] ∧ Same H H') ⟨none, rfl, fun _ _ e => e⟩ (fun i σ' H' _ ⟨_, _, e⟩ => SqL.of (e _ _ ha)) ?_ ?_⟩
  · rintro i w σ' H' hw ⟨v2, rfl, s1⟩
    unfold vtb at hw
    rw [List.getElem?_map] at hw
    obtain ⟨r, hr0, rfl⟩ := Option.map_eq_some_iff.mp hw
    obtain ⟨r1, r2⟩ := g.2 r (List.mem_of_getElem? hr0)
    have r1' := s1 _ _ r1
    refine ⟨_, rfl, _, _, _, _, rfl, TyOf.lst r1', kit_list_list, ?_⟩
    and_intros
    refine ifF (ne_f (by rw [List.length_map, r2])) ?_
    refine ⟨_, rfl, r.1, rfl, ⟨_, SqL.of r1'⟩, ?_⟩
    refine comp_list (xs := r.2.map V.int) (by rw [List.length_map]; exact small63 (by omega)) (fun D j ys J => ys = (List.replicate j true).map V.bl ∧ J = upd H' D (.lst ys)) (fun D hD => ⟨rfl, rfl⟩) (fun D j ys J ⟨f1, f2⟩ => ⟨by rw [f2]; exact upd_same, by rw [f1, List.length_map, List.length_replicate]; exact Nat.le_refl _⟩) (fun D j ys J hD ⟨_, f2⟩ => by rw [f2]; exact SqL.of (same_new hD _ _ _ r1')) ?_ ?_
    · rintro D j y ys J K1 K2 hD hx ⟨f1, rfl⟩ k1 k2
      obtain ⟨z, hz, rfl⟩ := int_at hx
      refine yes (ifT rfl ?_)
      refine ⟨_, rfl, z, rfl, ?_⟩
      refine k1 _ _ upd_same ⟨?_, by rw [upd_upd]⟩
      rw [f1, List.replicate_succ', List.map_append]
      rfl
    rintro D ys H2 hD ⟨rfl, rfl⟩
    have s2 := same_new hD (.lst ((List.replicate (r.2.map V.int).length true).map V.bl))
    refine ⟨D, _, rfl, SqL.of upd_same, ?_⟩
    refine ⟨_, rfl, ?_⟩
    refine ifF (by simp [List.all_replicate]) ?_
    exact ⟨_, rfl, s1.trans s2⟩
  · rintro σ' H' ⟨v2, rfl, s1⟩
    exact q _ s1
theorem ok_law_way (T : Tx K mg base ad) : FnOk P w K mg base CX0 2 ad.f_law_way ad.d_law_way ["_law_leads_here", "_law_some", "_law_x", "_law_y", "_law_worth"] spLawWay := by
  refine T.F_law_way.ok sc_law_way (fun vs H Q E h => ?_) (fun cdv A outer s H vs Q E hr h => ?_)
  · obtain ⟨a, w, as, h, x, y, L, v, ws, rfl, _⟩ := h
    rfl
  obtain ⟨a, w, as, h, x, y, L, v, ws, rfl, ha, tb, h12, hw, iw, q⟩ := h
  refine ⟨_, (@pss_cons _ _ _ _ _ (@ps_if _ _ _ _ _ _ _ _ (PW.pt (@pw_or _ _ _ _ _ _ _ (@pt_not _ _ _ _ (@pt_val _ _ _ (@pe_callB _ _ _ _ _ _ _ _ _ call_isi (by rfl) T.z_isinstance PyProof.Rows.boot_isinstance (@pa_cons _ _ _ _ _ (pv 1) (@pa_cons _ _ _ _ _ (pe_bltn (v := .ty "list") rfl T.z_list PyProof.Rows.boot_list rfl) pa_nil (by rfl)) (by rfl)) (by decide) (by decide) (by rfl) (by rfl)) (by intro _; rfl))) (@pw_or1 _ _ _ _ (@pt_not _ _ _ _ (@pt_val _ _ _ (@pe_callB _ _ _ _ _ _ _ _ _ (call_all rfl) (by rfl) T.z_all PyProof.Rows.boot_all (@pa_cons _ _ _ _ _ (pe_comp (fsc := defScope s_law_way) (N := ["_law_leads_here", "_law_some", "_law_x", "_law_y", "_law_worth"]) (Nc := ["_law_leads_here", "_law_some", "_law_x", "_law_y", "_law_worth", "_law_hand"]) rfl rfl ⟨rfl, by decide +kernel, by decide +kernel, rfl, by decide +kernel, rfl, by decide +kernel, rfl, by decide +kernel⟩ rfl (pi_list (pv 1)) (fun _ _ _ _ => pif_nil) (fun _ _ _ _ => (@pe_and _ _ _ _ _ _ _ (@pe_call _ _ _ _ _ _ _ _ _ _ _ _ _ _ _ _ (ok_law_whole T) (hr.mono (by decide)) rfl T.m_law_whole T.F_law_whole.kp T.b_law_whole .nil pass0 (@pa_cons _ _ _ _ _ (pv 5) pa_nil (by rfl)) (by decide) (by rfl) (by rfl)) (@pe_one _ _ _ _ _ (pe_chain op_le op_lt pe_int (pv 5) (@pe_callB _ _ _ _ _ _ _ _ _ (call_lenK K) (by rfl) T.z_len PySem.boot_len (@pa_cons _ _ _ _ _ (pv 0) pa_nil (by rfl)) (by decide) (by decide) (by rfl) (by rfl))))))) pa_nil (by rfl)) (by decide) (by decide) (by rfl) (by rfl)) (by intro _; rfl)))))) (@pss_one _ _ _ (@ps_ret _ _ _ _ pe_bl)) pss_nil) (@pss_cons _ _ _ _ _ (@ps_if _ _ _ _ _ _ _ _ (PW.pt (@pw_or _ _ _ _ _ _ _ (@pt_cmpR _ _ _ _ _ _ _ _ op_lt (@pe_callB _ _ _ _ _ _ _ _ _ call_len_seq (by rfl) T.z_len PySem.boot_len (@pa_cons _ _ _ _ _ (pv 1) pa_nil (by rfl)) (by decide) (by decide) (by rfl) (by rfl)) pe_int (nomark _)) (@pw_or _ _ _ _ _ _ _ (@pt_cmpR _ _ _ _ _ _ _ _ op_ne (@pe_ix _ _ _ _ _ _ _ ix_list (pv 1) pe_int (fun _ _ => rfl)) (pv 2) (nomark _)) (@pw_or _ _ _ _ _ _ _ (@pt_cmpR _ _ _ _ _ _ _ _ op_ne (@pe_ix _ _ _ _ _ _ _ ix_list (pv 1) (@pe_un _ _ _ _ _ _ un_neg pe_int) (fun _ _ => rfl)) (pv 3) (nomark _)) (@pw_or1 _ _ _ _ (@pt_cmpR _ _ _ _ _ _ _ _ op_ne (pe_lenset rfl (by rfl) T.z_len (by rfl) T.z_set (pv 1)) (@pe_callB _ _ _ _ _ _ _ _ _ call_len_seq (by rfl) T.z_len PySem.boot_len (@pa_cons _ _ _ _ _ (pv 1) pa_nil (by rfl)) (by decide) (by decide) (by rfl) (by rfl)) (nomark _))))))) (@pss_one _ _ _ (@ps_ret _ _ _ _ pe_bl)) pss_nil) (@pss_one _ _ _ (@ps_ret _ _ _ _ (@pe_cmpR _ _ _ _ _ _ _ _ op_eq (@pe_callB _ _ _ _ _ _ _ _ _ (call_min1 rfl) (by rfl) T.z_min PyProof.Rows.boot_min (@pa_cons _ _ _ _ _ (pe_comp (fsc := defScope s_law_way) (N := ["_law_leads_here", "_law_some", "_law_x", "_law_y", "_law_worth"]) (Nc := ["_law_leads_here", "_law_some", "_law_x", "_law_y", "_law_worth", "_law_k"]) rfl rfl ⟨rfl, by decide +kernel, by decide +kernel, rfl, by decide +kernel, rfl, by decide +kernel, rfl, by decide +kernel⟩ rfl (pi_range1 rfl T.z_range (@pa_cons _ _ _ _ _ (@pe_op _ _ _ _ _ _ _ _ op_sub (@pe_callB _ _ _ _ _ _ _ _ _ call_len_seq (by rfl) T.z_len PySem.boot_len (@pa_cons _ _ _ _ _ (pv 1) pa_nil (by rfl)) (by decide) (by decide) (by rfl) (by rfl)) pe_int) pa_nil (by rfl))) (fun _ _ _ _ => pif_nil) (fun _ _ _ _ => (@pe_ix _ _ _ _ _ _ _ (ix_listK K) (@pe_ix _ _ _ _ _ _ _ (ix_listK K) (pv 0) (@pe_ix _ _ _ _ _ _ _ (ix_listK K) (pv 1) (pv 5) (fun _ _ => rfl)) (fun _ _ => rfl)) (@pe_ix _ _ _ _ _ _ _ (ix_listK K) (pv 1) (@pe_op _ _ _ _ _ _ _ _ op_add (pv 5) pe_int) (fun _ _ => rfl)) (fun _ _ => rfl)))) pa_nil (by rfl)) (by decide) (by decide) (by rfl) (by rfl)) (pv 4) (nomark _)))))), ?_⟩
  refine ⟨_, rfl, _, _, _, _, rfl, TyOf.lst hw, kit_list_list, ?_⟩
  have wl : ws.length ≤ 12 := by
    have := nodup_len (xs := natz ws) (ys := ups h) (List.Pairwise.map _ (fun a b (ne : a ≠ b) e => ne (Int.ofNat.inj e)) iw.nd) fun z mz => by
      obtain ⟨u, mu, rfl⟩ := List.mem_map.mp mz
      exact List.mem_map.mpr ⟨u, List.mem_range.mpr (iw.all u mu), rfl⟩
    rw [natz_len, ups_len] at this
    omega
  have two := iw.two
  have ln := natz_len ws
  have al : (as.map V.ref).length = h := by rw [List.length_map, tb.1]
  and_intros
  refine ⟨⟨_, SqL.of hw⟩, ?_⟩
  refine comp_list (xs := (natz ws).map V.int) (by rw [List.length_map]; exact small63 (by omega)) (fun D j ys J => ys = (List.replicate j true).map V.bl ∧ J = upd H D (.lst ys)) (fun D hD => ⟨rfl, rfl⟩) (fun D j ys J ⟨f1, f2⟩ => ⟨by rw [f2]; exact upd_same, by rw [f1, List.length_map, List.length_replicate]; exact Nat.le_refl _⟩) (fun D j ys J hD ⟨_, f2⟩ => by rw [f2]; exact SqL.of (same_new hD _ _ _ hw)) ?_ ?_
  · rintro D j u ys J K1 K2 hD hx ⟨f1, rfl⟩ k1 k2
    obtain ⟨z, hz, rfl⟩ := int_at hx
    obtain ⟨n, mn, rfl⟩ := List.mem_map.mp (List.mem_of_getElem? hz)
    have nh := iw.all n mn
    have ha' := same_new hD (.lst ys) _ _ ha
    refine yes (ifT rfl ?_)
    refine ⟨_, rfl, (n : Int), rfl, ?_⟩
    and_intros
    refine ⟨V.ref a, h, rfl, .inl ⟨_, SqL.of ha', al.symm⟩, ?_⟩
    refine ⟨_, _, rfl, rfl, ?_⟩
    dsimp only
    rw [decide_eq_true (show (n : Int) < (h : Int) by omega)]
    refine k1 _ _ upd_same ⟨?_, by rw [upd_upd]⟩
    rw [f1, List.replicate_succ', List.map_append]
    rfl
  rintro D ys H1 hD ⟨rfl, rfl⟩
  have s1 := same_new hD (.lst ((List.replicate ((natz ws).map V.int).length true).map V.bl))
  have e1 : (upd H D (.lst ((List.replicate ((natz ws).map V.int).length true).map V.bl))) D = some (.lst ((List.replicate ((natz ws).map V.int).length true).map V.bl)) := upd_same
  generalize upd H D (.lst ((List.replicate ((natz ws).map V.int).length true).map V.bl)) = H1 at s1 e1 ⊢
  refine ⟨D, _, rfl, SqL.of e1, ?_⟩
  rw [show (List.replicate ((natz ws).map V.int).length true).all id = true from List.all_eq_true.mpr fun b m => (List.mem_replicate.mp m).2]
  have hw1 := s1 _ _ hw
  have at0 : atI ((natz ws).map V.int) 0 = some (.int (x : Int)) := by
    have := natz_at (ws := ws) (k := 0) (by omega)
    rw [show ws.getD 0 0 = x from by rw [List.getD_eq_getElem?_getD, ← List.head?_eq_getElem?, iw.first]; rfl] at this
    exact this
  and_intros
  refine ifF (decide_eq_false (by rw [List.length_map, ln]; omega)) ?_
  and_intros
  refine ⟨w, _, _, _, rfl, rfl, SqL.of hw1, at0, ?_⟩
  and_intros
  refine ifF (ne_f rfl) ?_
  and_intros
  refine ⟨w, _, _, _, rfl, rfl, SqL.of hw1, natz_last iw.last, ?_⟩
  and_intros
  refine ifF (ne_f rfl) ?_
  and_intros
  refine ⟨w, natz ws, rfl, SqL.of hw1, by omega, fun ms m1 m2 => ?_⟩
  have el : ms.length = (natz ws).length := Nat.le_antisymm (nodup_len m1 fun z mz => (m2 z).mp mz) (nodup_len (List.Pairwise.map _ (fun a b (ne : a ≠ b) e => ne (Int.ofNat.inj e)) iw.nd) fun z mz => (m2 z).mpr mz)
  and_intros
  refine ifF (ne_f (by rw [List.length_map, el])) ?_
  and_intros
  rw [List.length_map, ln]
  refine ⟨by omega, by omega, ?_⟩
  rw [show ((ws.length : Int) - 1).toNat = ws.length - 1 from by omega]
  refine comp_range (small63 (by omega)) (fun D2 i ys J => ys = ((List.range i).map fun k => L (ws.getD k 0) (ws.getD (k + 1) 0)).map V.int ∧ J = upd H1 D2 (.lst ys)) (fun D2 hD2 => ⟨rfl, rfl⟩) (fun D2 i ys J ⟨f1, f2⟩ => ⟨by rw [f2]; exact upd_same, by rw [f1, List.length_map, List.length_map, List.length_range]; exact Nat.le_refl _⟩) ?_ ?_
  · rintro D2 i ys J K1 K2 hD2 hi ⟨f1, rfl⟩ k1 k2
    have sD := s1.trans (same_new hD2 (.lst ys))
    have wi : ∀ k, k < ws.length → ws.getD k 0 < h := fun k hk => by
      rw [List.getD_eq_getElem?_getD, List.getElem?_eq_getElem hk]
      exact iw.all _ (List.getElem_mem hk)
    obtain ⟨ar, _, _, r3, r4⟩ := (tb.same sD).row (wi i (by omega))
    have ai : atI ((natz ws).map V.int) (0 + (i : Int)) = some (.int ((ws.getD i 0 : Nat) : Int)) := by rw [Int.zero_add]; exact natz_at (by omega)
    have ai1 : atI ((natz ws).map V.int) (0 + (i : Int) + 1) = some (.int ((ws.getD (i + 1) 0 : Nat) : Int)) := by rw [Int.zero_add]; exact natz_at (k := i + 1) (by omega)
    refine yes (ifT rfl ?_)
    refine ⟨_, rfl, _, rfl, _, rfl, w, _, _, _, rfl, rfl, SqL.of (sD _ _ hw), ai, ?_⟩
    refine ⟨a, _, _, _, rfl, rfl, SqL.of (sD _ _ ha), r3, ?_⟩
    refine ⟨_, rfl, _, rfl, _, _, rfl, rfl, w, _, _, _, rfl, rfl, SqL.of (sD _ _ hw), ai1, ?_⟩
    refine ⟨ar, _, _, _, rfl, rfl, SqL.of r4, row_cell (L (ws.getD i 0)) (wi (i + 1) (by omega)), ?_⟩
    refine k1 _ _ upd_same ⟨?_, by rw [upd_upd]⟩
    rw [f1, List.range_succ, List.map_append, List.map_append]
    rfl
  rintro D2 ys H2 hD2 ⟨rfl, rfl⟩
  have s2 := s1.trans (same_new hD2 (.lst ((lk L ws).map V.int)))
  refine ⟨D2, lk L ws, rfl, SqL.of upd_same, ?_, fun M Mm Ma => ?_⟩
  · unfold lk
    rw [List.length_map, List.length_range]
    omega
  and_intros
  show Q (.bl (decide (V.int M = V.int v))) _
  rw [eq_t (Int.le_antisymm (Ma v iw.least.1) (iw.least.2 M Mm))]
  exact q _ s2
theorem ok_law_cut (T : Tx K mg base ad) : FnOk P w K mg base CX0 2 ad.f_law_cut ad.d_law_cut ["_law_leads_here", "_law_cut_here", "_law_x", "_law_y", "_law_worth"] spLawCut := by
  refine T.F_law_cut.ok sc_law_cut (fun vs H Q E h => ?_) (fun cdv A outer s H vs Q E hr h => ?_)
  · obtain ⟨a, as, h, x, y, L, v, g, rfl, _⟩ := h
    rfl
  obtain ⟨a, as, h, x, y, L, v, g, rfl, ha, tb, h1, h12, hx, hy, gx, gy, gl, q⟩ := h
  refine ⟨_, (@pss_cons _ _ _ _ _ (@ps_set _ _ (5) _ _ _ _ sc_law_cut.nd rfl (Or.inl rfl) (@pe_callB _ _ _ _ _ _ _ _ _ call_len_seq (by rfl) T.z_len PySem.boot_len (@pa_cons _ _ _ _ _ (pv 0) pa_nil (by rfl)) (by decide) (by decide) (by rfl) (by rfl)) (by rfl) (by first | exact .inl rfl | exact .inr rfl | assumption)) (@pss_cons _ _ _ _ _ (@ps_if _ _ _ _ _ _ _ _ (PW.pt (@pw_or _ _ _ _ _ _ _ (@pt_not _ _ _ _ (@pt_val _ _ _ (@pe_call _ _ _ _ _ _ _ _ _ _ _ _ _ _ _ _ (ok_law_whole T) (hr.mono (by decide)) rfl T.m_law_whole T.F_law_whole.kp T.b_law_whole .nil pass0 (@pa_cons _ _ _ _ _ (pv 1) pa_nil (by rfl)) (by decide) (by rfl) (by rfl)) (by intro _; rfl))) (@pw_or _ _ _ _ _ _ _ (@pt_cmpR _ _ _ _ _ _ _ _ op_lt (pv 1) pe_int (nomark _)) (@pw_or1 _ _ _ _ (@pt_cmpR _ _ _ _ _ _ _ _ op_ge (pv 1) (@pe_op _ _ _ _ _ _ _ _ op_shl pe_int (pv 5)) (nomark _)))))) (@pss_one _ _ _ (@ps_ret _ _ _ _ pe_bl)) pss_nil) (@pss_cons _ _ _ _ _ (ps_setC (j := 6) (fsc := defScope s_law_cut) (N := ["_law_leads_here", "_law_cut_here", "_law_x", "_law_y", "_law_worth", "_law_hands", "_law_inner", "_law_one", "_law_other"]) (Nc := ["_law_leads_here", "_law_cut_here", "_law_x", "_law_y", "_law_worth", "_law_hands", "_law_inner", "_law_one", "_law_other", "_law_hand"]) rfl rfl ⟨rfl, by decide +kernel, by decide +kernel, rfl, by decide +kernel, rfl, by decide +kernel, rfl, by decide +kernel⟩ rfl sc_law_cut.nd rfl rfl (pi_range1 rfl T.z_range (@pa_cons _ _ _ _ _ (pv 5) pa_nil (by rfl))) (fun _ _ _ _ => (pif_one (@pt_cmpR _ _ _ _ _ _ _ _ op_eq (@pe_op _ _ _ _ _ _ _ _ op_modN (@pe_op _ _ _ _ _ _ _ _ op_fdivB (pv 1) (@pe_op _ _ _ _ _ _ _ _ op_shl pe_int (pv 9))) pe_int) pe_int (nomark _)))) (fun _ _ _ _ => (pv 9)) rfl) (@pss_cons _ _ _ _ _ (@ps_if _ _ _ _ _ _ _ _ (PW.pt (@pw_or _ _ _ _ _ _ _ (@pt_cmpR _ _ _ _ _ _ _ _ op_notIn_seq (pv 2) (pv 6) (by with_unfolding_all rfl)) (@pw_or1 _ _ _ _ (@pt_cmpR _ _ _ _ _ _ _ _ op_in_seq (pv 3) (pv 6) (by with_unfolding_all rfl))))) (@pss_one _ _ _ (@ps_ret _ _ _ _ pe_bl)) pss_nil) (@pss_cons _ _ _ _ _ (ps_for PassesOwn.never rfl (pi_list (pv 6)) (pg_name (i := 7) sc_law_cut.nd rfl (Or.inl rfl)) (@pss_one _ _ _ (ps_for PassesOwn.never rfl (pi_range1 rfl T.z_range (@pa_cons _ _ _ _ _ (pv 5) pa_nil (by rfl))) (pg_name (i := 8) sc_law_cut.nd rfl (Or.inl rfl)) (@pss_one _ _ _ (@ps_if _ _ _ _ _ _ _ _ (PW.pt (@pw_and _ _ _ _ _ _ _ (@pt_cmpR _ _ _ _ _ _ _ _ op_notIn_seq (pv 8) (pv 6) (by with_unfolding_all rfl)) (@pw_and1 _ _ _ _ (@pt_cmpR _ _ _ _ _ _ _ _ op_gt (@pe_ix _ _ _ _ _ _ _ ix_list (@pe_ix _ _ _ _ _ _ _ ix_list (pv 0) (pv 7) (fun _ _ => rfl)) (pv 8) (fun _ _ => rfl)) (pv 4) (nomark _))))) (@pss_one _ _ _ (@ps_ret _ _ _ _ pe_bl)) pss_nil))))) (@pss_one _ _ _ (@ps_ret _ _ _ _ pe_bl))))))), ?_⟩
  have al : (as.map V.ref).length = h := by rw [List.length_map, tb.1]
  have m0 := msum_nonneg h g
  have m1 := msum_lt h g
  and_intros
  rw [al]
  and_intros
  refine ifF (decide_eq_false (by omega)) ?_
  and_intros
  refine ⟨(by exact pow_small (by omega)), ?_⟩
  and_intros
  refine ifF (decide_eq_false ?_) ?_
  · rw [Int.toNat_natCast]; omega
  and_intros
  refine ⟨by omega, by omega, ?_⟩
  rw [Int.toNat_natCast]
  refine comp_range (small63 (by omega)) (fun D i ys J => ys = (hands i (bit (msum h g))).map V.int ∧ J = upd H D (.lst ys)) (fun D hD => ⟨rfl, rfl⟩) (fun D i ys J ⟨f1, f2⟩ => ⟨by rw [f2]; exact upd_same, by rw [f1, List.length_map]; exact hands_len _ _⟩) ?_ ?_
  · rintro D i ys J K1 K2 hD hi ⟨f1, rfl⟩ k1 k2
    have e0 : (0 : Int) + (i : Int) = (i : Int) := Int.zero_add _
    have ms := hands_succ i (bit (msum h g))
    have p2 : (0 : Int) < 2 ^ i := Int.pow_pos (by decide)
    have p3 : (2 : Int) ^ i ≤ 4096 := by
      have a : (2 : Nat) ^ i ≤ 2 ^ 12 := Nat.pow_le_pow_right (by decide) (by omega)
      have e : ((2 ^ i : Nat) : Int) = (2 : Int) ^ i := by simp
      omega
    rw [e0]
    and_intros
    refine ⟨pow_small (by omega), ?_⟩
    refine ⟨_, _, rfl, rfl, ⟨(by show (1 : Int) * 2 ^ (i : Int).toNat ≠ 0; rw [Int.toNat_natCast]; omega), (show Sz 64 ((1 : Int) * 2 ^ (i : Int).toNat) by rw [Int.toNat_natCast]; exact sz_of (by omega) (by omega)).mono (by decide)⟩, ?_⟩
    dsimp only
    rw [Int.toNat_natCast]
    and_intros
    rw [bit_by]
    cases e : bit (msum h g) i with
    | true =>
      refine ifT rfl ?_
      rw [e, if_pos rfl] at ms
      refine ⟨_, rfl, ?_⟩
      refine k1 _ _ upd_same ⟨?_, by rw [upd_upd]⟩
      rw [ms, List.map_append, f1]
      rfl
    | false =>
      refine ifF rfl ?_
      rw [e, if_neg (by decide)] at ms
      exact k2 _ ⟨by rw [ms]; exact f1, rfl⟩
  rintro D ys H1 hD ⟨rfl, rfl⟩
  have s1 := same_new hD (.lst ((hands h (bit (msum h g))).map V.int))
  have e1 : (upd H D (.lst ((hands h (bit (msum h g))).map V.int))) D = some (.lst ((hands h (bit (msum h g))).map V.int)) := upd_same
  generalize upd H D (.lst ((hands h (bit (msum h g))).map V.int)) = H1 at s1 e1 ⊢
  have mem : ∀ i : Nat, i < h → ((i : Int) ∈ hands h (bit (msum h g)) ↔ g i = true) := fun i hi => by
    rw [hands_mem]
    refine ⟨fun ⟨j, hj, b, e⟩ => ?_, fun b => ⟨i, hi, by rw [bit_msum, decide_eq_true hi, b]; rfl, rfl⟩⟩
    rw [Int.ofNat.inj e]
    rw [bit_msum, decide_eq_true hj, Bool.true_and] at b
    exact b
  have sub : ∀ z ∈ hands h (bit (msum h g)), ∃ i : Nat, i < h ∧ g i = true ∧ z = (i : Int) := fun z m => by
    obtain ⟨j, hj, b, e⟩ := hands_mem.mp m
    rw [bit_msum, decide_eq_true hj, Bool.true_and] at b
    exact ⟨j, hj, b, e⟩
  have xin := (mem x hx).mpr gx
  have yout : (y : Int) ∉ hands h (bit (msum h g)) := fun m => by rw [(mem y hy).mp m] at gy; cases gy
  have zl := hands_len h (bit (msum h g))
  generalize hands h (bit (msum h g)) = zs at e1 mem sub xin yout zl ⊢
  and_intros
  refine ⟨all_flat _, ?_⟩
  rw [nin_no xin]
  and_intros
  refine ⟨all_flat _, ?_⟩
  rw [in_no yout]
  and_intros
  refine ⟨⟨_, SqL.of e1⟩, for_list (xs := zs.map V.int) (fun i σ' H' => ∃ v7 v8 : Option V, σ' = [some (.ref a), some (.int (msum h g)), some (.int (x : Int)), some (.int (y : Int)), some (.int v), some (.int (h : Int)), some (.ref D), v7, v8] ∧ H1 = H') ⟨none, none, rfl, rfl⟩ (fun i σ' H' _ ⟨_, _, _, e⟩ => by rw [← e]; exact SqL.of e1) ?_ ?_⟩
  · rintro k u σ' H' hu ⟨v7, v8, rfl, rfl⟩
    obtain ⟨z, hz, rfl⟩ := int_at hu
    obtain ⟨i, hi, gi, rfl⟩ := sub z (List.mem_of_getElem? hz)
    obtain ⟨ar, _, _, r3, r4⟩ := (tb.same s1).row hi
    and_intros
    refine ⟨by omega, by omega, for_range (fun j σ' H' => ∃ v8 : Option V, σ' = [some (.ref a), some (.int (msum h g)), some (.int (x : Int)), some (.int (y : Int)), some (.int v), some (.int (h : Int)), some (.ref D), some (.int (i : Int)), v8] ∧ H1 = H') ⟨_, rfl, rfl⟩ ?_ ?_⟩
    · rintro j σ' H' hj ⟨v8, rfl, rfl⟩
      have ej : (0 : Int) + (j : Int) = (j : Int) := Int.zero_add _
      have hj' : j < h := by omega
      and_intros
      refine ⟨all_flat _, ?_⟩
      rw [ej]
      cases gj : g j with
      | true =>
        rw [nin_no ((mem j hj').mpr gj)]
        and_intros
        exact rfl
      | false =>
        rw [nin_yes fun m => by rw [(mem j hj').mp m] at gj; cases gj]
        and_intros
        refine ⟨a, _, _, _, rfl, rfl, SqL.of (s1 _ _ ha), r3, ?_⟩
        refine ⟨_, rfl, ar, _, _, _, rfl, rfl, SqL.of r4, row_cell (L i) hj', ?_⟩
        and_intros
        refine ifF (decide_eq_false (by have := gl i j hi hj' gi gj; omega)) ?_
        exact ⟨_, rfl, rfl⟩
    · rintro σ' H' ⟨v8, rfl, rfl⟩
      exact ⟨_, _, rfl, rfl⟩
  · rintro σ' H' ⟨v7, v8, rfl, rfl⟩
    and_intros
    exact q _ s1
theorem ok_law_leads (T : Tx K mg base ad) : FnOk P w K mg base CX0 2 ad.f_law_leads ad.d_law_leads ["_law_script", "_law_hands", "_law_wide"] (spLawLeads K) := by
  refine T.F_law_leads.ok sc_law_leads (fun vs H Q E h => ?_) (fun cdv A outer s H vs Q E hr h => ?_)
  · obtain ⟨p, ns, h, wd, rfl, _⟩ := h
    rfl
  obtain ⟨p, ns, h, wd, rfl, hS, h63, h1, h12, q⟩ := h
  refine ⟨_, (@pss_cons _ _ _ _ _ (ps_setC (j := 3) (fsc := defScope s_law_leads) (N := ["_law_script", "_law_hands", "_law_wide", "_law_leads_here", "_law_at", "_law_x", "_law_y", "_law_number", "_law_lead"]) (Nc := ["_law_script", "_law_hands", "_law_wide", "_law_leads_here", "_law_at", ".s5", "_law_y", "_law_number", "_law_lead", "_law_x"]) rfl rfl ⟨rfl, by decide +kernel, by decide +kernel, rfl, by decide +kernel, rfl, by decide +kernel, rfl, by decide +kernel⟩ rfl sc_law_leads.nd rfl rfl (pi_range1 rfl T.z_range (@pa_cons _ _ _ _ _ (pv 1) pa_nil (by rfl))) (fun _ _ _ _ => pif_nil) (fun _ _ _ _ => (@pe_op _ _ _ _ _ _ _ _ op_rep (@pe_lst _ _ _ _ (@pa_cons _ _ _ _ _ pe_int pa_nil (by rfl))) (pv 1))) rfl) (@pss_cons _ _ _ _ _ (@ps_set _ _ (4) _ _ _ _ sc_law_leads.nd rfl (Or.inl rfl) pe_int (by rfl) (by first | exact .inl rfl | exact .inr rfl | assumption)) (@pss_cons _ _ _ _ _ (ps_for PassesOwn.never rfl (pi_range1 rfl T.z_range (@pa_cons _ _ _ _ _ (pv 1) pa_nil (by rfl))) (pg_name (i := 5) sc_law_leads.nd rfl (Or.inl rfl)) (@pss_one _ _ _ (ps_for PassesOwn.never rfl (pi_range1 rfl T.z_range (@pa_cons _ _ _ _ _ (pv 5) pa_nil (by rfl))) (pg_name (i := 6) sc_law_leads.nd rfl (Or.inl rfl)) (@pss_cons _ _ _ _ _ (@ps_set _ _ (7) _ _ _ _ sc_law_leads.nd rfl (Or.inl rfl) (@pe_call _ _ _ _ _ _ _ _ _ _ _ _ _ _ _ _ (ok_law_mixed T) (hr.mono (by decide)) rfl T.m_law_mixed T.F_law_mixed.kp T.b_law_mixed .nil pass0 (@pa_cons _ _ _ _ _ (@pe_call _ _ _ _ _ _ _ _ _ _ _ _ _ _ _ _ (ok_law_cell T) (hr.mono (by decide)) rfl T.m_law_cell T.F_law_cell.kp T.b_law_cell .nil pass0 (@pa_cons _ _ _ _ _ (pv 0) (@pa_cons _ _ _ _ _ (@pe_op _ _ _ _ _ _ _ _ op_add pe_int (@pe_op _ _ _ _ _ _ _ _ op_modN (pv 4) pe_int)) pa_nil (by rfl)) (by rfl)) (by decide) (by rfl) (by rfl)) (@pa_cons _ _ _ _ _ (pv 4) pa_nil (by rfl)) (by rfl)) (by decide) (by rfl) (by rfl)) (by rfl) (by first | exact .inl rfl | exact .inr rfl | assumption)) (@pss_cons _ _ _ _ _ (@ps_set _ _ (8) _ _ _ _ sc_law_leads.nd rfl (Or.inl rfl) (@pe_op _ _ _ _ _ _ _ _ op_sub (@pe_op _ _ _ _ _ _ _ _ op_modN (pv 7) pe_int) pe_int) (by rfl) (by first | exact .inl rfl | exact .inr rfl | assumption)) (@pss_cons _ _ _ _ _ (@ps_ifJ _ _ _ _ _ _ _ _ (@pt_cmpR _ _ _ _ _ _ _ _ op_eq (pv 2) pe_int (nomark _)) (@pss_one _ _ _ (@ps_set _ _ (8) _ _ _ _ sc_law_leads.nd rfl (Or.inl rfl) (@pe_op _ _ _ _ _ _ _ _ op_sub (@pe_op _ _ _ _ _ _ _ _ op_modN (@pe_op _ _ _ _ _ _ _ _ op_mulB (@pe_op _ _ _ _ _ _ _ _ op_mulB (@pe_op _ _ _ _ _ _ _ _ op_mulB (pv 7) (pv 7)) (pv 7)) (pv 7)) (@pe_op _ _ _ _ _ _ _ _ op_mulB pe_int (@pe_op _ _ _ _ _ _ _ _ op_pow pe_int pe_int))) (@pe_op _ _ _ _ _ _ _ _ op_pow pe_int pe_int)) (by rfl) (by first | exact .inl rfl | exact .inr rfl | assumption))) pss_nil) (@pss_cons _ _ _ _ _ (@ps_ifJ _ _ _ _ _ _ _ _ (PW.pt (@pw_and _ _ _ _ _ _ _ (@pt_cmpR _ _ _ _ _ _ _ _ op_eq (pv 2) pe_int (nomark _)) (@pw_and1 _ _ _ _ (@pt_cmpR _ _ _ _ _ _ _ _ op_eq (@pe_op _ _ _ _ _ _ _ _ op_modN (pv 7) pe_int) pe_int (nomark _))))) (@pss_one _ _ _ (@ps_set _ _ (8) _ _ _ _ sc_law_leads.nd rfl (Or.inl rfl) (@pe_op _ _ _ _ _ _ _ _ op_sub (@pe_op _ _ _ _ _ _ _ _ op_modN (@pe_op _ _ _ _ _ _ _ _ op_fdivB (pv 7) pe_int) pe_int) pe_int) (by rfl) (by first | exact .inl rfl | exact .inr rfl | assumption))) pss_nil) (@pss_cons _ _ _ _ _ (ps_asg (pv 8) (pg_sub (@pe_ix _ _ _ _ _ _ _ ix_list (pv 3) (pv 5) (fun _ _ => rfl)) (pv 6) set_list)) (@pss_cons _ _ _ _ _ (ps_asg (@pe_un _ _ _ _ _ _ un_neg (pv 8)) (pg_sub (@pe_ix _ _ _ _ _ _ _ ix_list (pv 3) (pv 6) (fun _ _ => rfl)) (pv 5) set_list)) (@pss_one _ _ _ (@ps_set _ _ (4) _ _ _ _ sc_law_leads.nd rfl (Or.inl rfl) (@pe_op _ _ _ _ _ _ _ _ op_add (pv 4) pe_int) (by rfl) (by first | exact .inl rfl | exact .inr rfl | assumption)))))))))))) (@pss_one _ _ _ (@ps_ret _ _ _ _ (pv 3)))))), ?_⟩
  and_intros
  refine ⟨by omega, by omega, ?_⟩
  rw [Int.toNat_natCast]
  refine comp_range (small63 (by omega)) (fun D i ys J => ∃ as : List Addr, ys = as.map V.ref ∧ as.length = i ∧ as.Nodup ∧ J D = some (.lst ys) ∧ Same H J ∧ D ∉ as ∧ ∀ a ∈ as, H a = none ∧ J a = some (.lst (((List.range h).map fun _ => (0 : Int)).map V.int))) (fun D hD => ⟨[], rfl, rfl, List.nodup_nil, upd_same, same_new hD _, (fun m => nomatch m), fun _ m => nomatch m⟩) (fun D i ys J ⟨as, f1, f2, _, f3, _⟩ => ⟨f3, by rw [f1, List.length_map, f2]; exact Nat.le_refl _⟩) ?_ ?_
  · rintro D i ys J K1 K2 hD hi ⟨as, rfl, f2, f3, f4, f5, f6, f7⟩ k1 k2
    refine yes (ifT rfl ?_)
    refine ⟨(by show 1 ≤ sizeLine; decide), fun o ho => ?_⟩
    have so := same_new ho (.lst [V.int 0])
    have eo : (upd J o (.lst [V.int 0])) o = some (.lst [V.int 0]) := upd_same
    generalize upd J o (.lst [V.int 0]) = J0 at so eo ⊢
    refine ⟨_, rfl, o, _, _, rfl, rfl, eo, by omega, by omega, (by show 1 * _ ≤ sizeLine; rw [Nat.one_mul]; exact Nat.le_of_lt (small1000 (by omega))), fun D2 hD2 => ?_⟩
    rw [Int.toNat_natCast, flat0]
    have f4 := so _ _ f4
    have f5 := f5.trans so
    have f7 : ∀ a ∈ as, H a = none ∧ J0 a = some (.lst (((List.range h).map fun _ => (0 : Int)).map V.int)) := fun a m => ⟨(f7 a m).1, so _ _ (f7 a m).2⟩
    have sD := same_new hD2 (.lst (((List.range h).map fun _ => (0 : Int)).map V.int))
    have eD : (upd J0 D2 (.lst (((List.range h).map fun _ => (0 : Int)).map V.int))) D2 = some (.lst (((List.range h).map fun _ => (0 : Int)).map V.int)) := upd_same
    have dd : D2 ≠ D := fun z => by rw [z, f4] at hD2; cases hD2
    have na : D2 ∉ as := fun m => by rw [(f7 D2 m).2] at hD2; cases hD2
    generalize upd J0 D2 (.lst (((List.range h).map fun _ => (0 : Int)).map V.int)) = J5 at sD eD ⊢
    refine k1 _ _ (sD _ _ f4) ⟨as ++ [D2], by rw [List.map_append]; rfl, by rw [List.length_append, f2]; rfl, List.nodup_append.mpr ⟨f3, by simp, fun a ma b mb e => na (by rw [← List.mem_singleton.mp mb, ← e]; exact ma)⟩, upd_same, same_upd (f5.trans sD) hD, fun m => ?_, fun a m => ?_⟩
    · rcases List.mem_append.mp m with m | m
      · exact f6 m
      · exact dd (List.mem_singleton.mp m).symm
    · rcases List.mem_append.mp m with m | m
      · exact ⟨(f7 a m).1, by rw [upd_ne (fun z => f6 (by rw [← z]; exact m))]; exact sD _ _ (f7 a m).2⟩
      · rw [List.mem_singleton.mp m]
        exact ⟨none_of f5 hD2, by rw [upd_ne dd]; exact eD⟩
  rintro D ys H1 hD ⟨as, rfl, f2, f3, f4, f5, f6, f7⟩
  have tb0 : TabF H1 as h (fun _ _ => 0) := ⟨f2, f3, fun x a ha => (f7 a (List.mem_of_getElem? ha)).2⟩
  have nw : ∀ a ∈ as, H a = none := fun a m => (f7 a m).1
  clear f7 f3 f2
  and_intros
  refine ⟨by omega, by omega, for_range (fun i σ' H' => ∃ (v5 v6 v7 v8 : Option V) (at' : Int) (F : Nat → Nat → Int), σ' = [some (.ref p), some (.int (h : Int)), some (.int wd), some (.ref D), some (.int at'), v5, v6, v7, v8] ∧ 1 ≤ at' ∧ at' ≤ 1 + 12 * (i : Int) ∧ Keep as H1 H' ∧ TabF H' as h F ∧ ∀ x, F x x = 0) ⟨none, none, none, none, 1, fun _ _ => 0, rfl, by omega, by omega, Keep.of (fun _ _ e => e), tb0, fun _ => rfl⟩ ?_ ?_⟩
  · rintro x σ' H' hx ⟨v5, v6, v7, v8, at', F, rfl, a1, a2, k1, tb, fz⟩
    have ex : (0 : Int) + (x : Int) = (x : Int) := Int.zero_add _
    have hx' : x < h := by omega
    and_intros
    refine ⟨by omega, by omega, for_range (fun i σ' H' => ∃ (v6 v7 v8 : Option V) (at' : Int) (F : Nat → Nat → Int), σ' = [some (.ref p), some (.int (h : Int)), some (.int wd), some (.ref D), some (.int at'), some (.int (0 + (x : Int))), v6, v7, v8] ∧ 1 ≤ at' ∧ at' ≤ 1 + 12 * (x : Int) + (i : Int) ∧ Keep as H1 H' ∧ TabF H' as h F ∧ ∀ x, F x x = 0) ⟨_, _, _, at', F, rfl, a1, by omega, k1, tb, fz⟩ ?_ ?_⟩
    · rintro y σ' H2 hy ⟨w6, w7, w8, at2, F2, rfl, b1, b2, k2, tb2, fz2⟩
      have ey : (0 : Int) + (y : Int) = (y : Int) := Int.zero_add _
      have hy' : y < x := by omega
      have m59 := fmod_in at2 (show (0 : Int) < 59 by decide)
      and_intros
      have sH := k2.same f5 nw
      refine ⟨p, ns, _, rfl, sH.seq hS, h63, by omega, by omega, fun c c0 c1 => ?_⟩
      and_intros
      refine ⟨c, at2, rfl, sz40 c0 c1, sz_of (by omega) (by omega), fun z z0 z1 => ?_⟩
      have szz := sz18 z0 z1
      and_intros
      refine ⟨fun σ' H' => ∃ v : Int, σ' = [some (.ref p), some (.int (h : Int)), some (.int wd), some (.ref D), some (.int at2), some (.int (0 + (x : Int))), some (.int (0 + (y : Int))), some (.int z), some (.int v)] ∧ H2 = H', ?_, ?_⟩
      · and_intros
        refine ite2 (fun _ => ?_) (fun _ => ?_)
        · and_intros
          exact rfl
        · exact ⟨_, rfl, rfl⟩
      rintro σ' H' ⟨v1, rfl, rfl⟩
      refine ⟨fun σ' H' => ∃ v : Int, σ' = [some (.ref p), some (.int (h : Int)), some (.int wd), some (.ref D), some (.int at2), some (.int (0 + (x : Int))), some (.int (0 + (y : Int))), some (.int z), some (.int v)] ∧ H2 = H', ?_, ?_⟩
      · and_intros
        refine ite2 (fun _ => ?_) (fun _ => ?_)
        · and_intros
          refine ite2 (fun _ => ?_) (fun _ => ?_)
          · and_intros
            exact rfl
          · exact ⟨_, rfl, rfl⟩
        · exact ifF rfl ⟨_, rfl, rfl⟩
      rintro σ' H' ⟨v, rfl, rfl⟩
      obtain ⟨ax, r1, r2, r3, r4⟩ := tb2.row hx'
      have eD := k2 _ _ f6 f4
      and_intros
      refine ⟨D, _, _, _, rfl, rfl, SqL.of eD, (by rw [ex]; exact r3), ?_⟩
      and_intros
      refine ⟨ax, _, _, y, rfl, rfl, r4, (by rw [ey]; exact ixN_nat (by rw [List.length_map, List.length_map, List.length_range]; omega)), ?_⟩
      have tb3 := tb2.setv (y := y) r1 v
      have k3 : Keep as H1 (upd H2 ax (.lst ((((List.range h).map fun y => F2 x y).map V.int).set y (.int v)))) := k2.put r2
      generalize upd H2 ax (.lst ((((List.range h).map fun y => F2 x y).map V.int).set y (.int v))) = H3 at tb3 k3 ⊢
      obtain ⟨ay, t1, t2, t3, t4⟩ := tb3.row (show y < h by omega)
      have eD3 := k3 _ _ f6 f4
      and_intros
      refine ⟨D, _, _, _, rfl, rfl, SqL.of eD3, (by rw [ey]; exact t3), ?_⟩
      and_intros
      refine ⟨ay, _, _, x, rfl, rfl, t4, (by rw [ex]; exact ixN_nat (by rw [List.length_map, List.length_map, List.length_range]; omega)), ?_⟩
      have tb4 := tb3.setv (y := x) t1 (-v)
      have k4 := k3.put (o := .lst ((((List.range h).map fun y' => putF F2 x y (v - F2 x y) y y').map V.int).set x (.int (-v)))) t2
      and_intros
      refine ⟨_, _, _, _, _, rfl, by omega, by push_cast; omega, k4, tb4, fun u => ?_⟩
      unfold putF
      rw [if_neg (show ¬ (u = x ∧ u = y) by omega), if_neg (show ¬ (u = y ∧ u = x) by omega), fz2]
      rfl
    · rintro σ' H2 ⟨w6, w7, w8, at2, F2, rfl, b1, b2, k2, tb2, fz2⟩
      exact ⟨_, _, _, _, at2, F2, rfl, b1, by omega, k2, tb2, fz2⟩
  · rintro σ' H' ⟨v5, v6, v7, v8, at', F, rfl, a1, a2, k1, tb, fz⟩
    exact ⟨_, rfl, q D as F H' hD (k1.same f5 nw) (k1 _ _ f6 f4) tb fun x _ => fz x⟩
theorem ok_strength (T : Tx K mg base ad) : FnOk P w K mg base CX0 3 ad.f_strength ad.d_strength ["leads"] (spStrength ad.lP) := by
  refine T.F_strength.ok sc_strength (fun vs H Q E h => ?_) (fun cdv A outer s H vs Q E hr h => ?_)
  · obtain ⟨a, as, h, L, rfl, _⟩ := h
    rfl
  obtain ⟨a, as, h, L, rfl, ha, tb, h1, h12, lt, q⟩ := h
  refine ⟨_, (@pss_one _ _ _ (@ps_ret _ _ _ _ (pe_comp (fsc := defScope s_strength) (N := ["leads"]) (Nc := ["leads", "x"]) rfl rfl ⟨rfl, by decide +kernel, by decide +kernel, rfl, by decide +kernel, rfl, by decide +kernel, rfl, by decide +kernel⟩ rfl (pi_list (@pe_call _ _ _ _ _ _ _ _ _ _ _ _ _ _ _ _ (ok_hands_of T) (hr.mono (by decide)) rfl T.m_hands_of T.F_hands_of.kp T.b_hands_of .nil pass0 (@pa_cons _ _ _ _ _ (pv 0) pa_nil (by rfl)) (by decide) (by rfl) (by rfl))) (fun _ _ _ _ => pif_nil) (fun _ _ _ _ => (@pe_ix _ _ _ _ _ _ _ (ix_tupK K) (@pe_call _ _ _ _ _ _ _ _ _ _ _ _ _ _ _ _ (ok_reached_from T) (hr.mono (by decide)) rfl T.m_reached_from T.F_reached_from.kp T.b_reached_from .nil pass0 (@pa_cons _ _ _ _ _ (pv 0) (@pa_cons _ _ _ _ _ (pv 1) pa_nil (by rfl)) (by rfl)) (by decide) (by rfl) (by rfl)) pe_int (fun _ _ => rfl)))))), ?_⟩
  and_intros
  refine ⟨a, tbOf as h L, h, rfl, (by rw [tb.vtb]; exact ha), tb.good.1, h12, fun l0 H1 hl0 s1 e1 => ?_⟩
  have lt1 := lt.same s1
  and_intros
  refine ⟨⟨_, SqL.of e1⟩, ?_⟩
  refine comp_list (xs := (ups h).map V.int) (by rw [List.length_map, ups_len]; exact small63 (by omega)) (fun D i ys J => ∃ us : Us, ys = us.map (fun r => V.ref r.1) ∧ us.length = i ∧ (us.map (·.1)).Nodup ∧ J D = some (.lst ys) ∧ Sm H1 J ∧ (LamQ ad.lP h H1 → Same H1 J) ∧ LT ad.lP J ∧ (0 < i → LamQ ad.lP h J) ∧ D ∉ us.map (·.1) ∧ ∀ k r, us[k]? = some r → H1 r.1 = none ∧ J r.1 = some (.lst (r.2.map V.int)) ∧ ∃ bf, Reach h k L r.2 bf)
    (fun D hD => ⟨[], rfl, rfl, List.nodup_nil, upd_same, Sm.of (same_new hD _), (fun _ => same_new hD _), lt1.same (same_new hD _), (fun z => absurd z (Nat.lt_irrefl 0)), (fun m => nomatch m), fun k r e => by cases e⟩) (fun D i ys J ⟨us, f1, f2, _, f3, _⟩ => ⟨f3, by rw [f1, List.length_map, f2]; exact Nat.le_refl _⟩) (fun D i ys J hD ⟨_, _, _, _, _, f5, _⟩ => SqL.of (f5.lst e1)) ?_ ?_
  · rintro D i w ys J K1 K2 hD hw ⟨us, rfl, f2, f3, f4, f5, f6, f7, f8, f9, f10⟩ k1 k2
    obtain ⟨z, hz, rfl⟩ := int_at hw
    obtain ⟨rfl, hi⟩ := ups_at hz
    refine yes (ifT rfl ?_)
    and_intros
    refine ⟨a, as, h, i, L, rfl, f5.lst (s1 _ _ ha), (tb.same s1).sm f5, hi, h12, f7, fun t b f be bf H' sm sq lq ht hb hf bfn et eb ef re => ?_⟩
    refine ⟨t, _, _, _, rfl, rfl, SqT.of et, rfl, ?_⟩
    have eD : H' D = some (.lst (us.map fun r => V.ref r.1)) := sm.lst f4
    have bD : b ≠ D := fun z => by rw [z, f4] at hb; cases hb
    have nb : b ∉ us.map (·.1) := fun m => by
      obtain ⟨r, mr, e⟩ := List.mem_map.mp m
      obtain ⟨k, hk⟩ := List.getElem?_of_mem mr
      have := (f10 k r hk).2.1
      rw [e, hb] at this
      cases this
    refine k1 _ _ eD ⟨us ++ [(b, be)], by rw [List.map_append]; rfl, by rw [List.length_append, f2]; rfl, ?_, upd_same, (f5.trans sm).put hD, (fun z => same_upd ((f6 z).trans (sq (z.same (f6 z)))) hD), LamT.put lq.1 eD, (fun _ => ⟨LamT.put lq.1 eD, lq.2.imp id fun z => Lam1.put z eD⟩), fun m => ?_, fun k r e => ?_⟩
    · rw [List.map_append]
      exact List.nodup_append.mpr ⟨f3, by simp, fun x mx y my e => nb (by rw [← show y = b from List.mem_singleton.mp my, ← e]; exact mx)⟩
    · rw [List.map_append] at m
      rcases List.mem_append.mp m with m | m
      · exact f9 m
      · exact bD (List.mem_singleton.mp m).symm
    · by_cases c : k < us.length
      · rw [List.getElem?_append_left c] at e
        obtain ⟨n1, n2, n3⟩ := f10 k r e
        exact ⟨n1, by rw [upd_ne (fun z => f9 (by rw [← z]; exact List.mem_map_of_mem (List.mem_of_getElem? e)))]; exact sm.lst n2, n3⟩
      · rw [List.getElem?_append_right (by omega)] at e
        have ek : k = i := by
          have := (List.getElem?_eq_some_iff.mp e).1
          rw [List.length_singleton] at this
          omega
        rw [ek, f2, Nat.sub_self] at e
        cases Option.some.inj e
        exact ⟨f5.gone b hb, by rw [upd_ne bD]; exact eb, bf, by rw [ek]; exact re⟩
  rintro D ys H2 hD ⟨us, rfl, f2, f3, f4, f5, f6, f7, f8, f9, f10⟩
  rw [List.length_map, ups_len] at f2 f8
  refine q D (us.map (·.1)) (fU us) H2 ((Sm.of s1).trans f5) (fun z => s1.trans (f6 (z.same s1))) (f8 h1) (none_of s1 hD) f9 (fun c m => ?_) (by rw [f4, List.map_map]; rfl) ⟨by rw [List.length_map, f2], f3, fun x c hc => ?_⟩ fun x hx => ?_
  · obtain ⟨r, mr, e⟩ := List.mem_map.mp m
    obtain ⟨k, hk⟩ := List.getElem?_of_mem mr
    rw [← e]
    exact none_of s1 (f10 k r hk).1
  · rw [List.getElem?_map] at hc
    obtain ⟨r, hr0, rfl⟩ := Option.map_eq_some_iff.mp hc
    obtain ⟨_, n2, bf, re⟩ := f10 x r hr0
    rw [fU_row hr0 re.lenb]
    exact n2
  · obtain ⟨r, hr0⟩ : ∃ r, us[x]? = some r := ⟨_, List.getElem?_eq_getElem (by omega)⟩
    obtain ⟨_, _, bf, re⟩ := f10 x r hr0
    exact ⟨bf, by rw [fU_row hr0 re.lenb]; exact re⟩
theorem ok_way_between (T : Tx K mg base ad) : FnOk P w K mg base CX0 3 ad.f_way_between ad.d_way_between ["leads", "x", "y"] (spWayB ad.lP) := by
  refine T.F_way_between.ok sc_way_between (fun vs H Q E h => ?_) (fun cdv A outer s H vs Q E hr h => ?_)
  · obtain ⟨a, as, h, x, y, L, rfl, _⟩ := h
    rfl
  obtain ⟨a, as, h, x, y, L, rfl, ha, tb, hx, hy, yx, h12, lq, q⟩ := h
  refine ⟨_, (@pss_one _ _ _ (@ps_ret _ _ _ _ (@pe_call _ _ _ _ _ _ _ _ _ _ _ _ _ _ _ _ (ok_way_by T) (hr.mono (by decide)) rfl T.m_way_by T.F_way_by.kp T.b_way_by .nil pass0 (@pa_cons _ _ _ _ _ (@pe_call _ _ _ _ _ _ _ _ _ _ _ _ _ _ _ _ (ok_reached_from T) (hr.mono (by decide)) rfl T.m_reached_from T.F_reached_from.kp T.b_reached_from .nil pass0 (@pa_cons _ _ _ _ _ (pv 0) (@pa_cons _ _ _ _ _ (pv 1) pa_nil (by rfl)) (by rfl)) (by decide) (by rfl) (by rfl)) (@pa_cons _ _ _ _ _ (pv 1) (@pa_cons _ _ _ _ _ (pv 2) pa_nil (by rfl)) (by rfl)) (by rfl)) (by decide) (by rfl) (by rfl)))), ?_⟩
  and_intros
  refine ⟨a, as, h, x, L, rfl, ha, tb, hx, h12, lq.1, fun t b f be bf H' sm sq lq' ht hb hf bfn et eb ef re => ?_⟩
  have s1 := sq lq
  and_intros
  exact ⟨t, h, x, y, L, be, rfl, ⟨b, f, bf, et, eb, ef, re⟩, hy, yx, h12, fun r ws H2 hr s2 e2 iw => q r ws be bf H2 (none_of s1 hr) (s1.trans s2) e2 re iw⟩
theorem ok_cut_between (T : Tx K mg base ad) : FnOk P w K mg base CX0 3 ad.f_cut_between ad.d_cut_between ["leads", "x", "y"] (spCutB ad.lP) := by
  refine T.F_cut_between.ok sc_cut_between (fun vs H Q E h => ?_) (fun cdv A outer s H vs Q E hr h => ?_)
  · obtain ⟨a, as, h, x, y, L, rfl, _⟩ := h
    rfl
  obtain ⟨a, as, h, x, y, L, rfl, ha, tb, hx, hy, h12, lq, q⟩ := h
  refine ⟨_, (@pss_one _ _ _ (@ps_ret _ _ _ _ (@pe_call _ _ _ _ _ _ _ _ _ _ _ _ _ _ _ _ (ok_cut_by T) (hr.mono (by decide)) rfl T.m_cut_by T.F_cut_by.kp T.b_cut_by .nil pass0 (@pa_cons _ _ _ _ _ (@pe_call _ _ _ _ _ _ _ _ _ _ _ _ _ _ _ _ (ok_reached_from T) (hr.mono (by decide)) rfl T.m_reached_from T.F_reached_from.kp T.b_reached_from .nil pass0 (@pa_cons _ _ _ _ _ (pv 0) (@pa_cons _ _ _ _ _ (pv 1) pa_nil (by rfl)) (by rfl)) (by decide) (by rfl) (by rfl)) (@pa_cons _ _ _ _ _ (pv 1) (@pa_cons _ _ _ _ _ (pv 2) pa_nil (by rfl)) (by rfl)) (by rfl)) (by decide) (by rfl) (by rfl)))), ?_⟩
  and_intros
  refine ⟨a, as, h, x, L, rfl, ha, tb, hx, h12, lq.1, fun t b f be bf H' sm sq lq' ht hb hf bfn et eb ef re => ?_⟩
  have s1 := sq lq
  and_intros
  exact ⟨t, h, x, y, L, be, rfl, ⟨b, f, bf, et, eb, ef, re⟩, hx, hy, h12, fun H2 s2 => q be bf H2 (s1.trans s2) re⟩
theorem ok_law (T : Tx K mg base ad) : FnOk P w K mg base CX0 4 ad.f_law ad.d_law ["_law_script"] (spLaw K ad.lP) := by
  refine T.F_law.ok sc_law (fun vs H Q E h => ?_) (fun cdv A outer s H vs Q E hr h => ?_)
  · obtain ⟨p, ns, rfl, _⟩ := h
    rfl
  obtain ⟨p, ns, rfl, hS, h63, hP, q⟩ := h
  refine ⟨_, (@pss_cons _ _ _ _ _ (@ps_set _ _ (1) _ _ _ _ sc_law.nd rfl (Or.inl rfl) (@pe_call _ _ _ _ _ _ _ _ _ _ _ _ _ _ _ _ (ok_law_cell T) (hr.mono (by decide)) rfl T.m_law_cell T.F_law_cell.kp T.b_law_cell .nil pass0 (@pa_cons _ _ _ _ _ (pv 0) (@pa_cons _ _ _ _ _ pe_int pa_nil (by rfl)) (by rfl)) (by decide) (by rfl) (by rfl)) (by rfl) (by first | exact .inl rfl | exact .inr rfl | assumption)) (@pss_cons _ _ _ _ _ (@ps_set _ _ (2) _ _ _ _ sc_law.nd rfl (Or.inl rfl) (@pe_op _ _ _ _ _ _ _ _ op_add pe_int (@pe_op _ _ _ _ _ _ _ _ op_modN (@pe_op _ _ _ _ _ _ _ _ op_fdivB (pv 1) pe_int) pe_int)) (by rfl) (by first | exact .inl rfl | exact .inr rfl | assumption)) (@pss_cons _ _ _ _ _ (@ps_ifJ _ _ _ _ _ _ _ _ (@pt_cmpR _ _ _ _ _ _ _ _ op_eq (@pe_op _ _ _ _ _ _ _ _ op_modN (pv 1) pe_int) pe_int (nomark _)) (@pss_one _ _ _ (@ps_set _ _ (2) _ _ _ _ sc_law.nd rfl (Or.inl rfl) pe_int (by rfl) (by first | exact .inl rfl | exact .inr rfl | assumption))) pss_nil) (@pss_cons _ _ _ _ _ (@ps_set _ _ (3) _ _ _ _ sc_law.nd rfl (Or.inl rfl) (@pe_call _ _ _ _ _ _ _ _ _ _ _ _ _ _ _ _ (ok_law_leads T) (hr.mono (by decide)) rfl T.m_law_leads T.F_law_leads.kp T.b_law_leads .nil pass0 (@pa_cons _ _ _ _ _ (pv 0) (@pa_cons _ _ _ _ _ (pv 2) (@pa_cons _ _ _ _ _ (@pe_op _ _ _ _ _ _ _ _ op_modN (@pe_op _ _ _ _ _ _ _ _ op_fdivB (pv 1) pe_int) pe_int) pa_nil (by rfl)) (by rfl)) (by rfl)) (by decide) (by rfl) (by rfl)) (by rfl) (by first | exact .inl rfl | exact .inr rfl | assumption)) (@pss_cons _ _ _ _ _ (ps_setC (j := 4) (fsc := defScope s_law) (N := ["_law_script", "_law_first", "_law_hands", "_law_leads_here", "_law_handed", "_law_found", "_law_held", "_law_x", "_law_y"]) (Nc := ["_law_script", "_law_first", "_law_hands", "_law_leads_here", "_law_handed", "_law_found", "_law_held", "_law_x", "_law_y", "_law_row"]) rfl rfl ⟨rfl, by decide +kernel, by decide +kernel, rfl, by decide +kernel, rfl, by decide +kernel, rfl, by decide +kernel⟩ rfl sc_law.nd rfl rfl (pi_list (pv 3)) (fun _ _ _ _ => pif_nil) (fun _ _ _ _ => (@pe_callTy _ _ _ _ _ _ _ _ _ (call_list_ofK K) (by rfl) T.z_list PyProof.Rows.boot_list (@pa_cons _ _ _ _ _ (pv 9) pa_nil (by rfl)) (by decide) (by decide) (by rfl) (by rfl))) rfl) (@pss_cons _ _ _ _ _ (@ps_set _ _ (5) _ _ _ _ sc_law.nd rfl (Or.inr rfl) (@pe_call _ _ _ _ _ _ _ _ _ _ _ _ _ _ _ _ (ok_strength T) (hr.mono (by decide)) rfl T.m_strength T.F_strength.kp T.b_strength .nil pass0 (@pa_cons _ _ _ _ _ (pv 4) pa_nil (by rfl)) (by decide) (by rfl) (by rfl)) (by rfl) (by first | exact .inl rfl | exact .inr rfl | assumption)) (@pss_cons _ _ _ _ _ (@ps_if _ _ _ _ _ _ _ _ (PW.pt (@pw_or _ _ _ _ _ _ _ (@pt_not _ _ _ _ (@pt_val _ _ _ (@pe_call _ _ _ _ _ _ _ _ _ _ _ _ _ _ _ _ (ok_law_table T) (hr.mono (by decide)) rfl T.m_law_table T.F_law_table.kp T.b_law_table .nil pass0 (@pa_cons _ _ _ _ _ (pv 5) (@pa_cons _ _ _ _ _ (pv 2) pa_nil (by rfl)) (by rfl)) (by decide) (by rfl) (by rfl)) (by intro _; rfl))) (@pw_or1 _ _ _ _ (@pt_not _ _ _ _ (@pt_val _ _ _ (@pe_callB _ _ _ _ _ _ _ _ _ (call_all rfl) (by rfl) T.z_all PyProof.Rows.boot_all (@pa_cons _ _ _ _ _ (pe_comp (fsc := defScope s_law) (N := ["_law_script", "_law_first", "_law_hands", "_law_leads_here", "_law_handed", "_law_found", "_law_held", "_law_x", "_law_y"]) (Nc := ["_law_script", "_law_first", "_law_hands", "_law_leads_here", "_law_handed", "_law_found", "_law_held", ".s7", "_law_y", "_law_x"]) rfl rfl ⟨rfl, by decide +kernel, by decide +kernel, rfl, by decide +kernel, rfl, by decide +kernel, rfl, by decide +kernel⟩ rfl (pi_range1 rfl T.z_range (@pa_cons _ _ _ _ _ (pv 2) pa_nil (by rfl))) (fun _ _ _ _ => pif_nil) (fun _ _ _ _ => (@pe_cmpR _ _ _ _ _ _ _ _ op_eq (@pe_ix _ _ _ _ _ _ _ (ix_listK K) (@pe_ix _ _ _ _ _ _ _ (ix_listK K) (pv 5) (pv 9) (fun _ _ => rfl)) (pv 9) (fun _ _ => rfl)) pe_int (nomark _)))) pa_nil (by rfl)) (by decide) (by decide) (by rfl) (by rfl)) (by intro _; rfl)))))) (@pss_one _ _ _ (@ps_ret _ _ _ _ pe_bl)) pss_nil) (@pss_cons _ _ _ _ _ (ps_setC (j := 6) (fsc := defScope s_law) (N := ["_law_script", "_law_first", "_law_hands", "_law_leads_here", "_law_handed", "_law_found", "_law_held", "_law_x", "_law_y"]) (Nc := ["_law_script", "_law_first", "_law_hands", "_law_leads_here", "_law_handed", "_law_found", "_law_held", "_law_x", "_law_y", "_law_row"]) rfl rfl ⟨rfl, by decide +kernel, by decide +kernel, rfl, by decide +kernel, rfl, by decide +kernel, rfl, by decide +kernel⟩ rfl sc_law.nd rfl rfl (pi_list (pv 5)) (fun _ _ _ _ => pif_nil) (fun _ _ _ _ => (@pe_callTy _ _ _ _ _ _ _ _ _ (call_list_ofK K) (by rfl) T.z_list PyProof.Rows.boot_list (@pa_cons _ _ _ _ _ (pv 9) pa_nil (by rfl)) (by decide) (by decide) (by rfl) (by rfl))) rfl) (@pss_cons _ _ _ _ _ (ps_for PassesOwn.never rfl (pi_list (@pe_call _ _ _ _ _ _ _ _ _ _ _ _ _ _ _ _ (ok_law_pairs T) (hr.mono (by decide)) rfl T.m_law_pairs T.F_law_pairs.kp T.b_law_pairs .nil pass0 (@pa_cons _ _ _ _ _ (pv 2) (@pa_cons _ _ _ _ _ (@pe_call _ _ _ _ _ _ _ _ _ _ _ _ _ _ _ _ (ok_law_mixed T) (hr.mono (by decide)) rfl T.m_law_mixed T.F_law_mixed.kp T.b_law_mixed .nil pass0 (@pa_cons _ _ _ _ _ (pv 1) (@pa_cons _ _ _ _ _ pe_int pa_nil (by rfl)) (by rfl)) (by decide) (by rfl) (by rfl)) pa_nil (by rfl)) (by rfl)) (by decide) (by rfl) (by rfl))) (pg_tup rfl (pgs_cons (pg_name (i := 7) sc_law.nd rfl (Or.inl rfl)) (pgs_cons (pg_name (i := 8) sc_law.nd rfl (Or.inl rfl)) pgs_nil))) (@pss_cons _ _ _ _ _ (@ps_if _ _ _ _ _ _ _ _ (@pt_not _ _ _ _ (@pt_val _ _ _ (@pe_call _ _ _ _ _ _ _ _ _ _ _ _ _ _ _ _ (ok_law_way T) (hr.mono (by decide)) rfl T.m_law_way T.F_law_way.kp T.b_law_way .nil pass0 (@pa_cons _ _ _ _ _ (pv 3) (@pa_cons _ _ _ _ _ (@pe_call _ _ _ _ _ _ _ _ _ _ _ _ _ _ _ _ (ok_way_between T) (hr.mono (by decide)) rfl T.m_way_between T.F_way_between.kp T.b_way_between .nil pass0 (@pa_cons _ _ _ _ _ (pv 4) (@pa_cons _ _ _ _ _ (pv 7) (@pa_cons _ _ _ _ _ (pv 8) pa_nil (by rfl)) (by rfl)) (by rfl)) (by decide) (by rfl) (by rfl)) (@pa_cons _ _ _ _ _ (pv 7) (@pa_cons _ _ _ _ _ (pv 8) (@pa_cons _ _ _ _ _ (@pe_ix _ _ _ _ _ _ _ ix_list (@pe_ix _ _ _ _ _ _ _ ix_list (pv 6) (pv 7) (fun _ _ => rfl)) (pv 8) (fun _ _ => rfl)) pa_nil (by rfl)) (by rfl)) (by rfl)) (by rfl)) (by rfl)) (by decide) (by rfl) (by rfl)) (by intro _; rfl))) (@pss_one _ _ _ (@ps_ret _ _ _ _ pe_bl)) pss_nil) (@pss_one _ _ _ (@ps_if _ _ _ _ _ _ _ _ (@pt_not _ _ _ _ (@pt_val _ _ _ (@pe_call _ _ _ _ _ _ _ _ _ _ _ _ _ _ _ _ (ok_law_cut T) (hr.mono (by decide)) rfl T.m_law_cut T.F_law_cut.kp T.b_law_cut .nil pass0 (@pa_cons _ _ _ _ _ (pv 3) (@pa_cons _ _ _ _ _ (@pe_call _ _ _ _ _ _ _ _ _ _ _ _ _ _ _ _ (ok_cut_between T) (hr.mono (by decide)) rfl T.m_cut_between T.F_cut_between.kp T.b_cut_between .nil pass0 (@pa_cons _ _ _ _ _ (pv 4) (@pa_cons _ _ _ _ _ (pv 7) (@pa_cons _ _ _ _ _ (pv 8) pa_nil (by rfl)) (by rfl)) (by rfl)) (by decide) (by rfl) (by rfl)) (@pa_cons _ _ _ _ _ (pv 7) (@pa_cons _ _ _ _ _ (pv 8) (@pa_cons _ _ _ _ _ (@pe_ix _ _ _ _ _ _ _ ix_list (@pe_ix _ _ _ _ _ _ _ ix_list (pv 6) (pv 7) (fun _ _ => rfl)) (pv 8) (fun _ _ => rfl)) pa_nil (by rfl)) (by rfl)) (by rfl)) (by rfl)) (by rfl)) (by decide) (by rfl) (by rfl)) (by intro _; rfl))) (@pss_one _ _ _ (@ps_ret _ _ _ _ pe_bl)) pss_nil)))) (@pss_cons _ _ _ _ _ (ps_asg pe_int (pg_sub (@pe_ix _ _ _ _ _ _ _ ix_list (pv 5) pe_int (fun _ _ => rfl)) pe_int set_list)) (@pss_cons _ _ _ _ _ (@ps_expr _ _ _ _ (pe_bm PySem.F.plainAttrs_list PySem.F.slot_list_append PySem.F.type_list_append mt_append (pv 5) (@pa_cons _ _ _ _ _ (@pe_lst _ _ _ _ pa_nil) pa_nil (by rfl))) (by rfl)) (@pss_one _ _ _ (@ps_ret _ _ _ _ (@pe_and _ _ _ _ _ _ _ (@pe_cmpR _ _ _ _ _ _ _ _ (op_eqD (K := K) hr.units) (pv 4) (pv 3) (nomark _)) (@pe_one _ _ _ _ _ (@pe_cmpR _ _ _ _ _ _ _ _ (op_eqD (K := K) hr.units) (@pe_call _ _ _ _ _ _ _ _ _ _ _ _ _ _ _ _ (ok_strength T) (hr.mono (by decide)) rfl T.m_strength T.F_strength.kp T.b_strength .nil pass0 (@pa_cons _ _ _ _ _ (pv 4) pa_nil (by rfl)) (by decide) (by rfl) (by rfl)) (pv 6) (nomark _))))))))))))))))), ?_⟩
  refine ⟨_, rfl, p, ns, 0, rfl, hS, h63, by decide, by decide, fun c c0 c1 => ?_⟩
  have szc := sz40 c0 c1
  and_intros
  have m5 := fmod_in (c.fdiv 16) (show (0 : Int) < 5 by decide)
  refine ⟨fun σ' H' => ∃ h : Nat, σ' = [some (.ref p), some (.int c), some (.int (h : Int)), none, none, none, none, none, none] ∧ H = H' ∧ 1 ≤ h ∧ h ≤ 12, ?_, ?_⟩
  · and_intros
    refine ite2 (fun _ => ?_) (fun _ => ?_)
    · exact ⟨12, rfl, rfl, by decide, by decide⟩
    · refine ⟨(1 + (c.fdiv 16).fmod 5).toNat, ?_, rfl, by omega, by omega⟩
      rw [show (((1 + (c.fdiv 16).fmod 5).toNat : Nat) : Int) = 1 + (c.fdiv 16).fmod 5 from by omega]
      rfl
  rintro σ' H' ⟨h, rfl, rfl, h1, h12⟩
  and_intros
  refine ⟨p, ns, h, _, rfl, hS, h63, h1, h12, fun a as L H1 ha s1 ea tb lz => ?_⟩
  and_intros
  refine ⟨⟨_, SqL.of ea⟩, ?_⟩
  refine comp_list (xs := as.map V.ref) (by rw [List.length_map, tb.1]; exact small63 (by omega)) (fun D i ys J => ∃ bs : List Addr, ys = bs.map V.ref ∧ bs.length = i ∧ bs.Nodup ∧ J D = some (.lst ys) ∧ Same H1 J ∧ D ∉ bs ∧ (∀ a ∈ bs, H1 a = none) ∧ ∀ k b, bs[k]? = some b → J b = some (.lst (((List.range h).map fun y => L k y).map V.int))) (fun D hD => ⟨[], rfl, rfl, List.nodup_nil, upd_same, same_new hD _, (fun m => nomatch m), (fun _ m => nomatch m), (fun _ _ e => by cases e)⟩) (fun D i ys J ⟨bs, f1, f2, _, f3, _⟩ => ⟨f3, by rw [f1, List.length_map, f2]; exact Nat.le_refl _⟩) (fun D i ys J hD ⟨_, _, _, _, _, f5, _⟩ => SqL.of (f5 _ _ ea)) ?_ ?_
  · rintro D i x ys J K1 K2 hD hx ⟨bs, rfl, f2, f3, f4, f5, f6, f7, f8⟩ k1 k2
    rw [List.getElem?_map] at hx
    obtain ⟨a, ha, rfl⟩ := Option.map_eq_some_iff.mp hx
    refine yes (ifT rfl ?_)
    refine ⟨_, rfl, a, _, rfl, .inl (SqL.of (f5 _ _ (tb.2.2 i a ha))), fun D2 hD2 => ?_⟩
    have sD := same_new hD2 (.lst (((List.range h).map fun y => L i y).map V.int))
    have eD : (upd J D2 (.lst (((List.range h).map fun y => L i y).map V.int))) D2 = some (.lst (((List.range h).map fun y => L i y).map V.int)) := upd_same
    have dd : D2 ≠ D := fun z => by rw [z, f4] at hD2; cases hD2
    have na : D2 ∉ bs := fun m => by
      obtain ⟨k, hk⟩ := List.getElem?_of_mem m
      rw [f8 k D2 hk] at hD2
      cases hD2
    have nD : D ∉ bs := f6
    have nD2 := none_of f5 hD2
    generalize upd J D2 (.lst (((List.range h).map fun y => L i y).map V.int)) = J5 at sD eD ⊢
    refine k1 _ _ (sD _ _ f4) ⟨bs ++ [D2], by rw [List.map_append]; rfl, by rw [List.length_append, f2]; rfl, List.nodup_append.mpr ⟨f3, by simp, fun a ma b mb e => na (by rw [← List.mem_singleton.mp mb, ← e]; exact ma)⟩, upd_same, same_upd (f5.trans sD) hD, fun m => ?_, fun a m => ?_, fun k b e => ?_⟩
    · rcases List.mem_append.mp m with m | m
      · exact f6 m
      · exact dd (List.mem_singleton.mp m).symm
    · rcases List.mem_append.mp m with m | m
      · exact f7 a m
      · rw [List.mem_singleton.mp m]; exact nD2
    · by_cases c : k < bs.length
      · rw [List.getElem?_append_left c] at e
        rw [upd_ne (fun z => f6 (by rw [← z]; exact List.mem_of_getElem? e))]
        exact sD _ _ (f8 k b e)
      · rw [List.getElem?_append_right (by omega)] at e
        have ek : k = i := by
          have := (List.getElem?_eq_some_iff.mp e).1
          rw [List.length_singleton] at this
          omega
        rw [ek, f2, Nat.sub_self] at e
        cases Option.some.inj e
        rw [upd_ne dd, ek]
        exact eD
  rintro g ys H2 hg ⟨gs, rfl, g2, g3, eg, s2, g6, g7, g8⟩
  have tg : TabF H2 gs h L := ⟨by rw [g2, List.length_map, tb.1], g3, g8⟩
  have ea := s2 _ _ ea
  have tb := tb.same s2
  have lt2 : LT ad.lP H2 := .inl ((s1.trans s2) _ _ hP)
  have ea2 := ea
  have tb2 := tb
  have eg2 := eg
  have tg2 := tg
  and_intros
  refine ⟨g, gs, h, L, rfl, eg, tg, h1, h12, lt2, fun r rs F H3 sm sq lq hr nr wr er tr st => ?_⟩
  have ea := sm.lst ea
  have tb := tb.sm sm
  have eg := sm.lst eg
  have tg := tg.sm sm
  and_intros
  refine ⟨r, tbOf rs h F, h, rfl, (by rw [tr.vtb]; exact er), tr.good, h12, fun H4 s4 => ?_⟩
  have ea := s4 _ _ ea
  have tb := tb.same s4
  have eg := s4 _ _ eg
  have tg := tg.same s4
  have lq := lq.same s4
  have er := s4 _ _ er
  have tr := tr.same s4
  and_intros
  refine ⟨by omega, by omega, ?_⟩
  rw [Int.toNat_natCast]
  refine comp_range (small63 (by omega)) (fun D j ys J => ys = (List.replicate j true).map V.bl ∧ J = upd H4 D (.lst ys)) (fun D hD => ⟨rfl, rfl⟩) (fun D j ys J ⟨f1, f2⟩ => ⟨by rw [f2]; exact upd_same, by rw [f1, List.length_map, List.length_replicate]; exact Nat.le_refl _⟩) ?_ ?_
  · rintro D j ys J K1 K2 hD hj ⟨f1, rfl⟩ k1 k2
    have ej : (0 : Int) + (j : Int) = (j : Int) := Int.zero_add _
    have sD := same_new hD (.lst ys)
    obtain ⟨ar, _, _, r3, r4⟩ := (tr.same sD).row hj
    refine yes (ifT rfl ?_)
    refine ⟨_, rfl, _, rfl, r, _, _, _, rfl, rfl, SqL.of (sD _ _ er), (by rw [ej]; exact r3), ?_⟩
    refine ⟨_, rfl, ar, _, _, _, rfl, rfl, SqL.of r4, (by rw [ej]; exact row_cell (F j) hj), ?_⟩
    and_intros
    rw [eq_t (show F j j = 0 by rw [st.own hj, lz j hj])]
    refine k1 _ _ upd_same ⟨?_, by rw [upd_upd]⟩
    rw [f1, List.replicate_succ', List.map_append]
    rfl
  rintro D ys H5 hD ⟨rfl, rfl⟩
  have s5 := same_new hD (.lst ((List.replicate h true).map V.bl))
  have e5 : (upd H4 D (.lst ((List.replicate h true).map V.bl))) D = some (.lst ((List.replicate h true).map V.bl)) := upd_same
  generalize upd H4 D (.lst ((List.replicate h true).map V.bl)) = H5 at s5 e5 ⊢
  refine ⟨D, _, rfl, SqL.of e5, ?_⟩
  rw [show (List.replicate h true).all id = true from List.all_eq_true.mpr fun b m => (List.mem_replicate.mp m).2]
  have ea := s5 _ _ ea
  have tb := tb.same s5
  have eg := s5 _ _ eg
  have tg := tg.same s5
  have lq := lq.same s5
  have er := s5 _ _ er
  have tr := tr.same s5
  have er5 := er
  have tr5 := tr
  and_intros
  refine ⟨⟨_, SqL.of er⟩, ?_⟩
  refine comp_list (xs := rs.map V.ref) (by rw [List.length_map, tr.1]; exact small63 (by omega)) (fun D i ys J => ∃ bs : List Addr, ys = bs.map V.ref ∧ bs.length = i ∧ bs.Nodup ∧ J D = some (.lst ys) ∧ Same H5 J ∧ D ∉ bs ∧ (∀ a ∈ bs, H5 a = none) ∧ ∀ k b, bs[k]? = some b → J b = some (.lst (((List.range h).map fun y => F k y).map V.int))) (fun D hD => ⟨[], rfl, rfl, List.nodup_nil, upd_same, same_new hD _, (fun m => nomatch m), (fun _ m => nomatch m), (fun _ _ e => by cases e)⟩) (fun D i ys J ⟨bs, f1, f2, _, f3, _⟩ => ⟨f3, by rw [f1, List.length_map, f2]; exact Nat.le_refl _⟩) (fun D i ys J hD ⟨_, _, _, _, _, f5, _⟩ => SqL.of (f5 _ _ er)) ?_ ?_
  · rintro D i x ys J K1 K2 hD hx ⟨bs, rfl, f2, f3, f4, f5, f6, f7, f8⟩ k1 k2
    rw [List.getElem?_map] at hx
    obtain ⟨a, ha, rfl⟩ := Option.map_eq_some_iff.mp hx
    refine yes (ifT rfl ?_)
    refine ⟨_, rfl, a, _, rfl, .inl (SqL.of (f5 _ _ (tr.2.2 i a ha))), fun D2 hD2 => ?_⟩
    have sD := same_new hD2 (.lst (((List.range h).map fun y => F i y).map V.int))
    have eD : (upd J D2 (.lst (((List.range h).map fun y => F i y).map V.int))) D2 = some (.lst (((List.range h).map fun y => F i y).map V.int)) := upd_same
    have dd : D2 ≠ D := fun z => by rw [z, f4] at hD2; cases hD2
    have na : D2 ∉ bs := fun m => by
      obtain ⟨k, hk⟩ := List.getElem?_of_mem m
      rw [f8 k D2 hk] at hD2
      cases hD2
    have nD : D ∉ bs := f6
    have nD2 := none_of f5 hD2
    generalize upd J D2 (.lst (((List.range h).map fun y => F i y).map V.int)) = J5 at sD eD ⊢
    refine k1 _ _ (sD _ _ f4) ⟨bs ++ [D2], by rw [List.map_append]; rfl, by rw [List.length_append, f2]; rfl, List.nodup_append.mpr ⟨f3, by simp, fun a ma b mb e => na (by rw [← List.mem_singleton.mp mb, ← e]; exact ma)⟩, upd_same, same_upd (f5.trans sD) hD, fun m => ?_, fun a m => ?_, fun k b e => ?_⟩
    · rcases List.mem_append.mp m with m | m
      · exact f6 m
      · exact dd (List.mem_singleton.mp m).symm
    · rcases List.mem_append.mp m with m | m
      · exact f7 a m
      · rw [List.mem_singleton.mp m]; exact nD2
    · by_cases c : k < bs.length
      · rw [List.getElem?_append_left c] at e
        rw [upd_ne (fun z => f6 (by rw [← z]; exact List.mem_of_getElem? e))]
        exact sD _ _ (f8 k b e)
      · rw [List.getElem?_append_right (by omega)] at e
        have ek : k = i := by
          have := (List.getElem?_eq_some_iff.mp e).1
          rw [List.length_singleton] at this
          omega
        rw [ek, f2, Nat.sub_self] at e
        cases Option.some.inj e
        rw [upd_ne dd, ek]
        exact eD
  rintro d ys H6 hd ⟨ds, rfl, d2, d3, ed, s6, d6, d7, d8⟩
  have td : TabF H6 ds h F := ⟨by rw [d2, List.length_map, tr.1], d3, d8⟩
  have ea := s6 _ _ ea
  have tb := tb.same s6
  have eg := s6 _ _ eg
  have tg := tg.same s6
  have lq := lq.same s6
  have er := s6 _ _ er
  have tr := tr.same s6
  and_intros
  refine ⟨c, 3, rfl, szc, szd 64, fun z z0 z1 => ?_⟩
  and_intros
  refine ⟨h, z, rfl, h1, h12, z0, z1, fun l ps H7 s7 e7 gp np => ?_⟩
  have ea := s7 _ _ ea
  have tb := tb.same s7
  have eg := s7 _ _ eg
  have tg := tg.same s7
  have lq := lq.same s7
  have er := s7 _ _ er
  have tr := tr.same s7
  have ed := s7 _ _ ed
  have td := td.same s7
  and_intros
  refine ⟨⟨_, SqL.of e7⟩, for_list (xs := vprs ps) (fun i σ' H' => ∃ v7 v8 : Option V, σ' = [some (.ref p), some (.int c), some (.int (h : Int)), some (.ref a), some (.ref g), some (.ref r), some (.ref d), v7, v8] ∧ Same H7 H') ⟨none, none, rfl, fun _ _ e => e⟩ (fun i σ' H' _ ⟨_, _, _, e⟩ => SqL.of (e _ _ e7)) ?_ ?_⟩
  · rintro i w σ' H8 hw ⟨v7, v8, rfl, s8⟩
    obtain ⟨f, hf, rfl, fm, _⟩ := vprs_get hw
    obtain ⟨p1, hx, hy⟩ := gp f fm
    have ne := np f fm
    have ed8 := s8 _ _ ed
    obtain ⟨dr, _, _, d3, d4⟩ := (td.same s8).row hx
    refine ⟨f.1, _, rfl, SqT.of (s8 _ _ p1), rfl, _, _, rfl, _, _, rfl, rfl, ?_⟩
    and_intros
    refine ⟨g, gs, h, f.2.1, f.2.2, L, rfl, s8 _ _ eg, tg.same s8, hx, hy, Ne.symm ne, h12, lq.same s8, fun wr ws be bf H9 hwr s9 e9 re iw => ?_⟩
    have fe := st.at re hx hy
    and_intros
    refine ⟨d, _, _, _, rfl, rfl, SqL.of (s9 _ _ ed8), d3, ?_⟩
    refine ⟨_, rfl, dr, _, _, _, rfl, rfl, SqL.of (s9 _ _ d4), row_cell (F f.2.1) hy, ?_⟩
    refine ⟨a, wr, as, h, f.2.1, f.2.2, L, _, ws, rfl, (s8.trans s9) _ _ ea, tb.same (s8.trans s9), h12, e9, (by rw [fe]; exact iw), fun H10 s10 => ?_⟩
    have s810 := (s8.trans s9).trans s10
    have s910 := s9.trans s10
    and_intros
    refine ⟨g, gs, h, f.2.1, f.2.2, L, rfl, s810 _ _ eg, tg.same s810, hx, hy, h12, lq.same s810, fun be' bf' H11 s11 re' => ?_⟩
    have fe' := st.at re' hx hy
    have s811 := s810.trans s11
    have s911 := s910.trans s11
    and_intros
    refine ⟨d, _, _, _, rfl, rfl, SqL.of (s911 _ _ ed8), d3, ?_⟩
    refine ⟨_, rfl, dr, _, _, _, rfl, rfl, SqL.of (s911 _ _ d4), row_cell (F f.2.1) hy, ?_⟩
    refine ⟨a, as, h, f.2.1, f.2.2, L, _, cutF f.2.1 f.2.2 be', rfl, s811 _ _ ea, tb.same s811, h1, h12, hx, hy, ?_, ?_, fun u v hu hv gu gv => ?_, fun H12 s12 => ?_⟩
    · unfold cutF; exact decide_eq_true (.inl rfl)
    · unfold cutF; exact decide_eq_false (fun e => e.elim (fun e => ne e.symm) fun e => by omega)
    · unfold cutF at gu gv
      rw [fe']
      have gv' := of_decide_eq_false gv
      exact re'.cut hu hv (of_decide_eq_true gu) ⟨fun e => gv' (.inl e), by
        rcases Int.lt_or_le (be'.getD f.2.2 0) (be'.getD v 0) with k | k
        · exact absurd (.inr k) gv'
        · exact k⟩
    · and_intros
      exact ⟨_, _, rfl, s811.trans s12⟩
  rintro σ' H8 ⟨v7, v8, rfl, s8⟩
  obtain ⟨a0, a00, a0m, a01, a02⟩ := (tr.same s8).row (show 0 < h by omega)
  have a5 := tr5.2.2 0 a0 a00
  have n0 : H2 a0 = none := wr a0 a0m
  have ea := s8 _ _ ea
  have tb := tb.same s8
  have eg := s8 _ _ eg
  have tg := tg.same s8
  have lq := lq.same s8
  have er := s8 _ _ er
  have ed := s8 _ _ ed
  have td := td.same s8
  have ne2 : ∀ {b b' : Addr} {o : HO}, H2 b = some o → H2 b' = none → b ≠ b' := fun e e' z => by rw [z, e'] at e; cases e
  have ne5 : ∀ {b b' : Addr} {o : HO}, H5 b = none → H5 b' = some o → b ≠ b' := fun e e' z => by rw [z, e'] at e; cases e
  have dn : ∀ {b : Addr} {o : HO}, H5 b = some o → b ∉ ds := fun e m => by rw [d7 _ m] at e; cases e
  and_intros
  refine ⟨r, _, _, _, rfl, rfl, SqL.of er, a01, ?_⟩
  refine ⟨a0, _, _, 0, rfl, rfl, a02, ix0 (by rw [List.length_map, List.length_map, List.length_range]; exact h1), ?_⟩
  have ra : r ≠ a0 := fun z => nr (by rw [z]; exact a0m)
  have ea : (upd H8 a0 (.lst ((((List.range h).map fun y => F 0 y).map V.int).set 0 (.int 1)))) a = some (.lst (as.map V.ref)) := by rw [upd_ne (ne2 ea2 n0)]; exact ea
  have eg : (upd H8 a0 (.lst ((((List.range h).map fun y => F 0 y).map V.int).set 0 (.int 1)))) g = some (.lst (gs.map V.ref)) := by rw [upd_ne (ne2 eg2 n0)]; exact eg
  have er : (upd H8 a0 (.lst ((((List.range h).map fun y => F 0 y).map V.int).set 0 (.int 1)))) r = some (.lst (rs.map V.ref)) := by rw [upd_ne ra]; exact er
  have ed : (upd H8 a0 (.lst ((((List.range h).map fun y => F 0 y).map V.int).set 0 (.int 1)))) d = some (.lst (ds.map V.ref)) := by rw [upd_ne (ne5 hd a5)]; exact ed
  have tb := tb.else (o := .lst ((((List.range h).map fun y => F 0 y).map V.int).set 0 (.int 1))) (tb2.not n0)
  have tg := tg.else (o := .lst ((((List.range h).map fun y => F 0 y).map V.int).set 0 (.int 1))) (tg2.not n0)
  have td := td.else (o := .lst ((((List.range h).map fun y => F 0 y).map V.int).set 0 (.int 1))) (dn a5)
  have lq := lq.put (o := .lst ((((List.range h).map fun y => F 0 y).map V.int).set 0 (.int 1))) a02
  generalize upd H8 a0 (.lst ((((List.range h).map fun y => F 0 y).map V.int).set 0 (.int 1))) = H9 at ea eg er ed tb tg td lq ⊢
  and_intros
  refine ⟨.inl ⟨rfl, _, SqL.of er⟩, (by show 0 ≤ sizeLine; decide), fun e he => ?_⟩
  have s10 := same_new he (.lst [])
  have ea := s10 _ _ ea
  have tb := tb.same s10
  have eg := s10 _ _ eg
  have tg := tg.same s10
  have lq := lq.same s10
  have er := s10 _ _ er
  have ed := s10 _ _ ed
  have td := td.same s10
  generalize upd H9 e (.lst []) = H10 at ea eg er ed tb tg td lq ⊢
  refine ⟨r, _, _, rfl, rfl, er, (by rw [List.length_map, tr5.1]; exact small1000 (by omega)), ?_⟩
  have ea : (upd H10 r (.lst (rs.map V.ref ++ [V.ref e]))) a = some (.lst (as.map V.ref)) := by rw [upd_ne (ne2 ea2 hr)]; exact ea
  have eg : (upd H10 r (.lst (rs.map V.ref ++ [V.ref e]))) g = some (.lst (gs.map V.ref)) := by rw [upd_ne (ne2 eg2 hr)]; exact eg
  have ed : (upd H10 r (.lst (rs.map V.ref ++ [V.ref e]))) d = some (.lst (ds.map V.ref)) := by rw [upd_ne (ne5 hd er5)]; exact ed
  have tb := tb.else (o := .lst (rs.map V.ref ++ [V.ref e])) (tb2.not hr)
  have tg := tg.else (o := .lst (rs.map V.ref ++ [V.ref e])) (tg2.not hr)
  have td := td.else (o := .lst (rs.map V.ref ++ [V.ref e])) (dn er5)
  have lq := lq.put (o := .lst (rs.map V.ref ++ [V.ref e])) er
  generalize upd H10 r (.lst (rs.map V.ref ++ [V.ref e])) = H11 at ea eg ed tb tg td lq ⊢
  and_intros
  refine ⟨.list ((rowsF h L).map rD), .list ((rowsF h L).map rD), .lst (SqL.of eg) tg.reps, .lst (SqL.of ea) tb.reps, shape_rD _, shape_rD _, ?_⟩
  rw [show PyData.eqv (.list ((rowsF h L).map rD)) (.list ((rowsF h L).map rD)) = true from eqv_rD _]
  and_intros
  refine ⟨g, gs, h, L, rfl, eg, tg, h1, h12, lq.1, fun r' rs' F' H12 sm' sq' lq' hr' nr' wr' er' tr' st' => ?_⟩
  have tr' := tr'.congr fun x y hx hy => (st'.uniq st hx hy)
  and_intros
  refine ⟨.list ((rowsF h F).map rD), .list ((rowsF h F).map rD), .lst (SqL.of er') tr'.reps, .lst (SqL.of (sm'.lst ed)) (td.sm sm').reps, shape_rD _, shape_rD _, ?_⟩
  rw [show PyData.eqv (.list ((rowsF h F).map rD)) (.list ((rowsF h F).map rD)) = true from eqv_rD _]
  exact q _
end
theorem all_mk {l : PySem.W.OpenLaw} {w : World} {K : PySem.W.Frag} {h : Heap} {mg : Str → Option Value} {fa f1 f2 f3 f4 f5 f6 f7 f8 f9 f10 f11 f12 f13 f14 f15 f16 f17 lf lc lP : Addr} (X : K.In h) (G : h.Ns mainGlobals mg) (hfa : mg "law" = some (.ref fa)) (hlf : mg "reached_from" = some (.ref lf)) (hlT : ∃ o fd, h.get? lf = some o ∧ o.data = .func fd ∧ fd.code = .ref lc)
    {od1 an1 od2 an2 od3 an3 od4 an4 od5 an5 od6 an6 od7 an7 od8 an8 od9 an9 od10 an10 od11 an11 od12 an12 od13 an13 od14 an14 od15 an15 od16 an16 od17 an17 : Option Addr} {sl1 sl2 sl3 sl4 sl5 sl6 sl7 sl8 sl9 sl10 sl11 sl12 sl13 sl14 sl15 sl16 sl17 : Array (Option Value)} {oc1 kV1 dc1 pm1 cd1 ct1 oc2 kV2 dc2 pm2 cd2 ct2 oc3 kV3 dc3 pm3 cd3 ct3 oc4 kV4 dc4 pm4 cd4 ct4 oc5 kV5 dc5 pm5 cd5 ct5 oc6 kV6 dc6 pm6 cd6 ct6 oc7 kV7 dc7 pm7 cd7 ct7 oc8 kV8 dc8 pm8 cd8 ct8 oc9 kV9 dc9 pm9 cd9 ct9 oc10 kV10 dc10 pm10 cd10 ct10 oc11 kV11 dc11 pm11 cd11 ct11 oc12 kV12 dc12 pm12 cd12 ct12 oc13 kV13 dc13 pm13 cd13 ct13 oc14 kV14 dc14 pm14 cd14 ct14 oc15 kV15 dc15 pm15 cd15 ct15 oc16 kV16 dc16 pm16 cd16 ct16 oc17 kV17 dc17 pm17 cd17 ct17 : Value}
    (a1 : PySem.W.nsIn K mainGlobals "with_one" = some (some (.ref f1)))
    (l1 : K.lookup f1 = some ⟨oc1, od1, .func (PySem.W.fnOf "with_one" "with_one" (defArgs s_with_one) (defBody s_with_one) (defScope s_with_one) .none kV1 dc1 pm1 an1 cd1 ct1), sl1⟩) (c1 : PySem.W.codeIn K cd1 "with_one" = true) (k1 : PySem.W.keepIn K (.ref f1) = true)
    (a2 : PySem.W.nsIn K mainGlobals "hands_of" = some (some (.ref f2)))
    (l2 : K.lookup f2 = some ⟨oc2, od2, .func (PySem.W.fnOf "hands_of" "hands_of" (defArgs s_hands_of) (defBody s_hands_of) (defScope s_hands_of) .none kV2 dc2 pm2 an2 cd2 ct2), sl2⟩) (c2 : PySem.W.codeIn K cd2 "hands_of" = true) (k2 : PySem.W.keepIn K (.ref f2) = true)
    (a3 : PySem.W.nsIn K mainGlobals "way_by" = some (some (.ref f3)))
    (l3 : K.lookup f3 = some ⟨oc3, od3, .func (PySem.W.fnOf "way_by" "way_by" (defArgs s_way_by) (defBody s_way_by) (defScope s_way_by) .none kV3 dc3 pm3 an3 cd3 ct3), sl3⟩) (c3 : PySem.W.codeIn K cd3 "way_by" = true) (k3 : PySem.W.keepIn K (.ref f3) = true)
    (a4 : PySem.W.nsIn K mainGlobals "_law_whole" = some (some (.ref f4)))
    (l4 : K.lookup f4 = some ⟨oc4, od4, .func (PySem.W.fnOf "_law_whole" "_law_whole" (defArgs s_law_whole) (defBody s_law_whole) (defScope s_law_whole) .none kV4 dc4 pm4 an4 cd4 ct4), sl4⟩) (c4 : PySem.W.codeIn K cd4 "_law_whole" = true) (k4 : PySem.W.keepIn K (.ref f4) = true)
    (a5 : PySem.W.nsIn K mainGlobals "_law_cell" = some (some (.ref f5)))
    (l5 : K.lookup f5 = some ⟨oc5, od5, .func (PySem.W.fnOf "_law_cell" "_law_cell" (defArgs s_law_cell) (defBody s_law_cell) (defScope s_law_cell) .none kV5 dc5 pm5 an5 cd5 ct5), sl5⟩) (c5 : PySem.W.codeIn K cd5 "_law_cell" = true) (k5 : PySem.W.keepIn K (.ref f5) = true)
    (a6 : PySem.W.nsIn K mainGlobals "_law_mixed" = some (some (.ref f6)))
    (l6 : K.lookup f6 = some ⟨oc6, od6, .func (PySem.W.fnOf "_law_mixed" "_law_mixed" (defArgs s_law_mixed) (defBody s_law_mixed) (defScope s_law_mixed) .none kV6 dc6 pm6 an6 cd6 ct6), sl6⟩) (c6 : PySem.W.codeIn K cd6 "_law_mixed" = true) (k6 : PySem.W.keepIn K (.ref f6) = true)
    (a7 : PySem.W.nsIn K mainGlobals "_law_pairs" = some (some (.ref f7)))
    (l7 : K.lookup f7 = some ⟨oc7, od7, .func (PySem.W.fnOf "_law_pairs" "_law_pairs" (defArgs s_law_pairs) (defBody s_law_pairs) (defScope s_law_pairs) .none kV7 dc7 pm7 an7 cd7 ct7), sl7⟩) (c7 : PySem.W.codeIn K cd7 "_law_pairs" = true) (k7 : PySem.W.keepIn K (.ref f7) = true)
    (a8 : PySem.W.nsIn K mainGlobals "reached_from" = some (some (.ref f8)))
    (l8 : K.lookup f8 = some ⟨oc8, od8, .func (PySem.W.fnOf "reached_from" "reached_from" (defArgs s_reached_from) (defBody s_reached_from) (defScope s_reached_from) .none kV8 dc8 pm8 an8 cd8 ct8), sl8⟩) (c8 : PySem.W.codeIn K cd8 "reached_from" = true) (k8 : PySem.W.keepIn K (.ref f8) = true)
    (a9 : PySem.W.nsIn K mainGlobals "cut_by" = some (some (.ref f9)))
    (l9 : K.lookup f9 = some ⟨oc9, od9, .func (PySem.W.fnOf "cut_by" "cut_by" (defArgs s_cut_by) (defBody s_cut_by) (defScope s_cut_by) .none kV9 dc9 pm9 an9 cd9 ct9), sl9⟩) (c9 : PySem.W.codeIn K cd9 "cut_by" = true) (k9 : PySem.W.keepIn K (.ref f9) = true)
    (a10 : PySem.W.nsIn K mainGlobals "_law_table" = some (some (.ref f10)))
    (l10 : K.lookup f10 = some ⟨oc10, od10, .func (PySem.W.fnOf "_law_table" "_law_table" (defArgs s_law_table) (defBody s_law_table) (defScope s_law_table) .none kV10 dc10 pm10 an10 cd10 ct10), sl10⟩) (c10 : PySem.W.codeIn K cd10 "_law_table" = true) (k10 : PySem.W.keepIn K (.ref f10) = true)
    (a11 : PySem.W.nsIn K mainGlobals "_law_way" = some (some (.ref f11)))
    (l11 : K.lookup f11 = some ⟨oc11, od11, .func (PySem.W.fnOf "_law_way" "_law_way" (defArgs s_law_way) (defBody s_law_way) (defScope s_law_way) .none kV11 dc11 pm11 an11 cd11 ct11), sl11⟩) (c11 : PySem.W.codeIn K cd11 "_law_way" = true) (k11 : PySem.W.keepIn K (.ref f11) = true)
    (a12 : PySem.W.nsIn K mainGlobals "_law_cut" = some (some (.ref f12)))
    (l12 : K.lookup f12 = some ⟨oc12, od12, .func (PySem.W.fnOf "_law_cut" "_law_cut" (defArgs s_law_cut) (defBody s_law_cut) (defScope s_law_cut) .none kV12 dc12 pm12 an12 cd12 ct12), sl12⟩) (c12 : PySem.W.codeIn K cd12 "_law_cut" = true) (k12 : PySem.W.keepIn K (.ref f12) = true)
    (a13 : PySem.W.nsIn K mainGlobals "_law_leads" = some (some (.ref f13)))
    (l13 : K.lookup f13 = some ⟨oc13, od13, .func (PySem.W.fnOf "_law_leads" "_law_leads" (defArgs s_law_leads) (defBody s_law_leads) (defScope s_law_leads) .none kV13 dc13 pm13 an13 cd13 ct13), sl13⟩) (c13 : PySem.W.codeIn K cd13 "_law_leads" = true) (k13 : PySem.W.keepIn K (.ref f13) = true)
    (a14 : PySem.W.nsIn K mainGlobals "strength" = some (some (.ref f14)))
    (l14 : K.lookup f14 = some ⟨oc14, od14, .func (PySem.W.fnOf "strength" "strength" (defArgs s_strength) (defBody s_strength) (defScope s_strength) .none kV14 dc14 pm14 an14 cd14 ct14), sl14⟩) (c14 : PySem.W.codeIn K cd14 "strength" = true) (k14 : PySem.W.keepIn K (.ref f14) = true)
    (a15 : PySem.W.nsIn K mainGlobals "way_between" = some (some (.ref f15)))
    (l15 : K.lookup f15 = some ⟨oc15, od15, .func (PySem.W.fnOf "way_between" "way_between" (defArgs s_way_between) (defBody s_way_between) (defScope s_way_between) .none kV15 dc15 pm15 an15 cd15 ct15), sl15⟩) (c15 : PySem.W.codeIn K cd15 "way_between" = true) (k15 : PySem.W.keepIn K (.ref f15) = true)
    (a16 : PySem.W.nsIn K mainGlobals "cut_between" = some (some (.ref f16)))
    (l16 : K.lookup f16 = some ⟨oc16, od16, .func (PySem.W.fnOf "cut_between" "cut_between" (defArgs s_cut_between) (defBody s_cut_between) (defScope s_cut_between) .none kV16 dc16 pm16 an16 cd16 ct16), sl16⟩) (c16 : PySem.W.codeIn K cd16 "cut_between" = true) (k16 : PySem.W.keepIn K (.ref f16) = true)
    (a17 : PySem.W.nsIn K mainGlobals "law" = some (some (.ref f17)))
    (l17 : K.lookup f17 = some ⟨oc17, od17, .func (PySem.W.fnOf "law" "law" (defArgs s_law) (defBody s_law) (defScope s_law) .none kV17 dc17 pm17 an17 cd17 ct17), sl17⟩) (c17 : PySem.W.codeIn K cd17 "law" = true) (k17 : PySem.W.keepIn K (.ref f17) = true)
    (z0 : PySem.W.nsIn K mainGlobals "all" = some none)
    (z1 : PySem.W.nsIn K mainGlobals "bool" = some none)
    (z2 : PySem.W.nsIn K mainGlobals "enumerate" = some none)
    (z3 : PySem.W.nsIn K mainGlobals "int" = some none)
    (z4 : PySem.W.nsIn K mainGlobals "isinstance" = some none)
    (z5 : PySem.W.nsIn K mainGlobals "len" = some none)
    (z6 : PySem.W.nsIn K mainGlobals "list" = some none)
    (z7 : PySem.W.nsIn K mainGlobals "max" = some none)
    (z8 : PySem.W.nsIn K mainGlobals "min" = some none)
    (z9 : PySem.W.nsIn K mainGlobals "range" = some none)
    (z10 : PySem.W.nsIn K mainGlobals "set" = some none) :
    ∃ fd : FuncData, (∀ (s : Shared) (v : Value), BindsTo s fd ⟨[v], []⟩ [("_law_script", v)]) ∧ ∀ base : Heap, K.In base → base.Ns mainGlobals mg → LamB base mg lc lP → FnOk l.prog w K mg base CX0 4 fa fd ["_law_script"] (spLaw K lP) := by
  have e := hfa.symm.trans (PySem.W.mg_of X G a17)
  cases e
  have F1 := fun_mk (st := s_with_one) l1 c1 k1
  have b1 := F1.binds (ps := ["mask", "hand"]) fun _ _ _ _ _ _ us hl => match us, hl with | [_, _], _ => rfl
  have F2 := fun_mk (st := s_hands_of) l2 c2 k2
  have b2 := F2.binds (ps := ["leads"]) fun _ _ _ _ _ _ us hl => match us, hl with | [_], _ => rfl
  have F3 := fun_mk (st := s_way_by) l3 c3 k3
  have b3 := F3.binds (ps := ["reached", "x", "y"]) fun _ _ _ _ _ _ us hl => match us, hl with | [_, _, _], _ => rfl
  have F4 := fun_mk (st := s_law_whole) l4 c4 k4
  have b4 := F4.binds (ps := ["_law_found"]) fun _ _ _ _ _ _ us hl => match us, hl with | [_], _ => rfl
  have F5 := fun_mk (st := s_law_cell) l5 c5 k5
  have b5 := F5.binds (ps := ["_law_script", "_law_k"]) fun _ _ _ _ _ _ us hl => match us, hl with | [_, _], _ => rfl
  have F6 := fun_mk (st := s_law_mixed) l6 c6 k6
  have b6 := F6.binds (ps := ["_law_cell_here", "_law_by"]) fun _ _ _ _ _ _ us hl => match us, hl with | [_, _], _ => rfl
  have F7 := fun_mk (st := s_law_pairs) l7 c7 k7
  have b7 := F7.binds (ps := ["_law_hands", "_law_cell_here"]) fun _ _ _ _ _ _ us hl => match us, hl with | [_, _], _ => rfl
  have F8 := fun_mk (st := s_reached_from) l8 c8 k8
  have b8 := F8.binds (ps := ["leads", "x"]) fun _ _ _ _ _ _ us hl => match us, hl with | [_, _], _ => rfl
  have F9 := fun_mk (st := s_cut_by) l9 c9 k9
  have b9 := F9.binds (ps := ["reached", "x", "y"]) fun _ _ _ _ _ _ us hl => match us, hl with | [_, _, _], _ => rfl
  have F10 := fun_mk (st := s_law_table) l10 c10 k10
  have b10 := F10.binds (ps := ["_law_found", "_law_hands"]) fun _ _ _ _ _ _ us hl => match us, hl with | [_, _], _ => rfl
  have F11 := fun_mk (st := s_law_way) l11 c11 k11
  have b11 := F11.binds (ps := ["_law_leads_here", "_law_some", "_law_x", "_law_y", "_law_worth"]) fun _ _ _ _ _ _ us hl => match us, hl with | [_, _, _, _, _], _ => rfl
  have F12 := fun_mk (st := s_law_cut) l12 c12 k12
  have b12 := F12.binds (ps := ["_law_leads_here", "_law_cut_here", "_law_x", "_law_y", "_law_worth"]) fun _ _ _ _ _ _ us hl => match us, hl with | [_, _, _, _, _], _ => rfl
  have F13 := fun_mk (st := s_law_leads) l13 c13 k13
  have b13 := F13.binds (ps := ["_law_script", "_law_hands", "_law_wide"]) fun _ _ _ _ _ _ us hl => match us, hl with | [_, _, _], _ => rfl
  have F14 := fun_mk (st := s_strength) l14 c14 k14
  have b14 := F14.binds (ps := ["leads"]) fun _ _ _ _ _ _ us hl => match us, hl with | [_], _ => rfl
  have F15 := fun_mk (st := s_way_between) l15 c15 k15
  have b15 := F15.binds (ps := ["leads", "x", "y"]) fun _ _ _ _ _ _ us hl => match us, hl with | [_, _, _], _ => rfl
  have F16 := fun_mk (st := s_cut_between) l16 c16 k16
  have b16 := F16.binds (ps := ["leads", "x", "y"]) fun _ _ _ _ _ _ us hl => match us, hl with | [_, _, _], _ => rfl
  have F17 := fun_mk (st := s_law) l17 c17 k17
  have b17 := F17.binds (ps := ["_law_script"]) fun _ _ _ _ _ _ us hl => match us, hl with | [_], _ => rfl
  have e := hlf.symm.trans (PySem.W.mg_of X G a8)
  cases e
  obtain ⟨_, _, e1, e2, e3⟩ := hlT
  rw [X _ _ l8] at e1
  cases e1
  cases e2
  have T : ∀ base : Heap, LamB base mg lc lP → Tx K mg base (⟨f1, _, f2, _, f3, _, f4, _, f5, _, f6, _, f7, _, f8, _, f9, _, f10, _, f11, _, f12, _, f13, _, f14, _, f15, _, f16, _, fa, _, lc, lP⟩ : Ads) := fun base LB => ⟨F1, b1, PySem.W.mg_of X G a1, F2, b2, PySem.W.mg_of X G a2, F3, b3, PySem.W.mg_of X G a3, F4, b4, PySem.W.mg_of X G a4, F5, b5, PySem.W.mg_of X G a5, F6, b6, PySem.W.mg_of X G a6, F7, b7, PySem.W.mg_of X G a7, F8, b8, PySem.W.mg_of X G a8, F9, b9, PySem.W.mg_of X G a9, F10, b10, PySem.W.mg_of X G a10, F11, b11, PySem.W.mg_of X G a11, F12, b12, PySem.W.mg_of X G a12, F13, b13, PySem.W.mg_of X G a13, F14, b14, PySem.W.mg_of X G a14, F15, b15, PySem.W.mg_of X G a15, F16, b16, PySem.W.mg_of X G a16, F17, b17, PySem.W.mg_of X G a17, PySem.W.mg_none_of X G z0, PySem.W.mg_none_of X G z1, PySem.W.mg_none_of X G z2, PySem.W.mg_none_of X G z3, PySem.W.mg_none_of X G z4, PySem.W.mg_none_of X G z5, PySem.W.mg_none_of X G z6, PySem.W.mg_none_of X G z7, PySem.W.mg_none_of X G z8, PySem.W.mg_none_of X G z9, PySem.W.mg_none_of X G z10, LB, e3⟩
  exact ⟨PySem.W.fnOf "law" "law" (defArgs s_law) (defBody s_law) (defScope s_law) .none kV17 dc17 pm17 an17 cd17 ct17, fun s v => .of_eq rfl, fun base _ _ LB => ok_law (T base LB)⟩
theorem walk {l : PySem.W.OpenLaw} {q : Program} {loose : List Str} {XP : (Str → Option Value) → Heap → Prop} {YP : World → Heap → Prop} {d dn : DefRec} {K : Params → PySem.W.Frag} (hn : l.most = some 63) (hdf : d.params.defaults = [])
    (hY : ∀ (w : World) (h : Heap), YP w h → (K w.params).In h) (hnt : ∀ p, noTab (K p) = true) (hdn : (PyProof.Rows.recsOf q).find? (fun e => e.name == ("reached_from" : Str)) = some dn)
    (F : ∀ (w : World) (mg : Str → Option Value) (fa f c Pt : Addr) (h : Heap), (K w.params).In h → h.Ns mainGlobals mg → mg d.name = some (.ref fa) → mg "reached_from" = some (.ref f) → (∃ o fd, h.get? f = some o ∧ o.data = .func fd ∧ fd.code = .ref c) →
      ∃ fd : FuncData, (∀ (s : Shared) (u : Value), BindsTo s fd ⟨[u], []⟩ [("_law_script", u)]) ∧ ∀ base : Heap, (K w.params).In base → base.Ns mainGlobals mg → LamB base mg c Pt → FnOk l.prog w (K w.params) mg base CX0 4 fa fd ["_law_script"] (spLaw (K w.params) Pt)) :
    PySem.W.WalkO q loose XP YP l.row.toRowW d [] (fun f vs => PySem.call f vs) :=
  L2.walk_of1 (n := 63) (k := 4) (x := "_law_script") (dn := dn) (CX := fun _ => CX0) (sp := fun w Pt => spLaw (K w.params) Pt) hn (by decide) hdf ⟨rfl, by decide, by decide⟩ hY hnt (List.mem_of_find?_eq_some hdn) (fun w mg fa f c Pt h k1 k2 k3 k4 k5 => F w mg fa f c Pt h k1 k2 k3 (by rw [← show dn.name = "reached_from" from beq_iff_eq.mp (List.find?_some (p := fun e : DefRec => e.name == ("reached_from" : Str)) hdn)]; exact k4) k5) (fun _ _ _ a ns hl hP hS => ⟨a, ns, rfl, hS, hl, hP, fun _ => rfl⟩) fun _ _ _ _ _ z => z
end Law
open PySem PySem.W PyProof.Rows
set_option maxRecDepth 100000 in
set_option maxHeartbeats 0 in
theorem PySem.Challenge.cw_pollproof_k52_ways_and_cuts_show_holds : PySem.Challenge.rw_pollproof_k52_ways_and_cuts_show.Holds := by
  refine Head.top ?_
  k_fill
  refine Law.walk (l := PySem.Challenge.rw_pollproof_k52_ways_and_cuts_show) (dn := ((recsOf Head.q0).find? fun e => e.name == ("reached_from" : Str)).get (by decide +kernel)) rfl rfl (fun w h Y => PySem.W.km_in_of Y) ?nt (Option.some_get _).symm ?F
  case nt => exact fun p => by kernel_rfl
  case F =>
    intro w mg fa lf lc lP h KX G hmg hlf hlT
    refine' Law.all_mk KX G hmg hlf hlT ?a1 ?l1 ?c1 ?k1 ?a2 ?l2 ?c2 ?k2 ?a3 ?l3 ?c3 ?k3 ?a4 ?l4 ?c4 ?k4 ?a5 ?l5 ?c5 ?k5 ?a6 ?l6 ?c6 ?k6 ?a7 ?l7 ?c7 ?k7 ?a8 ?l8 ?c8 ?k8 ?a9 ?l9 ?c9 ?k9 ?a10 ?l10 ?c10 ?k10 ?a11 ?l11 ?c11 ?k11 ?a12 ?l12 ?c12 ?k12 ?a13 ?l13 ?c13 ?k13 ?a14 ?l14 ?c14 ?k14 ?a15 ?l15 ?c15 ?k15 ?a16 ?l16 ?c16 ?k16 ?a17 ?l17 ?c17 ?k17 ?z0 ?z1 ?z2 ?z3 ?z4 ?z5 ?z6 ?z7 ?z8 ?z9 ?z10
    (case a1 => k_is)
    (case l1 => k_is)
    (case c1 => k_is)
    (case k1 => k_is)
    (case a2 => k_is)
    (case l2 => k_is)
    (case c2 => k_is)
    (case k2 => k_is)
    (case a3 => k_is)
    (case l3 => k_is)
    (case c3 => k_is)
    (case k3 => k_is)
    (case a4 => k_is)
    (case l4 => k_is)
    (case c4 => k_is)
    (case k4 => k_is)
    (case a5 => k_is)
    (case l5 => k_is)
    (case c5 => k_is)
    (case k5 => k_is)
    (case a6 => k_is)
    (case l6 => k_is)
    (case c6 => k_is)
    (case k6 => k_is)
    (case a7 => k_is)
    (case l7 => k_is)
    (case c7 => k_is)
    (case k7 => k_is)
    (case a8 => k_is)
    (case l8 => k_is)
    (case c8 => k_is)
    (case k8 => k_is)
    (case a9 => k_is)
    (case l9 => k_is)
    (case c9 => k_is)
    (case k9 => k_is)
    (case a10 => k_is)
    (case l10 => k_is)
    (case c10 => k_is)
    (case k10 => k_is)
    (case a11 => k_is)
    (case l11 => k_is)
    (case c11 => k_is)
    (case k11 => k_is)
    (case a12 => k_is)
    (case l12 => k_is)
    (case c12 => k_is)
    (case k12 => k_is)
    (case a13 => k_is)
    (case l13 => k_is)
    (case c13 => k_is)
    (case k13 => k_is)
    (case a14 => k_is)
    (case l14 => k_is)
    (case c14 => k_is)
    (case k14 => k_is)
    (case a15 => k_is)
    (case l15 => k_is)
    (case c15 => k_is)
    (case k15 => k_is)
    (case a16 => k_is)
    (case l16 => k_is)
    (case c16 => k_is)
    (case k16 => k_is)
    (case a17 => k_is)
    (case l17 => k_is)
    (case c17 => k_is)
    (case k17 => k_is)
    (case z0 => k_is)
    (case z1 => k_is)
    (case z2 => k_is)
    (case z3 => k_is)
    (case z4 => k_is)
    (case z5 => k_is)
    (case z6 => k_is)
    (case z7 => k_is)
    (case z8 => k_is)
    (case z9 => k_is)
    (case z10 => k_is)
#print axioms PySem.Challenge.cw_pollproof_k52_ways_and_cuts_show_holds
