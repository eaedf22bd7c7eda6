import PyProof.Rows.All
import Wide.All
import OpenK.AllK
import Wide.FinOn
import Lean
import PyProof.EqAt
import PyProof.EqKinds
import PyProof.TupleCall
import PySem.Challenge.RW_pollproof_k23_there_and_back
set_option Elab.async false
set_option linter.all false
set_option maxRecDepth 100000
namespace Head
open PySem PySem.W PyProof.Rows
def runT (p : Program) (w : World) (n0 : Nat) (ann : Option Value) : Nat → SharedT → Thread → Option SharedT
  | 0, _, _ => none
  | n + 1, s, t => match through t with
    | true => some s
    | false => match stepOk n0 ann t with
      | false => none
      | true => match stepT (denote treeTable) p w s t with
        | some (s', t') => runT p w n0 ann n s' t'
        | none => none
theorem runT_of {p : Program} {w : World} {n0 : Nat} {ann : Option Value} : ∀ {n : Nat} {s s' : SharedT} {t : Thread}, runT p w n0 ann n s t = some s' → topRun treeTable p w n0 ann n s.abs t = some s'.abs
  | 0, _, _, _, h => by cases h
  | n + 1, s, s', t, h => by
    unfold runT at h
    unfold topRun
    cases he : through t with
    | true => rw [he] at h; cases h; rfl
    | false =>
      rw [he] at h
      cases hk : stepOk n0 ann t with
      | false => rw [hk] at h; cases h
      | true =>
        rw [hk] at h
        cases hs : stepT (denote treeTable) p w s t with
        | none => rw [hs] at h; cases h
        | some r => obtain ⟨s2, t2⟩ := r; rw [hs] at h; rw [stepT_spec hs]; exact runT_of h
def grow : List Obj → Nat → BT → Option BT
  | [], _, t => some t
  | o :: os, n, t => match ((t.ins n o).get n).isSome with
    | true => grow os (n + 1) (t.ins n o)
    | false => none
theorem grow_of {life : Life} : ∀ {os : List Obj} {n : Nat} {t t' : BT} {xs : List Obj}, (absHeap t n life) = ⟨xs.toArray, life⟩ → grow os n t = some t' → absHeap t' (n + os.length) life = ⟨(xs ++ os).toArray, life⟩
  | [], n, t, t', xs, a, h => by
    cases h
    rw [List.append_nil]
    exact a
  | o :: os, n, t, t', xs, a, h => by
    unfold grow at h
    cases g : ((t.ins n o).get n).isSome with
    | false => rw [g] at h; cases h
    | true =>
      rw [g] at h
      have b : absHeap (t.ins n o) (n + 1) life = ⟨(xs ++ [o]).toArray, life⟩ := by
        rw [absHeap_ins g, a]
        show (⟨xs.toArray.push o, life⟩ : Heap) = _
        rw [List.push_toArray]
      have c := grow_of b h
      rw [List.append_assoc] at c
      rw [List.length_cons, show n + (os.length + 1) = n + 1 + os.length by omega]
      exact c
theorem grow_all {H : Heap} {T : BT} (h : grow H.objs.toList 0 .nil = some T) : absHeap T H.objs.size H.life = H := by
  have c := grow_of (life := H.life) (n := 0) (t := .nil) (xs := []) rfl h
  rw [Nat.zero_add, Array.length_toList] at c
  rw [c]
  obtain ⟨a, l⟩ := H
  show (⟨([] ++ a.toList).toArray, l⟩ : Heap) = ⟨a, l⟩
  rw [List.nil_append, Array.toArray_toList]
theorem left {p q : Program} {loose : List PySem.Str} {Xt : Shared → Bool} {α : Type} {Yf : Shared → α} {Ya : World → α} {N : Nat} {g0 : Bool}
    (e : opening p = plainProg p.main.scope.names) (hN : Nat.ble 600 N = true) (f : ∀ s, fenceModules? p s = some s)
    (h : ∀ (w : World) (os : OsState), ((grow (boot_heap w.params).objs.toList 0 .nil).bind fun T => (runT p w (boot_heap w.params).objs.size ((boot_heap w.params).nsMap mainGlobals "__annotations__") N ⟨T, (boot_heap w.params).objs.size, (boot_heap w.params).life, Array.mk [], boot_drawn, boot_toks, os⟩ (topStub p)).map fun s =>
      (((boot_heap w.params).isNs mainGlobals, staticsOk (importedModules p.main.body) (boot_heap w.params) s.abs.heap && namesBound p s.abs.heap && gensDone s.abs && laidKept (boot_heap w.params) s.abs.heap), openSeen q loose (importedModules p.main.body) Xt g0 s.abs, Yf s.abs)) =
      some ((true, true), openGood q loose, Ya w)) : LeftO p q loose Xt Yf Ya N g0 := fun w => by
  obtain ⟨⟨hp, gs, d, k, os⟩, e1, e2⟩ := Option.map_eq_some_iff.mp (boot_open e hN f w)
  obtain ⟨rfl, rfl, rfl, rfl⟩ : hp = boot_heap w.params ∧ gs = Array.mk [] ∧ d = boot_drawn ∧ k = boot_toks := by simpa using e2
  have z := h w os
  cases gT : grow (boot_heap w.params).objs.toList 0 .nil with
  | none => rw [gT] at z; cases z
  | some T =>
    rw [gT] at z
    obtain ⟨s, r, y⟩ := Option.map_eq_some_iff.mp z
    have r' := runT_of r
    injection y with y1 y2
    injection y1 with y3 y4
    injection y2 with y5 y6
    have a : (⟨T, (boot_heap w.params).objs.size, (boot_heap w.params).life, Array.mk [], boot_drawn, boot_toks, os⟩ : SharedT).abs = ⟨boot_heap w.params, Array.mk [], boot_drawn, boot_toks, os⟩ := by
      unfold SharedT.abs
      rw [grow_all gT]
    rw [a] at r'
    unfold openEnds
    rw [e1]
    show (topFrom treeTable p w N _).map _ = _
    have t : topFrom treeTable p w N ⟨boot_heap w.params, Array.mk [], boot_drawn, boot_toks, os⟩ = some s.abs := by
      unfold topFrom
      dsimp only
      rw [y3, r']
      show (match staticsOk (importedModules p.main.body) (boot_heap w.params) s.abs.heap && namesBound p s.abs.heap && gensDone s.abs && laidKept (boot_heap w.params) s.abs.heap with | true => _ | false => _) = _
      rw [y4]
    rw [t]
    exact congrArg some (Prod.ext y5 y6)
end Head
namespace Head
open PySem PySem.W PyProof.Rows
abbrev q0 : Program := view PySem.Challenge.pw_pollproof_k23_there_and_back [26]
abbrev r0 : OpenRow := OpenLaw.row PySem.Challenge.rw_pollproof_k23_there_and_back
local macro_rules | `(tactic| o_head $H) => do
  let (hl, hw, hc) := (Lean.mkIdent `hl, Lean.mkIdent `hw, Lean.mkIdent `hc)
  `(tactic| (
    refine holds_open (r := r0) (q := q0) (loose := [PySem.Str.ofString "PollError", PySem.Str.ofString "NoBallot", PySem.Str.ofString "with_one", PySem.Str.ofString "members", PySem.Str.ofString "is_whole", PySem.Str.ofString "MOST_RANK", PySem.Str.ofString "is_rank", PySem.Str.ofString "are_ranks", PySem.Str.ofString "tier_at", PySem.Str.ofString "slip_of", PySem.Str.ofString "ranks_of", PySem.Str.ofString "_law_whole", PySem.Str.ofString "_law_cell", PySem.Str.ofString "_law_mixed", PySem.Str.ofString "_law_ranks", PySem.Str.ofString "_law_tier", PySem.Str.ofString "_law_slip", PySem.Str.ofString "_law_same_slip", PySem.Str.ofString "_law_closed", PySem.Str.ofString "_law_told", PySem.Str.ofString "_law_others"]) (N := 100000)
      (Xt := fun s => xlAt q0 [] s && recOk (RowW.records (OpenRow.toRowW r0)) s)
      (XP := XL q0 []) (Yf := Hook.obs $H) (Ya := Hook.val $H) (YP := Hook.says $H)
      ?$hl (Hook.of $H) (Hook.keeps $H) (fun s e => xl_of s (Bool.and_eq_true_iff.mp e).1) XL.keeps
      (by rfl) (by rfl) (by rfl) (fun s e => recFacts_of (Bool.and_eq_true_iff.mp e).2) (by rfl) (by assumption)
      (by decide +kernel) ⟨rfl, rfl, rfl, rfl, rfl, by decide +kernel⟩ ?$hw ?$hc;
    (next => (exact left (by kernel_rfl) (by decide) (fun s => by kernel_rfl) (fun w os => by kernel_rfl)))))
set_option maxRecDepth 100000 in
set_option maxHeartbeats 0 in
open_top top for PySem.Challenge.rw_pollproof_k23_there_and_back
end Head
namespace L2
open PySem PySem.Spec PyProof.Rows
abbrev Key := Sum Int Str
def keyIs : Key → Value → Bool
  | .inl k, v => Value.isInt k v
  | .inr x, v => Value.isStrOf x v
def keyH (w : World) : Key → Int
  | .inl k => hashInt k
  | .inr x => hashStr w x
theorem keyIs_shape : ∀ {k : Key} {v : Value}, keyIs k v = true → (∃ i t, k = Sum.inl i ∧ v = Value.int i t) ∨ (∃ x t, k = Sum.inr x ∧ v = Value.str x t)
  | .inl i, v, h => by
    obtain ⟨t, e⟩ := Value.isInt_shape (k := i) (v := v) h
    exact .inl ⟨i, t, rfl, e⟩
  | .inr x, v, h => by
    obtain ⟨t, e⟩ := Value.isStrOf_shape (x := x) (v := v) h
    exact .inr ⟨x, t, rfl, e⟩
theorem key_ll (a b : Int) : decide ((Sum.inl a : Key) = Sum.inl b) = (a == b) := by
  by_cases e : a = b
  · subst e; simp
  · have h : ¬ (Sum.inl a : Key) = Sum.inl b := fun q => e (Sum.inl.inj q)
    rw [decide_eq_false h]
    exact (beq_eq_false_iff_ne.mpr e).symm
theorem key_rr (a b : Str) : decide ((Sum.inr a : Key) = Sum.inr b) = decide (a = b) := by
  by_cases e : a = b
  · subst e; simp
  · have h : ¬ (Sum.inr a : Key) = Sum.inr b := fun q => e (Sum.inr.inj q)
    rw [decide_eq_false h, decide_eq_false e]
theorem key_lr (a : Int) (b : Str) : decide ((Sum.inl a : Key) = Sum.inr b) = false := decide_eq_false (fun q => nomatch q)
theorem key_rl (a : Str) (b : Int) : decide ((Sum.inr a : Key) = Sum.inl b) = false := decide_eq_false (fun q => nomatch q)
def mixKind (prog : Program) (w : World) : PySem.KeyKind prog w Key where
  is := keyIs
  hash := keyH w
  inj := fun v a b ha hb => by
    rcases keyIs_shape ha with ⟨i, t, rfl, rfl⟩ | ⟨x, t, rfl, rfl⟩
    · rcases keyIs_shape hb with ⟨j, u, rfl, e⟩ | ⟨y, u, rfl, e⟩
      · injection e with e1 _; rw [e1]
      · exact nomatch e
    · rcases keyIs_shape hb with ⟨j, u, rfl, e⟩ | ⟨y, u, rfl, e⟩
      · exact nomatch e
      · injection e with e1 _; rw [e1]
  byValue := fun k v h => by
    rcases keyIs_shape h with ⟨i, t, rfl, rfl⟩ | ⟨x, t, rfl, rfl⟩ <;> rfl
  pyHash := fun hv h => by
    rcases keyIs_shape hv with ⟨i, t, rfl, rfl⟩ | ⟨x, t, rfl, rfl⟩
    · exact wpAny_pyHash_int h
    · exact wpAny_pyHash_str h
  eqBool := fun hu hv h => by
    rcases keyIs_shape hu with ⟨i, t, rfl, rfl⟩ | ⟨x, t, rfl, rfl⟩
    · rcases keyIs_shape hv with ⟨j, u, rfl, rfl⟩ | ⟨y, u, rfl, rfl⟩
      · rw [key_ll] at h; exact wpAny_eqBool_int h
      · rw [key_lr] at h; exact SeqAt.EqAt.int_str i t y u _ _ _ _ h
    · rcases keyIs_shape hv with ⟨j, u, rfl, rfl⟩ | ⟨y, u, rfl, rfl⟩
      · rw [key_rl] at h; exact SeqAt.EqAt.str_int x t j u _ _ _ _ h
      · rw [key_rr] at h; exact wpAny_eqBool_str h
  «strs» := fun k x t v h => by
    rcases keyIs_shape h with ⟨i, u, rfl, e⟩ | ⟨y, u, rfl, e⟩
    · exact nomatch e
    · injection e with e1 _
      subst e1
      cases v <;> rfl
end L2
namespace L2
open PySem PySem.Spec PyProof.Rows
inductive V where
  | non | bl (b : Bool) | int (i : Int) | str (x : Str) | byt (b : Array UInt8) | flt (b : UInt64) | ref (a : Addr) | ty (n : String)
  deriving DecidableEq
def RelV : V → Value → Prop
  | .non, u => u = Value.none
  | .bl b, u => u = Value.bool b
  | .int i, u => ∃ t, u = Value.int i t
  | .str x, u => ∃ t, u = Value.str x t
  | .byt b, u => ∃ t, u = Value.bytes b t
  | .flt b, u => ∃ t, u = Value.float b t
  | .ref a, u => u = Value.ref a
  | .ty n, u => u = Value.type n
abbrev Vals : List V → List Value → Prop := Paired RelV
theorem Vals.length {xs : List V} {us : List Value} (r : Vals xs us) : xs.length = us.length := Paired.length r
theorem Vals.get : ∀ {xs : List V} {us : List Value} {i : Nat} {x : V}, Vals xs us → xs[i]? = some x → ∃ u, us[i]? = some u ∧ RelV x u
  | _, _, _, _, .nil, e => by simp at e
  | _, _, 0, _, .cons r _, e => by simp at e; subst e; exact ⟨_, rfl, r⟩
  | _, _, i + 1, x, .cons _ t, e => by
    obtain ⟨u, h1, h2⟩ := Vals.get (i := i) (x := x) t (by simpa using e)
    exact ⟨u, by simpa using h1, h2⟩
theorem Vals.set {x : V} {u : Value} (r : RelV x u) : ∀ {xs : List V} {us : List Value} (i : Nat), Vals xs us → Vals (xs.set i x) (us.set i u)
  | _, _, _, .nil => .nil
  | _, _, 0, .cons _ t => .cons r t
  | _, _, i + 1, .cons q t => .cons q (Vals.set r i t)
theorem Vals.append : ∀ {xs ys : List V} {us ws : List Value}, Vals xs us → Vals ys ws → Vals (xs ++ ys) (us ++ ws)
  | _, _, _, _, .nil, s => s
  | _, _, _, _, .cons r t, s => .cons r (Vals.append t s)
def RelO : Option V → Option Value → Prop
  | some v, some u => RelV v u
  | none, none => True
  | _, _ => False
def KV {κ : Type} : List (κ × V) → List (κ × Value) → Prop := Paired fun (p : κ × V) (q : κ × Value) => p.1 = q.1 ∧ RelV p.2 q.2
def kV : Key → V
  | .inl i => .int i
  | .inr x => .str x
inductive HO where
  | lst (xs : List V)
  | tup (xs : List V)
  | dK (kvs : List (Key × V)) | dT (kvs : List (List Key × V))
  | set (S : Int → Bool) (n : Nat)
  | ins (C dx : Addr) (fs : List (Str × V))
  | own (x : Addr)
  | xd (fs : List (Str × V))
  | met (f x : Addr)
  | rng (lo hi : Int)
  | frz (o : Obj) (u : HO)
  | tbl (ps : Array Value)
  | ext (φ : Heap → Prop)
abbrev Hp := Addr → Option HO
def upd (H : Hp) (a : Addr) (o : HO) : Hp := fun b => if b = a then some o else H b
theorem upd_same {H : Hp} {a : Addr} {o : HO} : upd H a o a = some o := by unfold upd; rw [if_pos rfl]
theorem upd_ne {H : Hp} {a b : Addr} {o : HO} (h : b ≠ a) : upd H a o b = H b := by unfold upd; rw [if_neg h]
theorem upd_upd {H : Hp} {a : Addr} {o u : HO} : upd (upd H a o) a u = upd H a u := by
  funext b; unfold upd; split <;> rfl
theorem ne_of_none {H : Hp} {a b : Addr} {o : HO} (h : H a = some o) (h' : H b = none) : a ≠ b := by
  intro e; subst e; rw [h] at h'; cases h'
section
variable (P : Program) (w : World)
def ObjOk (H : Hp) (h : Heap) (a : Addr) : HO → Prop
  | .lst xs => xs.length ≤ sizeLine ∧ ∃ (its : List Value) (n : Nat), Vals xs its ∧ h.get? a = some { cls := .type "list", data := .seq its.toArray n }
  | .tup xs => xs.length ≤ sizeLine ∧ ∃ its : List Value, Vals xs its ∧ IsTup h a its.toArray
  | .dK kvs => kvs.length ≤ sizeLine ∧ (a == sysModules) = false ∧ ∃ vs, KV kvs vs ∧ h.DictOf (mixKind P w) a vs
  | .dT kvs => kvs.length ≤ sizeLine ∧ (a == sysModules) = false ∧ ∃ xs : List (List Key × Addr × Value),
      Paired (fun (p : List Key × V) (q : List Key × Addr × Value) => p.1 = q.1 ∧ H q.2.1 = some (.tup (p.1.map kV)) ∧ RelV p.2 q.2.2) kvs xs ∧
      ∃ o es ep, h.get? a = some o ∧ o.ExactDict ∧ o.data = .dict es ep ∧ es.toList = xs.map (entryOfKey (tupleKind (mixKind P w))) ∧ (xs.map (·.1)).Nodup
  | .set S n => h.SetOf (intKind P w) a S n
  | .ins C dx fs => H dx = some (.own a) ∧ fs.length ≤ 1000 ∧ dx ≠ a ∧ h.get? a = some (PySem.W.instObj C dx) ∧
      ∃ mA, h.Ns1 dx mA ∧ (∀ f, RelO (fs.lookup f) (mA f)) ∧ PySem.Within mA (fs.map (·.1))
  | .own _ => ∃ o, h.get? a = some o
  | .xd fs => ∃ mA, h.Ns1 a mA ∧ ∀ f, RelO (fs.lookup f) (mA f)
  | .rng lo hi => ∃ t u v, h.get? a = some { cls := .type "range", data := .fields #[.int lo t, .int hi u, .int 1 v] }
  | .frz o u => h.get? a = some o ∧ ObjOk H h a u
  | .tbl ps => h.get? a = some { cls := .none, data := .fields ps }
  | .met f x => h.get? a = some (PySem.W.methodObj (.ref f) (.ref x))
  | .ext φ => φ h ∧ (∃ o, h.get? a = some o) ∧ ∀ h1 h2 : Heap, φ h1 → (∀ o, h1.get? a = some o → h2.get? a = some o) → φ h2
def HOk (H : Hp) (h : Heap) : Prop := ∀ a o, H a = some o → ObjOk P w H h a o
end
section
variable {P : Program} {w : World} {H H' : Hp} {h h' : Heap} {a : Addr} {o : HO}
theorem ObjOk.lt (x : ObjOk P w H h a o) : a < h.objs.size := by
  cases o with
  | lst xs => obtain ⟨_, _, _, _, e⟩ := x; exact Heap.lt_size e
  | tup xs => obtain ⟨_, _, _, p⟩ := x; exact p.lt
  | dK kvs => obtain ⟨_, _, _, _, o, _, _, e, _⟩ := x; exact Heap.lt_size e
  | dT kvs => obtain ⟨_, _, _, _, o, _, _, e, _⟩ := x; exact Heap.lt_size e
  | set S n => obtain ⟨o, _, _, _, e, _⟩ := x; exact Heap.lt_size e
  | ins C dx fs => obtain ⟨_, _, _, e, _⟩ := x; exact Heap.lt_size e
  | own y => obtain ⟨_, e⟩ := x; exact Heap.lt_size e
  | xd fs => obtain ⟨_, ⟨_, _, _, e, _⟩, _⟩ := x; exact Heap.lt_size e
  | rng lo hi => obtain ⟨_, _, _, e⟩ := x; exact Heap.lt_size e
  | frz ob u => obtain ⟨e, _⟩ := x; exact Heap.lt_size e
  | tbl ps => exact Heap.lt_size (show h.get? a = some _ from x)
  | met f y => exact Heap.lt_size (show h.get? a = some _ from x)
  | ext φ => obtain ⟨_, ⟨_, e⟩, _⟩ := x; exact Heap.lt_size e
theorem Paired.mapP {α β : Type} {F G : α → β → Prop} : ∀ {l₁ : List α} {l₂ : List β}, Paired F l₁ l₂ → (∀ a b, F a b → G a b) → Paired G l₁ l₂
  | _, _, .nil, _ => .nil
  | _, _, .cons r t, f => .cons (f _ _ r) (Paired.mapP t f)
theorem ObjOk.stay (x : ObjOk P w H h a o) (k : ∀ b u, (b = a ∨ H b = some (.own a)) → h.get? b = some u → h'.get? b = some u)
    (ho : ∀ b, H b = some (.own a) → H' b = some (.own a)) (ht : ∀ b xs, H b = some (.tup xs) → H' b = some (.tup xs)) : ObjOk P w H' h' a o := by
  induction o with
  | lst xs => obtain ⟨z, its, n, r, e⟩ := x; exact ⟨z, its, n, r, k _ _ (.inl rfl) e⟩
  | tup xs => obtain ⟨z, its, r, ob, e, c⟩ := x; exact ⟨z, its, r, ob, k _ _ (.inl rfl) e, c⟩
  | dK kvs => obtain ⟨z, y, vs, r, ob, es, ep, e, c⟩ := x; exact ⟨z, y, vs, r, ob, es, ep, k _ _ (.inl rfl) e, c⟩
  | dT kvs =>
    obtain ⟨z, y, xs, r, ob, es, ep, e, c⟩ := x
    exact ⟨z, y, xs, Paired.mapP r fun p q z => ⟨z.1, ht _ _ z.2.1, z.2.2⟩, ob, es, ep, k _ _ (.inl rfl) e, c⟩
  | set S n => obtain ⟨ob, es, ep, t, e, c⟩ := x; exact ⟨ob, es, ep, t, k _ _ (.inl rfl) e, c⟩
  | ins C dx fs =>
    obtain ⟨d, z, ne, e, mA, ⟨od, es, ep, e2, c⟩, r⟩ := x
    exact ⟨ho _ d, z, ne, k _ _ (.inl rfl) e, mA, ⟨od, es, ep, k _ _ (.inr d) e2, c⟩, r⟩
  | own y => obtain ⟨ob, e⟩ := x; exact ⟨ob, k _ _ (.inl rfl) e⟩
  | xd fs => obtain ⟨mA, ⟨od, es, ep, e, c⟩, r⟩ := x; exact ⟨mA, ⟨od, es, ep, k _ _ (.inl rfl) e, c⟩, r⟩
  | rng lo hi => obtain ⟨t, u, v, e⟩ := x; exact ⟨t, u, v, k _ _ (.inl rfl) e⟩
  | frz ob u ih => obtain ⟨e, q⟩ := x; exact ⟨k _ _ (.inl rfl) e, ih q⟩
  | tbl ps =>
    have e : h.get? a = some { cls := .none, data := .fields ps } := x
    show h'.get? a = some { cls := .none, data := .fields ps }
    exact k a _ (.inl rfl) e
  | met f y =>
    have e : h.get? a = some (PySem.W.methodObj (.ref f) (.ref y)) := x
    show h'.get? a = some (PySem.W.methodObj (.ref f) (.ref y))
    exact k a _ (.inl rfl) e
  | ext φ => obtain ⟨p, ⟨o, e⟩, st⟩ := x; exact ⟨st _ _ p fun o q => k _ _ (.inl rfl) q, ⟨o, k _ _ (.inl rfl) e⟩, st⟩
theorem HOk.lt (x : HOk P w H h) (e : H a = some o) : a < h.objs.size := (x a o e).lt
theorem HOk.fresh (x : HOk P w H h) (e : h.objs.size ≤ a) : H a = none := by
  cases q : H a with
  | none => rfl
  | some u => exact absurd (Nat.lt_of_lt_of_le (x.lt q) e) (Nat.lt_irrefl _)
theorem HOk.kept (x : HOk P w H h) (k : ∀ b u, h.get? b = some u → h'.get? b = some u) : HOk P w H h' := fun a o e =>
  (x a o e).stay (fun b u _ q => k b u q) (fun _ q => q) fun _ _ q => q
theorem HOk.laid (x : HOk P w H h) (k : ∀ b u, h.get? b = some u → h'.get? b = some u) (hp : h.objs.size ≤ a) (new : ObjOk P w (upd H a o) h' a o) : HOk P w (upd H a o) h' := fun b u e => by
  have hn := x.fresh hp
  by_cases hb : b = a
  · subst hb; rw [upd_same] at e; cases e; exact new
  · rw [upd_ne hb] at e
    exact (x b u e).stay (fun c v _ q => k c v q) (fun c q => by rw [upd_ne (ne_of_none q hn)]; exact q) fun c xs q => by rw [upd_ne (ne_of_none q hn)]; exact q
end
def Rd (H : Hp) (a : Addr) (u : HO) : Prop := H a = some u ∨ ∃ o, H a = some (.frz o u)
theorem Rd.ok {P : Program} {w : World} {H : Hp} {h : Heap} {a : Addr} {u : HO} (r : Rd H a u) (x : HOk P w H h) : ObjOk P w H h a u := by
  rcases r with r | ⟨o, r⟩
  · exact x a u r
  · obtain ⟨_, q⟩ := x a _ r
    exact q
def Mut : Option HO → Prop
  | some (.lst _) => True
  | some (.dK _) => True
  | some (.dT _) => True
  | some (.set _ _) => True
  | some (.ins _ _ _) => True
  | some (.ext _) => True
  | _ => False
section
variable {P : Program} {w : World} {H : Hp} {h h' : Heap} {x e : Addr} {o' : HO}
theorem HOk.write (ok : HOk P w H h) (mu : Mut (H x)) (he : e = x ∨ H e = some (.own x)) (k : ∀ b u, b ≠ e → h.get? b = some u → h'.get? b = some u) (heo : ∃ u, h'.get? e = some u)
    (new : ObjOk P w (upd H x o') h' x o') : HOk P w (upd H x o') h' := fun b u q => by
  have nown : ∀ c y, H c = some (.own y) → c ≠ x := fun c y r z => by subst z; rw [r] at mu; exact mu
  have ntup : ∀ c xs, H c = some (.tup xs) → c ≠ x := fun c xs r z => by subst z; rw [r] at mu; exact mu
  by_cases hb : b = x
  · subst hb; rw [upd_same] at q; cases q; exact new
  · rw [upd_ne hb] at q
    by_cases hbe : b = e
    · have q' : H b = some (.own x) := by
        rcases he with z | z
        · exact absurd (hbe.trans z) hb
        · rw [hbe]; exact z
      rw [q] at q'; cases q'
      obtain ⟨v, hv⟩ := heo
      exact ⟨v, by rw [hbe]; exact hv⟩
    · refine (ok b u q).stay (fun c v hc r => k c v ?_ r) (fun c r => by rw [upd_ne (nown c b r)]; exact r) fun c xs r => by rw [upd_ne (ntup c xs r)]; exact r
      rcases hc with rfl | hc
      · exact hbe
      · rintro rfl
        rcases he with z | z
        · exact nown c b hc z
        · rw [hc] at z; cases z; exact hb rfl
end
structure Un (fs ex : List Addr) (H H' : Hp) (h h' : Heap) : Prop where
  keep : ∀ b o, h.get? b = some o → H b = none → b ∉ fs → b ∉ ex → h'.get? b = some o
  slot : ∀ b o, h.get? b = some o → H b = none → b ∈ fs → b ∉ ex → ∃ sl, h'.get? b = some { o with slots := sl }
  free : ∀ b o, h.get? b = some o → H b = none → b ∉ ex → H' b = none
  there : ∀ b o, h.get? b = some o → b ∉ ex → ∃ o', h'.get? b = some o'
  tups : ∀ b xs, H b = some (.tup xs) → H' b = some (.tup xs)
  frzs : ∀ b o u, H b = some (.frz o u) → H' b = some (.frz o u)
  tbls : ∀ b ps, H b = some (.tbl ps) → ∃ more, H' b = some (.tbl (ps ++ more))
section
variable {fs fs' ex ex' : List Addr} {H H1 H2 : Hp} {h h1 h2 h' : Heap} {a x e : Addr} {o : HO}
theorem Un.any (u : Un fs ex H H1 h h1) {b : Addr} {ob : Obj} (q : h.get? b = some ob) (n : H b = none) (hx : b ∉ ex) : ∃ sl, h1.get? b = some { ob with slots := sl } := by
  by_cases hb : b ∈ fs
  · exact u.slot b ob q n hb hx
  · exact ⟨ob.slots, u.keep b ob q n hb hx⟩
theorem Un.kept (k : ∀ b u, h.get? b = some u → h'.get? b = some u) : Un fs ex H H h h' :=
  ⟨fun b ob q _ _ _ => k b ob q, fun b ob q _ _ _ => ⟨ob.slots, k b ob q⟩, fun _ _ _ n _ => n, fun b ob q _ => ⟨ob, k b ob q⟩, fun _ _ q => q, fun _ _ _ q => q, fun _ ps q => ⟨#[], by rw [q]; simp⟩⟩
theorem Un.refl : Un fs ex H H h h := Un.kept fun _ _ q => q
theorem Un.laid (k : ∀ b u, h.get? b = some u → h'.get? b = some u) (hp : h.objs.size ≤ a) (hn : H a = none) : Un fs ex H (upd H a o) h h' where
  keep := fun b u q _ _ _ => k b u q
  slot := fun b u q _ _ _ => ⟨u.slots, k b u q⟩
  free := fun b u q n _ => by rw [upd_ne (Nat.ne_of_lt (Nat.lt_of_lt_of_le (Heap.lt_size q) hp))]; exact n
  there := fun b u q _ => ⟨u, k b u q⟩
  tups := fun b xs q => by rw [upd_ne (ne_of_none q hn)]; exact q
  frzs := fun b u xs q => by rw [upd_ne (ne_of_none q hn)]; exact q
  tbls := fun b ps q => ⟨#[], by rw [upd_ne (ne_of_none q hn), q]; simp⟩
theorem Un.write (mu : Mut (H x)) (he : e = x ∨ H e = some (.own x)) (k : ∀ b u, b ≠ e → h.get? b = some u → h'.get? b = some u) (heo : ∃ u, h'.get? e = some u) : Un fs ex H (upd H x o) h h' := by
  have hx : ∀ b, H b = none → b ≠ x := fun b n z => by subst z; rw [n] at mu; exact mu
  have hb : ∀ b, H b = none → b ≠ e := fun b n z => by
    subst z
    rcases he with r | r
    · exact hx b n r
    · rw [n] at r; cases r
  have hm : ∀ b u, H b = some u → ¬ Mut (some u) → b ≠ x := fun b u q nm z => by subst z; rw [q] at mu; exact nm mu
  refine ⟨fun b u q n _ _ => k b u (hb b n) q, fun b u q n _ _ => ⟨u.slots, k b u (hb b n) q⟩, fun b u q n _ => by rw [upd_ne (hx b n)]; exact n, fun b u q _ => ?_,
    fun b xs q => by rw [upd_ne (hm b _ q fun z => z)]; exact q, fun b u xs q => by rw [upd_ne (hm b _ q fun z => z)]; exact q, fun b ps q => ⟨#[], by rw [upd_ne (hm b _ q fun z => z), q]; simp⟩⟩
  by_cases hbe : b = e
  · subst hbe; exact heo
  · exact ⟨u, k b u hbe q⟩
end
def trk (h : Heap) (H : Hp) : List Addr := (List.range h.objs.size).filter fun a => (H a).isSome
def hidT (h : Heap) (H : Hp) : Heap := PySem.W.hideAll h (trk h H)
theorem hidT_size (h : Heap) (H : Hp) : (hidT h H).objs.size = h.objs.size := PySem.W.hideAll_size _ _
theorem hidT_get {h : Heap} {H : Hp} {b : Addr} {o : Obj} (e : h.get? b = some o) (n : H b = none) : (hidT h H).get? b = some o :=
  PySem.W.hideAll_get _ e fun hm => by
    have q : (H b).isSome = true := (List.mem_filter.mp hm).2
    rw [n] at q; simp at q
theorem of_hidT {h : Heap} {H : Hp} {b : Addr} {o : Obj} (e : (hidT h H).get? b = some o) : h.get? b = some o ∧ H b = none := by
  have e' : h.get? b = some o := PySem.W.of_hideAll (trk h H) e
  refine ⟨e', ?_⟩
  cases q : H b with
  | none => rfl
  | some x =>
    have hm : b ∈ trk h H := List.mem_filter.mpr ⟨List.mem_range.mpr (Heap.lt_size e'), by simp [q]⟩
    have z : (hidT h H).get? b = none := PySem.W.hideAll_none (trk h H) hm
    rw [z] at e; cases e
end L2
namespace L2
open PySem PySem.Spec PyProof.Rows
structure Mod (K : PySem.W.Frag) (mg : Str → Option Value) (base : Heap) : Prop where
  kin : K.In base
  glob : base.Ns mainGlobals mg
  blt : ∃ mb, base.Ns builtinsNs mb ∧ ∀ x : Str, x ≠ "__name__" → mb x = bootBuiltins x
  nolimit : base.NoLimit
structure Cx where
  prog : Program
  w : World
  K : PySem.W.Frag
  mg : Str → Option Value
  base : Heap
  A : Around
  N : List Str
  s₀ : Shared
  H₀ : Hp
  env : Env
  outer : List Env
  stack : List Env
  ex : List Addr
  fn : Str → Bool
  calm : Bool
  pn : List (Addr × Obj)
  xe : Value → Shared → Prop
def frs (l : List Env) : List Addr := l.filterMap (·.frame)
abbrev Cx.fs (X : Cx) : List Addr := frs X.outer
def Vis (sc : Scope) (x : Str) : Prop := sc.names.lookup x = some .local ∨ sc.names.lookup x = some .cell ∨ sc.names.lookup x = some .free
def Loc (sc : Scope) (x : Str) : Prop := sc.names.lookup x = some .local ∨ sc.names.lookup x = some .cell
def Look (env : Env) (h : Heap) (m : Str → Option Value) (x : Str) (u : Value) : Prop :=
  (env.kindOf x = some .local ∧ m x = some u) ∨ ((env.kindOf x = some .cell ∨ env.kindOf x = some .free) ∧ ∃ c, env.cells.lookup x = some c ∧ h.IsCell c (some u))
structure Cx.Ok (X : Cx) : Prop where
  mod : Mod X.K X.mg X.base
  kind : X.env.scope.kind = .function
  glob : X.env.globals = mainGlobals
  blt : X.env.builtins = builtinsNs
  above : X.s₀.heap.objs.size ≤ X.env.locals
  inj : ∀ x y c, X.env.cells.lookup x = some c → X.env.cells.lookup y = some c → x = y
  has : ∀ x, (X.env.kindOf x = some .cell ∨ X.env.kindOf x = some .free) → ∃ c, X.env.cells.lookup x = some c
  cab : ∀ x c, X.fn x = true → X.env.cells.lookup x = some c → X.s₀.heap.objs.size ≤ c
  hd : X.calm = true → X.A.handled = none
  frames : X.A.frames = some X.stack
  stk : X.stack = X.outer ∨ (X.stack = X.env :: X.outer ∧ X.env.frame = some X.env.locals)
  exf : ∀ b ∈ X.ex, b ≠ X.env.locals ∧ ∀ x c, X.env.cells.lookup x = some c → c ≠ b
  bs : ∀ b o, X.base.get? b = some o → X.s₀.heap.get? b = some o ∧ X.H₀ b = none
  bsz : X.base.objs.size ≤ X.s₀.heap.objs.size
  noex : ∀ b o, X.base.get? b = some o → b ∉ X.ex
  exfs : ∀ b ∈ X.ex, b ∉ X.fs
  funs : X.s₀.heap.FunFrames X.base X.outer
  frf : ∀ b ∈ X.fs, X.H₀ b = none
structure Inv (X : Cx) (pins : List (Addr × Obj)) (σ : List (Option V)) (H : Hp) (s : Shared) : Prop where
  ok : X.Ok
  os : s.os = X.s₀.os
  bare : AllBare s.gens
  base : Un X.fs X.ex X.H₀ H X.s₀.heap s.heap
  loc : ∃ m, s.heap.Ns X.env.locals m ∧ ∀ (i : Nat) (x : Str) (v : V), X.N[i]? = some x → σ[i]? = some (some v) → Vis X.env.scope x → ∃ u, RelV v u ∧ Look X.env s.heap m x u
  cell : ∀ x c, X.env.cells.lookup x = some c → ∃ v, s.heap.IsCell c v
  free : H X.env.locals = none
  freeC : ∀ x c, X.env.cells.lookup x = some c → H c = none
  pin : ∀ p ∈ X.pn ++ pins, s.heap.get? p.1 = some p.2 ∧ H p.1 = none ∧ p.1 ≠ X.env.locals ∧ p.1 ∉ X.fs ∧ ∀ v, p.2.data ≠ .cell v
  hok : HOk X.prog X.w H s.heap
  len : σ.length = X.N.length
section
variable {X : Cx} {pins : List (Addr × Obj)} {σ : List (Option V)} {H H' : Hp} {s : Shared} {h' : Heap}
theorem Cx.Ok.nofr (ok : X.Ok) {b : Addr} {o : Obj} (e : X.base.get? b = some o) : b ∉ X.fs := fun hb => by
  have := (ok.funs.mem hb).1
  rw [e] at this; cases this
theorem Inv.bs (I : Inv X pins σ H s) : ∀ b o, X.base.get? b = some o → s.heap.get? b = some o ∧ H b = none := fun b o e =>
  ⟨I.base.keep b o (I.ok.bs b o e).1 (I.ok.bs b o e).2 (I.ok.nofr e) (I.ok.noex b o e), I.base.free b o (I.ok.bs b o e).1 (I.ok.bs b o e).2 (I.ok.noex b o e)⟩
theorem Inv.bk (I : Inv X pins σ H s) : ∀ b o, X.base.get? b = some o → s.heap.get? b = some o := fun b o e => (I.bs b o e).1
theorem Inv.mod (I : Inv X pins σ H s) : Mod X.K X.mg X.base := I.ok.mod
theorem Inv.kIn (I : Inv X pins σ H s) : X.K.In s.heap := I.ok.mod.kin.keeps I.bk
theorem Inv.lt (I : Inv X pins σ H s) : X.env.locals < s.heap.objs.size := let ⟨_, hn, _⟩ := I.loc; hn.lt
theorem Inv.sz (I : Inv X pins σ H s) : X.s₀.heap.objs.size ≤ s.heap.objs.size := Nat.le_trans I.ok.above (Nat.le_of_lt I.lt)
theorem Inv.nofs (I : Inv X pins σ H s) {a : Addr} (h : s.heap.objs.size ≤ a) : a ∉ X.fs := fun hb => by
  obtain ⟨_, o, ho, _⟩ := I.ok.funs.mem hb
  exact absurd (Nat.lt_of_lt_of_le (Heap.lt_size ho) (Nat.le_trans I.sz h)) (Nat.lt_irrefl _)
theorem Inv.cne (I : Inv X pins σ H s) : ∀ x c, X.env.cells.lookup x = some c → c ≠ X.env.locals := fun x c e z => by
  obtain ⟨v, o, ho, hd⟩ := I.cell x c e
  obtain ⟨m, ⟨o', es, ep, ho', hd', _⟩, _⟩ := I.loc
  rw [z, ho'] at ho; cases ho; rw [hd'] at hd; cases hd
theorem Inv.funs (I : Inv X pins σ H s) : s.heap.FunFrames X.base X.outer := by
  have all : ∀ (l : List Env), (∀ b ∈ frs l, b ∈ X.fs) → X.s₀.heap.FunFrames X.base l → s.heap.FunFrames X.base l := by
    intro l
    induction l with
    | nil => intro _ _; trivial
    | cons env r ih =>
      intro hs hl
      obtain ⟨hk, ⟨L, o, hf, hn, ho, hd⟩, hr⟩ := hl
      have hL : L ∈ X.fs := hs L (by unfold frs; rw [List.filterMap_cons, hf]; exact List.mem_cons_self)
      obtain ⟨sl, e⟩ := I.base.slot L o ho (I.ok.frf L hL) hL fun z => I.ok.exfs L z hL
      exact ⟨hk, ⟨L, _, hf, hn, e, hd⟩, ih (fun b hb => hs b (by unfold frs; rw [List.filterMap_cons, hf]; exact List.mem_cons_of_mem _ hb)) hr⟩
  exact all X.outer (fun _ hb => hb) I.ok.funs
theorem Inv.stack (I : Inv X pins σ H s) : s.heap.FunFrames X.base X.stack := by
  rcases I.ok.stk with e | ⟨e, hf⟩
  · rw [e]; exact I.funs
  · rw [e]
    obtain ⟨m, hn, _⟩ := I.loc
    refine .cons (by rw [I.ok.kind]; decide) hf hn ?_ I.funs
    exact Heap.get?_none_of_le (Nat.le_trans I.ok.bsz I.ok.above)
theorem Inv.stkSub (I : Inv X pins σ H s) : ∀ b ∈ frs X.stack, b ∈ X.env.locals :: X.fs := fun b hb => by
  rcases I.ok.stk with e | ⟨e, hf⟩
  · rw [e] at hb; exact List.mem_cons_of_mem _ hb
  · rw [e] at hb
    unfold frs at hb
    rw [List.filterMap_cons, hf] at hb
    exact hb
theorem Inv.stkFree (I : Inv X pins σ H s) : ∀ b ∈ frs X.stack, H b = none := fun b hb => by
  rcases List.mem_cons.mp (I.stkSub b hb) with e | hb
  · rw [e]; exact I.free
  · obtain ⟨_, o, ho, _⟩ := I.ok.funs.mem hb
    exact I.base.free b o ho (I.ok.frf b hb) fun z => I.ok.exfs b z hb
theorem Inv.step {g' : Array GenState} {t' : Nat} {d' : Drawn} {ch : List Addr} (I : Inv X pins σ H s)
    (hch : ∀ b ∈ ch, (b ∈ X.ex ∨ X.s₀.heap.objs.size ≤ b) ∧ b ≠ X.env.locals ∧ (∀ x c, X.env.cells.lookup x = some c → c ≠ b) ∧ ∀ p ∈ X.pn ++ pins, p.1 ≠ b)
    (keep : ∀ b o, b ≠ X.env.locals → b ∉ X.fs → b ∉ ch → s.heap.get? b = some o → H b = none → h'.get? b = some o)
    (slot : ∀ b o, b ≠ X.env.locals → b ∈ X.fs → b ∉ ch → s.heap.get? b = some o → H b = none → ∃ sl, h'.get? b = some { o with slots := sl }) (free : ∀ b o, b ∉ ch → s.heap.get? b = some o → H b = none → H' b = none)
    (there : ∀ b o, b ∉ ch → s.heap.get? b = some o → ∃ o', h'.get? b = some o')
    (tups : ∀ b xs, H b = some (.tup xs) → H' b = some (.tup xs)) (frzs : ∀ b o u, H b = some (.frz o u) → H' b = some (.frz o u)) (tbls : ∀ b ps, H b = some (.tbl ps) → ∃ more, H' b = some (.tbl (ps ++ more)))
    (ns : ∀ m, s.heap.Ns X.env.locals m → h'.Ns X.env.locals m) (hok : HOk X.prog X.w H' h') (hg : AllBare g') :
    Inv X pins σ H' { s with heap := h', gens := g', drawn := d', toks := t' } := by
  have neL : ∀ b o, X.s₀.heap.get? b = some o → b ≠ X.env.locals := fun b o e => Nat.ne_of_lt (Nat.lt_of_lt_of_le (Heap.lt_size e) I.ok.above)
  have neC : ∀ b o, X.s₀.heap.get? b = some o → b ∉ X.ex → b ∉ ch := fun b o e hx hb => by
    rcases (hch b hb).1 with z | z
    · exact hx z
    · exact absurd (Nat.lt_of_lt_of_le (Heap.lt_size e) z) (Nat.lt_irrefl _)
  have cellK : ∀ x c, X.env.cells.lookup x = some c → ∀ v, s.heap.IsCell c v → h'.IsCell c v := fun x c e v ⟨o, ho, hd⟩ => by
    have nch : c ∉ ch := fun z => (hch c z).2.2.1 x c e rfl
    by_cases hc : c ∈ X.fs
    · obtain ⟨sl, q⟩ := slot c o (I.cne x c e) hc nch ho (I.freeC x c e)
      exact ⟨_, q, hd⟩
    · exact ⟨o, keep c o (I.cne x c e) hc nch ho (I.freeC x c e), hd⟩
  refine ⟨I.ok, I.os, hg, ⟨fun b o e n hb hx => ?_, fun b o e n hb hx => ?_, fun b o e n hx => ?_, fun b o e hx => ?_, fun b xs e => tups b xs (I.base.tups b xs e), fun b o xs e => frzs b o xs (I.base.frzs b o xs e), fun b ps e => ?_⟩, ?_, fun x c e => ?_, ?_, fun x c e => ?_, fun p hp => ?_, hok, I.len⟩
  · exact keep b o (neL b o e) hb (neC b o e hx) (I.base.keep b o e n hb hx) (I.base.free b o e n hx)
  · obtain ⟨sl, e1⟩ := I.base.slot b o e n hb hx
    obtain ⟨sl', e2⟩ := slot b _ (neL b o e) hb (neC b o e hx) e1 (I.base.free b o e n hx)
    exact ⟨sl', e2⟩
  · obtain ⟨o', e1⟩ := I.base.there b o e hx
    exact free b o' (neC b o e hx) e1 (I.base.free b o e n hx)
  · obtain ⟨o', e1⟩ := I.base.there b o e hx
    exact there b o' (neC b o e hx) e1
  · obtain ⟨m1, e1⟩ := I.base.tbls b ps e
    obtain ⟨m2, e2⟩ := tbls b _ e1
    exact ⟨m1 ++ m2, by rw [e2, Array.append_assoc]⟩
  · obtain ⟨m, hn, hl⟩ := I.loc
    refine ⟨m, ns m hn, fun i x v e1 e2 e3 => ?_⟩
    obtain ⟨u, r, l⟩ := hl i x v e1 e2 e3
    refine ⟨u, r, ?_⟩
    rcases l with l | ⟨k, c, e, z⟩
    · exact .inl l
    · exact .inr ⟨k, c, e, cellK x c e _ z⟩
  · obtain ⟨v, z⟩ := I.cell x c e
    exact ⟨v, cellK x c e v z⟩
  · obtain ⟨m, ⟨o, _, _, ho, _⟩, _⟩ := I.loc
    exact free _ o (fun z => (hch _ z).2.1 rfl) ho I.free
  · obtain ⟨v, o, ho, hd⟩ := I.cell x c e
    exact free c o (fun z => (hch c z).2.2.1 x c e rfl) ho (I.freeC x c e)
  · obtain ⟨e, n, ne, nf, d⟩ := I.pin p hp
    have nch : p.1 ∉ ch := fun z => (hch p.1 z).2.2.2 p hp rfl
    exact ⟨keep p.1 p.2 ne nf nch e n, free p.1 p.2 nch e n, ne, nf, d⟩
theorem Inv.un {t' : Nat} (I : Inv X pins σ H s) (u : Un X.fs [] H H' s.heap h') (hok : HOk X.prog X.w H' h') : Inv X pins σ H' { s with heap := h', toks := t' } := by
  obtain ⟨m, ⟨o, es, ep, ho, r⟩, _⟩ := id I.loc
  obtain ⟨sl, hL⟩ := u.any ho I.free (by simp)
  exact I.step (g' := s.gens) (d' := s.drawn) (ch := []) (fun _ z => nomatch z) (fun b o _ hb _ e n => u.keep b o e n hb (by simp)) (fun b o _ hb _ e n => u.slot b o e n hb (by simp)) (fun b o _ e n => u.free b o e n (by simp)) (fun b o _ e => u.there b o e (by simp)) u.tups u.frzs u.tbls (fun m' hm => by
    obtain ⟨o', es', ep', ho', r'⟩ := hm
    rw [ho] at ho'; cases ho'
    exact ⟨_, es', ep', hL, r'⟩) hok I.bare
theorem Inv.call {g' : Array GenState} {t' : Nat} {d' : Drawn} {ch : List Addr} (I : Inv X pins σ H s) (u : Un (frs X.stack) ch H H' s.heap h') (hok : HOk X.prog X.w H' h') (hg : AllBare g')
    (hch : ∀ b ∈ ch, (b ∈ X.ex ∨ X.s₀.heap.objs.size ≤ b) ∧ b ≠ X.env.locals ∧ (∀ x c, X.env.cells.lookup x = some c → c ≠ b) ∧ ∀ p ∈ X.pn ++ pins, p.1 ≠ b) :
    Inv X pins σ H' { s with heap := h', gens := g', drawn := d', toks := t' } := by
  obtain ⟨m, ⟨o, es, ep, ho, r⟩, _⟩ := id I.loc
  obtain ⟨sl, hL⟩ := u.any ho I.free fun z => (hch _ z).2.1 rfl
  exact I.step (ch := ch) hch (fun b o hL hb hc e n => u.keep b o e n (fun z => (List.mem_cons.mp (I.stkSub b z)).elim hL hb) hc) (fun b o _ _ hc e n => u.any e n hc) (fun b o hc e n => u.free b o e n hc) (fun b o hc e => u.there b o e hc) u.tups u.frzs u.tbls (fun m' hm => by
    obtain ⟨o', es', ep', ho', r'⟩ := hm
    rw [ho] at ho'; cases ho'
    exact ⟨_, es', ep', hL, r'⟩) hok hg
theorem Inv.turned {t' : Nat} {it : Addr} (I : Inv X pins σ H s) (k : ∀ b o, b ≠ it → s.heap.get? b = some o → h'.get? b = some o) (hn : H it = none) (hL : it ≠ X.env.locals)
    (h1 : it ∈ X.ex ∨ X.s₀.heap.objs.size ≤ it) (h2 : ∀ x c, X.env.cells.lookup x = some c → c ≠ it) (h3 : ∀ p ∈ X.pn ++ pins, p.1 ≠ it) : Inv X pins σ H { s with heap := h', toks := t' } := by
  have nit : ∀ b u, H b = some u → b ≠ it := fun b u e z => by rw [z, hn] at e; cases e
  refine I.step (g' := s.gens) (d' := s.drawn) (ch := [it]) (fun b hb => ?_) (fun b o _ _ hc e _ => k b o (fun z => hc (by simp [z])) e) (fun b o _ _ hc e _ => ⟨o.slots, k b o (fun z => hc (by simp [z])) e⟩) (fun _ _ _ _ n => n)
    (fun b o hc e => ⟨o, k b o (fun z => hc (by simp [z])) e⟩) (fun _ _ e => e) (fun _ _ _ e => e) (fun b ps e => ⟨#[], by rw [e]; simp⟩) (fun m hm => ?_) (fun b u e => ?_) I.bare
  · have e : b = it := by simpa using hb
    subst e
    exact ⟨h1, hL, h2, h3⟩
  · obtain ⟨o, es, ep, ho, r⟩ := hm
    exact ⟨o, es, ep, k _ o (Ne.symm hL) ho, r⟩
  · refine (I.hok b u e).stay (fun c v hc q => k c v ?_ q) (fun _ q => q) fun _ _ q => q
    rcases hc with z | z
    · rw [z]; exact nit b u e
    · exact nit c _ z
theorem Inv.tok (I : Inv X pins σ H s) (t : Nat) : Inv X pins σ H { s with toks := t } := I.un (h' := s.heap) (t' := t) Un.refl I.hok
theorem Inv.kept {t' : Nat} (I : Inv X pins σ H s) (k : ∀ b u, s.heap.get? b = some u → h'.get? b = some u) : Inv X pins σ H { s with heap := h', toks := t' } := I.un (Un.kept k) (I.hok.kept k)
theorem Inv.laid {a : Addr} {o : HO} {t' : Nat} (I : Inv X pins σ H s) (k : ∀ b u, s.heap.get? b = some u → h'.get? b = some u) (hp : s.heap.objs.size ≤ a) (new : ObjOk X.prog X.w (upd H a o) h' a o) :
    Inv X pins σ (upd H a o) { s with heap := h', toks := t' } := I.un (Un.laid k hp (I.hok.fresh hp)) (I.hok.laid k hp new)
theorem Inv.write {x e : Addr} {o : HO} {t' : Nat} (I : Inv X pins σ H s) (mu : Mut (H x)) (he : e = x ∨ H e = some (.own x)) (k : ∀ b u, b ≠ e → s.heap.get? b = some u → h'.get? b = some u) (heo : ∃ u, h'.get? e = some u)
    (new : ObjOk X.prog X.w (upd H x o) h' x o) : Inv X pins σ (upd H x o) { s with heap := h', toks := t' } := I.un (Un.write mu he k heo) (I.hok.write mu he k heo new)
theorem Inv.pins_of {pins' : List (Addr × Obj)} (I : Inv X pins σ H s) (h : ∀ p ∈ pins', s.heap.get? p.1 = some p.2 ∧ H p.1 = none ∧ p.1 ≠ X.env.locals ∧ p.1 ∉ X.fs ∧ ∀ v, p.2.data ≠ .cell v) : Inv X pins' σ H s :=
  ⟨I.ok, I.os, I.bare, I.base, I.loc, I.cell, I.free, I.freeC, fun p hp => (List.mem_append.mp hp).elim (fun z => I.pin p (List.mem_append_left _ z)) (h p), I.hok, I.len⟩
theorem nodup_ix {N : List Str} (hN : N.Nodup) {i j : Nat} {x : Str} (a : N[i]? = some x) (b : N[j]? = some x) : i = j := by
  obtain ⟨h1, e1⟩ := List.getElem?_eq_some_iff.mp a
  obtain ⟨h2, e2⟩ := List.getElem?_eq_some_iff.mp b
  exact (List.getElem_inj hN).mp (e1.trans e2.symm)
theorem store_ok2 {M : Model} {A : Around} {E : Value → Shared → Prop} {i : Nat} {x : Str} {v : V} {u : Value} {Q : Unit → Shared → Prop} (I : Inv X pins σ H s) (hN : X.N.Nodup) (hi : X.N[i]? = some x) (hx : Loc X.env.scope x) (r : RelV v u)
    (h : ∀ s', Inv X pins (σ.set i (some v)) H s' → (∃ a, Heap.SameBut a s.heap s'.heap ∧ (a = X.env.locals ∨ X.env.cells.lookup x = some a)) → Q () s') (hf : X.fn x = true ∨ X.env.scope.names.lookup x = some .local := by first | exact .inl rfl | exact .inr rfl | assumption) : wpAny M A (storeName X.env x u) Q E s := by
  obtain ⟨m, hn, hl⟩ := id I.loc
  have hcls : (X.env.scope.kind == .class || (X.env.scope.kind == .module && X.env.locals != X.env.globals)) = false := by rw [I.ok.kind]; rfl
  have hiσ : i < σ.length := by rw [I.len]; exact (List.getElem?_eq_some_iff.mp hi).1
  have cne := I.cne
  have tracked : ∀ {a : Addr} {h' : Heap}, (∃ o, s.heap.get? a = some o ∧ H a = none) → Heap.SameBut a s.heap h' → HOk X.prog X.w H h' := fun {a h'} ha hs b ob e => by
    obtain ⟨_, _, hfree⟩ := ha
    refine (I.hok b ob e).stay (fun c w' hc q => (hs.2 c ?_).trans q) (fun _ q => q) fun _ _ q => q
    rintro rfl
    rcases hc with rfl | hc
    · rw [hfree] at e; cases e
    · rw [hfree] at hc; cases hc
  rcases hx with hk | hk
  · refine wpAny_storeName_local hk hn (fun h' hn' hs => ?_) hcls
    obtain ⟨oL, _, _, hoL, _⟩ := id hn
    refine h _ ⟨I.ok, I.os, I.bare, ⟨fun b o e n hb hx => ?_, fun b o e n hb hx => ?_, I.base.free, fun b o e hx => ?_, I.base.tups, I.base.frzs, I.base.tbls⟩, ⟨_, hn', fun j y v' e1 e2 e3 => ?_⟩, fun y c e => ?_, I.free, I.freeC, fun p hp => ?_, tracked ⟨oL, hoL, I.free⟩ hs, by simpa using I.len⟩ ⟨_, hs, .inl rfl⟩
    · exact (hs.2 b (Nat.ne_of_lt (Nat.lt_of_lt_of_le (Heap.lt_size e) I.ok.above))).trans (I.base.keep b o e n hb hx)
    · obtain ⟨sl, e1⟩ := I.base.slot b o e n hb hx
      exact ⟨sl, (hs.2 b (Nat.ne_of_lt (Nat.lt_of_lt_of_le (Heap.lt_size e) I.ok.above))).trans e1⟩
    · obtain ⟨o', e1⟩ := I.base.there b o e hx
      exact ⟨o', (hs.2 b (Nat.ne_of_lt (Nat.lt_of_lt_of_le (Heap.lt_size e) I.ok.above))).trans e1⟩
    · by_cases hj : j = i
      · subst hj
        rw [hi] at e1; cases e1
        rw [List.getElem?_set_self hiσ] at e2
        cases e2
        exact ⟨u, r, .inl ⟨hk, by simp⟩⟩
      · rw [List.getElem?_set_ne (Ne.symm hj)] at e2
        obtain ⟨u', r', q⟩ := hl j y v' e1 e2 e3
        refine ⟨u', r', ?_⟩
        rcases q with ⟨k, e⟩ | ⟨k, c, e, z⟩
        · refine .inl ⟨k, ?_⟩
          have : y ≠ x := fun e => hj (nodup_ix hN e1 (e ▸ hi))
          simp [this, e]
        · exact .inr ⟨k, c, e, z.sameBut hs (cne y c e)⟩
    · obtain ⟨w', z⟩ := I.cell y c e
      exact ⟨w', z.sameBut hs (cne y c e)⟩
    · obtain ⟨e, n, ne, nf, d⟩ := I.pin p hp
      exact ⟨(hs.2 p.1 ne).trans e, n, ne, nf, d⟩
  · have hfn : X.fn x = true := by
      rcases hf with z | z
      · exact z
      · rw [z] at hk; cases hk
    obtain ⟨c, hc⟩ := I.ok.has x (.inl hk)
    obtain ⟨w', z⟩ := I.cell x c hc
    refine wpAny_storeName_cell I.ok.kind hk hc z (fun h' hc' hs => ?_)
    obtain ⟨oc, hoc, hocd⟩ := id z
    refine h { s with heap := h' } ⟨I.ok, I.os, I.bare, ⟨fun b o e n hb hx => ?_, fun b o e n hb hx => ?_, I.base.free, fun b o e hx => ?_, I.base.tups, I.base.frzs, I.base.tbls⟩, ⟨m, hn.sameBut hs (Ne.symm (cne x c hc)), fun j y v' e1 e2 e3 => ?_⟩, fun y c' e => ?_, I.free, I.freeC, fun p hp => ?_, tracked ⟨oc, hoc, I.freeC x c hc⟩ hs, by simpa using I.len⟩ ⟨c, hs, .inr hc⟩
    · exact (hs.2 b (Nat.ne_of_lt (Nat.lt_of_lt_of_le (Heap.lt_size e) (I.ok.cab x c hfn hc)))).trans (I.base.keep b o e n hb hx)
    · obtain ⟨sl, e1⟩ := I.base.slot b o e n hb hx
      exact ⟨sl, (hs.2 b (Nat.ne_of_lt (Nat.lt_of_lt_of_le (Heap.lt_size e) (I.ok.cab x c hfn hc)))).trans e1⟩
    · obtain ⟨o', e1⟩ := I.base.there b o e hx
      exact ⟨o', (hs.2 b (Nat.ne_of_lt (Nat.lt_of_lt_of_le (Heap.lt_size e) (I.ok.cab x c hfn hc)))).trans e1⟩
    · by_cases hj : j = i
      · subst hj
        rw [hi] at e1; cases e1
        rw [List.getElem?_set_self hiσ] at e2
        cases e2
        exact ⟨u, r, .inr ⟨.inl hk, c, hc, hc'⟩⟩
      · rw [List.getElem?_set_ne (Ne.symm hj)] at e2
        obtain ⟨u', r', q⟩ := hl j y v' e1 e2 e3
        refine ⟨u', r', ?_⟩
        rcases q with q | ⟨k, c', e, z'⟩
        · exact .inl q
        · refine .inr ⟨k, c', e, z'.sameBut hs ?_⟩
          rintro rfl
          exact hj (nodup_ix hN e1 (I.ok.inj _ _ _ e hc ▸ hi))
    · by_cases hcc : c' = c
      · subst hcc; exact ⟨_, hc'⟩
      · obtain ⟨w2, z2⟩ := I.cell y c' e
        exact ⟨w2, z2.sameBut hs hcc⟩
    · obtain ⟨e, n, ne, nf, d⟩ := I.pin p hp
      refine ⟨(hs.2 p.1 ?_).trans e, n, ne, nf, d⟩
      intro q
      rw [q, hoc] at e
      have q' : oc = p.2 := Option.some.inj e
      exact d w' (by rw [← q']; exact hocd)
theorem store_ok {M : Model} {A : Around} {E : Value → Shared → Prop} {i : Nat} {x : Str} {v : V} {u : Value} {Q : Unit → Shared → Prop} (I : Inv X pins σ H s) (hN : X.N.Nodup) (hi : X.N[i]? = some x) (hx : Loc X.env.scope x) (r : RelV v u)
    (h : ∀ s', Inv X pins (σ.set i (some v)) H s' → Q () s') (hf : X.fn x = true ∨ X.env.scope.names.lookup x = some .local := by first | exact .inl rfl | exact .inr rfl | assumption) : wpAny M A (storeName X.env x u) Q E s :=
  store_ok2 I hN hi hx r (fun s' I' _ => h s' I') hf
theorem Inv.call' {s' : Shared} {ch : List Addr} (I : Inv X pins σ H s) (ho : s'.os = s.os) (u : Un (frs X.stack) ch H H' s.heap s'.heap) (hok : HOk X.prog X.w H' s'.heap) (hg : AllBare s'.gens)
    (hch : ∀ b ∈ ch, (b ∈ X.ex ∨ X.s₀.heap.objs.size ≤ b) ∧ b ≠ X.env.locals ∧ (∀ x c, X.env.cells.lookup x = some c → c ≠ b) ∧ ∀ p ∈ X.pn ++ pins, p.1 ≠ b) : Inv X pins σ H' s' := by
  obtain ⟨h', g', d', t', o'⟩ := s'
  have e : o' = s.os := ho
  subst e
  exact I.call (g' := g') (t' := t') (d' := d') u hok hg hch
end
abbrev XK := Value → Option Addr → Hp → Prop
abbrev St := List (Option V)
abbrev VK := V → Hp → Prop
abbrev TE := St → Hp → VK → Prop
abbrev TT := St → Hp → (Bool → Hp → Prop) → Prop
abbrev TA := St → Hp → (List V → Hp → Prop) → Prop
structure Ends where
  nx : St → Hp → Prop
  rt : VK
  bk : St → Hp → Prop := fun _ _ => False
  ct : St → Hp → Prop := fun _ _ => False
abbrev TS := Ends → St → Hp → Prop
def EP (X : Cx) (pins : List (Addr × Obj)) (σ : St) (Q : VK) (u : Value) (s' : Shared) : Prop := ∃ v H', Inv X pins σ H' s' ∧ RelV v u ∧ Q v H'
def TP (X : Cx) (pins : List (Addr × Obj)) (σ : St) (Q : Bool → Hp → Prop) (b : Bool) (s' : Shared) : Prop := ∃ H', Inv X pins σ H' s' ∧ Q b H'
def AP (X : Cx) (pins : List (Addr × Obj)) (σ : St) (Q : List V → Hp → Prop) (us : List Value) (s' : Shared) : Prop := ∃ vs H', Inv X pins σ H' s' ∧ Vals vs us ∧ Q vs H'
def SP (X : Cx) (pins : List (Addr × Obj)) (D : Ends) (f : Flow) (s' : Shared) : Prop :=
  match f with
  | .next => ∃ σ' H', Inv X pins σ' H' s' ∧ D.nx σ' H'
  | .brk => ∃ σ' H', Inv X pins σ' H' s' ∧ D.bk σ' H'
  | .cont => ∃ σ' H', Inv X pins σ' H' s' ∧ D.ct σ' H'
  | .ret u => ∃ v σ' H', Inv X pins σ' H' s' ∧ RelV v u ∧ D.rt v H'
def PE (X : Cx) (e : Expr) (t : TE) : Prop :=
  ∀ (pins : List (Addr × Obj)) (s : Shared) (σ : St) (H : Hp) (Q : VK), Inv X pins σ H s → t σ H Q → wpAny (model X.prog X.w) X.A (eval e X.env) (EP X pins σ Q) X.xe s
def PT (X : Cx) (e : Expr) (t : TT) : Prop :=
  ∀ (pins : List (Addr × Obj)) (s : Shared) (σ : St) (H : Hp) (Q : Bool → Hp → Prop), Inv X pins σ H s → t σ H Q → wpAny (model X.prog X.w) X.A (isTrue e X.env (eval e X.env)) (TP X pins σ Q) X.xe s
def PW (X : Cx) (e : Expr) (t : TT) : Prop :=
  ∀ (whole : Sem Value) (pins : List (Addr × Obj)) (s : Shared) (σ : St) (H : Hp) (Q : Bool → Hp → Prop), Inv X pins σ H s → t σ H Q → wpAny (model X.prog X.w) X.A (isTrue e X.env whole) (TP X pins σ Q) X.xe s
theorem PW.pt {X : Cx} {e : Expr} {t : TT} (h : PW X e t) : PT X e t := h _
def PA (X : Cx) (es : List Expr) (t : TA) : Prop :=
  ∀ (pos : Pos) (pins : List (Addr × Obj)) (s : Shared) (σ : St) (H : Hp) (Q : List V → Hp → Prop), Inv X pins σ H s → t σ H Q → wpAny (model X.prog X.w) X.A (spliced (backTo pos (starEach es X.env))) (AP X pins σ Q) X.xe s
def PS (X : Cx) (st : Stmt) (t : TS) : Prop :=
  ∀ (pins : List (Addr × Obj)) (s : Shared) (σ : St) (H : Hp) (D : Ends), Inv X pins σ H s → t D σ H → wpAny (model X.prog X.w) X.A (exec st X.env) (SP X pins D) X.xe s
def PSs (X : Cx) (st : List Stmt) (t : TS) : Prop :=
  ∀ (pins : List (Addr × Obj)) (s : Shared) (σ : St) (H : Hp) (D : Ends), Inv X pins σ H s → t D σ H → wpAny (model X.prog X.w) X.A (execs st X.env) (SP X pins D) X.xe s
theorem thn {α : Type} {t : Sem α} {Q Q' : α → Shared → Prop} {M : Model} {A : Around} {E : Value → Shared → Prop} {s : Shared} (h : wpAny M A t Q E s) (hQ : ∀ a s, Q a s → Q' a s) : wpAny M A t Q' E s := wpAny_mono h hQ fun _ _ x => x
end L2
namespace L2
open PySem PySem.Spec PyProof.Rows
section
variable {X : Cx}
def tVar (i : Nat) : TE := fun σ H Q => ∃ v, σ[i]? = some (some v) ∧ Q v H
def tC (v : V) : TE := fun _ H Q => Q v H
theorem pe_var {i : Nat} {x : Str} {pos : Pos} (hN : X.N[i]? = some x) (hv : Vis X.env.scope x) (hd : (x == ("__debug__" : Str)) = false := by decide) (hcd : (x == ("__classdict__" : Str)) = false := by decide) : PE X (.Name x pos) (tVar i) := by
  intro pins s σ H Q I h
  obtain ⟨v, e, h⟩ := h
  obtain ⟨m, hn, hl⟩ := I.loc
  obtain ⟨u, r, l⟩ := hl i x v hN e hv
  have fin : EP X pins σ Q u s := ⟨v, H, I, r, h⟩
  rcases l with ⟨hk, hm⟩ | ⟨hk, c, hc, hcell⟩
  · exact wpAny_Name (wpAny_loadName_local I.ok.kind hk hn hm fin) hd
  · rcases hk with hk | hk
    · exact wpAny_Name (wpAny_loadName_cell I.ok.kind hk hc hcell fin) hd
    · exact wpAny_Name (wpAny_loadName_free I.ok.kind hk hc hcell fin hcd) hd
theorem pe_int {i j pos} : PE X (.Constant (.int i) j pos) (tC (.int i)) := fun _ _ _ H _ I h => wpAny_Constant_int ⟨.int i, H, I.tok _, ⟨_, rfl⟩, h⟩
theorem pe_bl {b j pos} : PE X (.Constant (.bool b) j pos) (tC (.bl b)) := fun _ _ _ H _ I h => Constant_bool ⟨.bl b, H, I, rfl, h⟩
def Gl (X : Cx) (x : Str) : Prop := X.env.kindOf x = some .globalImplicit
theorem ld_glob {E : Value → Shared → Prop} {pins : List (Addr × Obj)} {s : Shared} {σ : St} {H : Hp} {x : Str} {u : Value} {pos : Pos} {Q : Value → Shared → Prop} (I : Inv X pins σ H s) (hg : Gl X x) (hm : X.mg x = some u) (h : Q u s)
    (hd : (x == ("__debug__" : Str)) = false := by decide) : wpAny (model X.prog X.w) X.A (eval (.Name x pos) X.env) Q E s :=
  Calls.Name_function_global I.ok.kind hg (Calls.loadGlobal_global (by rw [I.ok.glob]; exact I.mod.glob.keeps I.bk) hm h) hd
theorem ld_blt {E : Value → Shared → Prop} {pins : List (Addr × Obj)} {s : Shared} {σ : St} {H : Hp} {x : Str} {u : Value} {pos : Pos} {Q : Value → Shared → Prop} (I : Inv X pins σ H s) (hg : Gl X x) (hm : X.mg x = none) (hv : bootBuiltins x = some u) (h : Q u s)
    (hn : x ≠ "__name__" := by decide) (hd : (x == ("__debug__" : Str)) = false := by decide) : wpAny (model X.prog X.w) X.A (eval (.Name x pos) X.env) Q E s := by
  obtain ⟨mb, h1, h2⟩ := I.mod.blt
  exact Calls.Name_function_global I.ok.kind hg (Calls.loadGlobal_builtin (by rw [I.ok.glob]; exact I.mod.glob.keeps I.bk) hm (by rw [I.ok.blt]; exact h1.keeps I.bk) ((h2 x hn).trans hv) h) hd
theorem pe_glob {x : Str} {v : V} {u : Value} {pos : Pos} (hg : Gl X x) (hm : X.mg x = some u) (r : RelV v u) (hd : (x == ("__debug__" : Str)) = false := by decide) : PE X (.Name x pos) (tC v) :=
  fun _ _ _ H _ I h => ld_glob I hg hm ⟨v, H, I, r, h⟩ hd
theorem pe_bltn {x : Str} {v : V} {u : Value} {pos : Pos} (hg : Gl X x) (hm : X.mg x = none) (hv : bootBuiltins x = some u) (r : RelV v u) (hn : x ≠ "__name__" := by decide) (hd : (x == ("__debug__" : Str)) = false := by decide) : PE X (.Name x pos) (tC v) :=
  fun _ _ _ H _ I h => ld_blt I hg hm hv ⟨v, H, I, r, h⟩ hn hd
variable {a b : Expr} {ta tb : TE} {pos : Pos}
def tB (t : TE) : TT := fun σ H Q => t σ H fun x H1 => ∃ c, x = .bl c ∧ Q c H1
theorem pt_val {e : Expr} {t : TE} (h : PE X e t) (he : ∀ whole, isTrue e X.env whole = (do let v ← whole; standAt e.pos; holding [v] (truthy v)) := by intro _; rfl) : PT X e (tB t) := by
  intro pins s σ H Q I hw
  refine isTrue_plain (thn (h pins s σ H _ I hw) fun v s1 ⟨x, H1, I1, r1, q1⟩ => ?_) (he _)
  obtain ⟨d, rfl, q⟩ := q1
  cases r1
  exact wpAny_truthy_bool ⟨H1, I1, q⟩
variable {tA tB' : TT} {rest : List Expr}
def tAnd (t u : TT) : TT := fun σ H Q => t σ H fun c H1 => if c = true then u σ H1 Q else Q false H1
def tOr (t u : TT) : TT := fun σ H Q => t σ H fun c H1 => if c = true then Q true H1 else u σ H1 Q
def tNot (t : TT) : TT := fun σ H Q => t σ H fun c H1 => Q (!c) H1
theorem pw_and1 (ha : PT X a tA) : PW X (.BoolOp .And [a] pos) tA := by
  intro wh pins s σ H Q I h
  refine isTrue_and (thn (ha pins s σ H Q I h) fun c s1 e => ?_)
  cases c with
  | true => exact isTrue_and_nil e
  | false => exact e
theorem pw_or1 (ha : PT X a tA) : PW X (.BoolOp .Or [a] pos) tA := by
  intro wh pins s σ H Q I h
  refine isTrue_or (thn (ha pins s σ H Q I h) fun c s1 e => ?_)
  cases c with
  | false => exact isTrue_or_nil e
  | true => exact e
theorem pw_and (ha : PT X a tA) (hb : PW X (.BoolOp .And (b :: rest) pos) tB') : PW X (.BoolOp .And (a :: b :: rest) pos) (tAnd tA tB') := by
  intro wh pins s σ H Q I h
  refine isTrue_and (thn (ha pins s σ H _ I h) fun c s1 ⟨H1, I1, q1⟩ => ?_)
  cases c with
  | true => exact hb wh pins s1 σ H1 Q I1 q1
  | false => exact ⟨H1, I1, q1⟩
theorem pw_or (ha : PT X a tA) (hb : PW X (.BoolOp .Or (b :: rest) pos) tB') : PW X (.BoolOp .Or (a :: b :: rest) pos) (tOr tA tB') := by
  intro wh pins s σ H Q I h
  refine isTrue_or (thn (ha pins s σ H _ I h) fun c s1 ⟨H1, I1, q1⟩ => ?_)
  cases c with
  | true => exact ⟨H1, I1, q1⟩
  | false => exact hb wh pins s1 σ H1 Q I1 q1
theorem pt_not (ha : PT X a tA) : PT X (.UnaryOp .Not a pos) (tNot tA) := by
  intro pins s σ H Q I h
  exact isTrue_not (ha pins s σ H (fun c H1 => Q (!c) H1) I h)
def tAndV (ta tb : TE) : TE := fun σ H Q => ta σ H fun x H1 => ∃ c, x = .bl c ∧ if c = true then tb σ H1 Q else Q (.bl false) H1
def tNotV (ta : TE) : TE := fun σ H Q => ta σ H fun x H1 => ∃ c, x = .bl c ∧ Q (.bl (!c)) H1
theorem pe_one {op} {t : TE} (h : PE X a t) : PE X (.BoolOp op [a] pos) t := fun pins s σ H Q I hw => BoolOp_one (h pins s σ H Q I hw)
theorem pe_and (ha : PE X a ta) (hb : PE X (.BoolOp .And (b :: rest) pos) tb) : PE X (.BoolOp .And (a :: b :: rest) pos) (tAndV ta tb) := by
  intro pins s σ H Q I h
  refine BoolOp_and (thn (ha pins s σ H _ I h) fun v s1 ⟨x, H1, I1, r1, q1⟩ => ?_)
  obtain ⟨c, rfl, q1⟩ := q1
  cases r1
  refine wpAny_truthy_bool ?_
  cases c with
  | true => exact hb pins s1 σ H1 Q I1 q1
  | false => exact ⟨.bl false, H1, I1, rfl, q1⟩
theorem pe_not (ha : PE X a ta) : PE X (.UnaryOp .Not a pos) (tNotV ta) := by
  intro pins s σ H Q I h
  refine UnaryOp_ (thn (ha pins s σ H _ I h) fun v s1 ⟨x, H1, I1, r1, q1⟩ => ?_)
  obtain ⟨c, rfl, q1⟩ := q1
  cases r1
  exact not_of (wpAny_truthy_bool ⟨.bl (!c), H1, I1, rfl, q1⟩)
end
end L2
namespace L2
open PySem PySem.Spec PyProof.Rows
def SqL (K : PySem.W.Frag) (H : Hp) (a : Addr) (xs : List V) : Prop :=
  Rd H a (.lst xs) ∨
    ∃ (o : Obj) (its : Array Value) (n : Nat), K.lookup a = some o ∧ o.cls = .type "list" ∧ o.dict = none ∧ o.data = .seq its n ∧ its.size ≤ sizeLine ∧ Vals xs its.toList
def SqT (K : PySem.W.Frag) (H : Hp) (a : Addr) (xs : List V) : Prop :=
  Rd H a (.tup xs) ∨
    ∃ (o : Obj) (its : Array Value) (n : Nat), K.lookup a = some o ∧ o.cls = .type "tuple" ∧ o.data = .seq its n ∧ its.size ≤ sizeLine ∧ Vals xs its.toList
def absV : Value → Option V
  | .none => some .non
  | .bool b => some (.bl b)
  | .int i _ => some (.int i)
  | .str x _ => some (.str x)
  | .bytes b _ => some (.byt b)
  | .float b _ => some (.flt b)
  | .ref a => some (.ref a)
  | .type n => some (.ty n)
  | _ => none
theorem RelV.abs {x : V} {u : Value} (r : RelV x u) : absV u = some x := by
  cases x with
  | non => cases r; rfl
  | bl _ => cases r; rfl
  | int _ => obtain ⟨t, rfl⟩ := r; rfl
  | str _ => obtain ⟨t, rfl⟩ := r; rfl
  | byt _ => obtain ⟨t, rfl⟩ := r; rfl
  | flt _ => obtain ⟨t, rfl⟩ := r; rfl
  | ref _ => cases r; rfl
  | ty _ => cases r; rfl
theorem RelV.inj {x y : V} {u : Value} (r : RelV x u) (q : RelV y u) : x = y := Option.some.inj (r.abs.symm.trans q.abs)
theorem Vals.inj : ∀ {xs ys : List V} {us : List Value}, Vals xs us → Vals ys us → xs = ys
  | _, _, _, .nil, .nil => rfl
  | _, _, _, .cons r t, .cons r' t' => by rw [r.inj r', Vals.inj t t']
section
variable {X : Cx} {pins : List (Addr × Obj)} {σ : St} {H : Hp} {s : Shared} {a : Addr} {xs ys : List V}
theorem SqL.of {K : PySem.W.Frag} (h : H a = some (.lst xs)) : SqL K H a xs := .inl (.inl h)
theorem SqT.of {K : PySem.W.Frag} (h : H a = some (.tup xs)) : SqT K H a xs := .inl (.inl h)
theorem Inv.list (I : Inv X pins σ H s) (h : SqL X.K H a xs) : ∃ its : List Value, Vals xs its ∧ PlainL s.heap a its.toArray ∧ xs.length ≤ sizeLine := by
  rcases h with h | ⟨o, its, n, hk, hc, hd, hs, hz, r⟩
  · obtain ⟨z, its, n, r, e⟩ := h.ok I.hok
    exact ⟨its, r, ⟨_, n, e, rfl, rfl, rfl⟩, z⟩
  · refine ⟨its.toList, r, ⟨o, n, I.kIn a o hk, hc, hd, by simpa using hs⟩, ?_⟩
    have e := r.length
    simp only [Array.length_toList] at e
    omega
theorem Inv.tuple (I : Inv X pins σ H s) (h : SqT X.K H a xs) : ∃ its : List Value, Vals xs its ∧ IsTup s.heap a its.toArray ∧ xs.length ≤ sizeLine := by
  rcases h with h | ⟨o, its, n, hk, hc, hs, hz, r⟩
  · obtain ⟨z, its, r, p⟩ := h.ok I.hok
    exact ⟨its, r, p, z⟩
  · refine ⟨its.toList, r, ⟨o, I.kIn a o hk, hc, n, by simpa using hs⟩, ?_⟩
    have e := r.length
    simp only [Array.length_toList] at e
    omega
theorem Inv.list_inj (I : Inv X pins σ H s) (h : SqL X.K H a xs) (h' : SqL X.K H a ys) : xs = ys := by
  obtain ⟨its, r, ⟨o, n, e, _, _, d⟩, _⟩ := I.list h
  obtain ⟨its', r', ⟨o', n', e', _, _, d'⟩, _⟩ := I.list h'
  rw [e] at e'; cases e'
  rw [d] at d'
  injection d' with d1 _
  have : its = its' := by simpa using congrArg Array.toList d1
  subst this
  exact r.inj r'
theorem Inv.tuple_inj (I : Inv X pins σ H s) (h : SqT X.K H a xs) (h' : SqT X.K H a ys) : xs = ys := by
  obtain ⟨its, r, ⟨o, e, _, n, d⟩, _⟩ := I.tuple h
  obtain ⟨its', r', ⟨o', e', _, n', d'⟩, _⟩ := I.tuple h'
  rw [e] at e'; cases e'
  rw [d] at d'
  injection d' with d1 _
  have : its = its' := by simpa using congrArg Array.toList d1
  subst this
  exact r.inj r'
end
abbrev Cx.wish (X : Cx) (E : Value → Shared → Prop) : Cx := { X with xe := E }
abbrev Cx.nox (X : Cx) : Cx := X.wish fun _ _ => False
theorem Cx.Ok.wish {X : Cx} (ok : X.Ok) (E : Value → Shared → Prop) : (X.wish E).Ok :=
  ⟨ok.mod, ok.kind, ok.glob, ok.blt, ok.above, ok.inj, ok.has, ok.cab, ok.hd, ok.frames, ok.stk, ok.exf, ok.bs, ok.bsz, ok.noex, ok.exfs, ok.funs, ok.frf⟩
theorem Cx.Ok.unwish {X : Cx} {E : Value → Shared → Prop} (ok : (X.wish E).Ok) : X.Ok :=
  ⟨ok.mod, ok.kind, ok.glob, ok.blt, ok.above, ok.inj, ok.has, ok.cab, ok.hd, ok.frames, ok.stk, ok.exf, ok.bs, ok.bsz, ok.noex, ok.exfs, ok.funs, ok.frf⟩
section
variable {X : Cx} {pins : List (Addr × Obj)} {σ : St} {H : Hp} {s : Shared} {E : Value → Shared → Prop}
theorem Inv.wish (I : Inv X pins σ H s) (E : Value → Shared → Prop) : Inv (X.wish E) pins σ H s := ⟨I.ok.wish E, I.os, I.bare, I.base, I.loc, I.cell, I.free, I.freeC, I.pin, I.hok, I.len⟩
theorem Inv.unwish (I : Inv (X.wish E) pins σ H s) : Inv X pins σ H s := ⟨I.ok.unwish, I.os, I.bare, I.base, I.loc, I.cell, I.free, I.freeC, I.pin, I.hok, I.len⟩
theorem SP.unwish {D : Ends} {f : Flow} {s' : Shared} (h : SP (X.wish E) pins D f s') : SP X pins D f s' := by
  cases f with
  | next => obtain ⟨σ', H', I, q⟩ := h; exact ⟨σ', H', I.unwish, q⟩
  | brk => obtain ⟨σ', H', I, q⟩ := h; exact ⟨σ', H', I.unwish, q⟩
  | cont => obtain ⟨σ', H', I, q⟩ := h; exact ⟨σ', H', I.unwish, q⟩
  | ret u => obtain ⟨v, σ', H', I, r, q⟩ := h; exact ⟨v, σ', H', I.unwish, r, q⟩
theorem PSs.nox {st : List Stmt} {t : TS} (h : PSs X.nox st t) : PSs X st t := fun pins s σ H D I hw =>
  wpAny_mono (h pins s σ H D (I.wish _) hw) (fun _ _ q => q.unwish) fun _ _ z => False.elim z
end
section
variable {X : Cx} {st : Stmt} {rest : List Stmt} {t u : TS} {e : Expr} {te : TE} {pos : Pos}
def tNext : TS := fun D σ H => D.nx σ H
def tSeq (t u : TS) : TS := fun D σ H => t { D with nx := u D } σ H
theorem pss_nil : PSs X [] tNext := fun _ _ σ H _ I h => wpAny_execs_nil ⟨σ, H, I, h⟩
theorem pss_cons (h1 : PS X st t) (h2 : PSs X rest u) : PSs X (st :: rest) (tSeq t u) := by
  intro pins s σ H D I h
  refine wpAny_execs_cons (thn (h1 pins s σ H { D with nx := u D } I h) fun f s1 q => ?_)
  cases f with
  | next =>
    obtain ⟨σ', H', I', q⟩ := q
    exact h2 pins s1 σ' H' D I' q
  | ret v => exact q
  | brk => exact q
  | cont => exact q
theorem pss_one (h1 : PS X st t) : PSs X [st] t := by
  intro pins s σ H D I h
  refine wpAny_execs_cons (thn (h1 pins s σ H D I h) fun f s1 q => ?_)
  cases f with
  | next => exact wpAny_execs_nil q
  | ret v => exact q
  | brk => exact q
  | cont => exact q
theorem Inv.quiet {pins : List (Addr × Obj)} {σ : St} {H : Hp} {s : Shared} (I : Inv X pins σ H s) : interactive X.env = false := by simp [interactive, I.ok.kind]
def tDrop (te : TE) : TS := fun D σ H => te σ H fun _ H1 => D.nx σ H1
theorem ps_expr (he : PE X e te) (hs : swapsWith e none pos.line X.env = pure false := by rfl) : PS X (.Expr e pos) (tDrop te) := by
  intro pins s σ H D I h
  exact wpAny_Expr_any (thn (he pins s σ H _ I h) fun v s1 ⟨x, H1, I1, r1, q1⟩ => ⟨σ, H1, I1, q1⟩) I.quiet hs
def tRet (te : TE) : TS := fun D σ H => te σ H D.rt
theorem ps_ret (he : PE X e te) : PS X (.Return (some e) pos) (tRet te) := by
  intro pins s σ H D I h
  exact wpAny_Return_some (thn (he pins s σ H _ I h) fun v s1 ⟨x, H1, I1, r1, q1⟩ => ⟨x, σ, H1, I1, r1, q1⟩)
def tIfS (c : TT) (t u : TS) : TS := fun D σ H => c σ H fun b H1 => if b = true then t D σ H1 else u D σ H1
theorem ps_if {c : Expr} {a b : List Stmt} {tc : TT} (hc : PT X c tc) (ha : PSs X a t) (hb : PSs X b u) : PS X (.If c a b pos) (tIfS tc t u) := by
  intro pins s σ H D I h
  refine wpAny_If (thn (hc pins s σ H _ I h) fun d s1 ⟨H1, I1, q1⟩ => ?_)
  cases d with
  | true => exact ha pins s1 σ H1 D I1 q1
  | false => exact hb pins s1 σ H1 D I1 q1
def tNever : TS := fun _ _ _ => False
theorem ps_never : PS X st tNever := fun _ _ _ _ _ _ h => h.elim
end
abbrev TG := V → St → Hp → (St → Hp → Prop) → Prop
abbrev TGs := List V → St → Hp → (St → Hp → Prop) → Prop
def PG (X : Cx) (target : Expr) (t : TG) : Prop :=
  ∀ (pins : List (Addr × Obj)) (s : Shared) (σ : St) (H : Hp) (v : V) (u : Value) (Q : St → Hp → Prop), Inv X pins σ H s → RelV v u → t v σ H Q →
    wpAny (model X.prog X.w) X.A (assign target X.env u) (fun _ s' => ∃ σ' H', Inv X pins σ' H' s' ∧ Q σ' H') X.xe s
def PGs (X : Cx) (ts : List Expr) (t : TGs) : Prop :=
  ∀ (pins : List (Addr × Obj)) (s : Shared) (σ : St) (H : Hp) (vs : List V) (us : List Value) (Q : St → Hp → Prop), Inv X pins σ H s → Vals vs us → t vs σ H Q →
    wpAny (model X.prog X.w) X.A (assignInOrder ((assignEach ts X.env).map (·.2)) us) (fun _ s' => ∃ σ' H', Inv X pins σ' H' s' ∧ Q σ' H') X.xe s
abbrev TSet := V → V → V → Hp → (Hp → Prop) → Prop
def PSet (X : Cx) (t : TSet) : Prop :=
  ∀ (pins : List (Addr × Obj)) (s : Shared) (σ : St) (H : Hp) (o i v : V) (ov iv u : Value) (Q : Hp → Prop), Inv X pins σ H s → RelV o ov → RelV i iv → RelV v u → t o i v H Q →
    wpAny (model X.prog X.w) X.A (setItem ov iv u) (fun _ s' => ∃ H', Inv X pins σ H' s' ∧ Q H') X.xe s
section
variable {X : Cx} {pos : Pos}
def gName (i : Nat) : TG := fun v σ H Q => Q (σ.set i (some v)) H
theorem pg_name {i : Nat} {x : Str} (hN : X.N.Nodup) (hi : X.N[i]? = some x) (hx : Loc X.env.scope x) (hf : X.fn x = true ∨ X.env.scope.names.lookup x = some .local := by first | exact .inl rfl | exact .inr rfl | assumption) : PG X (.Name x pos) (gName i) := by
  intro pins s σ H v u Q I r h
  exact wpAny_assign_Name (store_ok I hN hi hx r (fun s' I' => ⟨_, H, I', h⟩) hf)
def gNil : TGs := fun vs σ H Q => vs = [] ∧ Q σ H
def gCons (t : TG) (u : TGs) : TGs := fun vs σ H Q => ∃ v r, vs = v :: r ∧ t v σ H fun σ' H' => u r σ' H' Q
theorem pgs_nil : PGs X [] gNil := by
  intro pins s σ H vs us Q I r h
  obtain ⟨e, h⟩ := h
  subst e
  cases r
  exact assignInOrder_nil ⟨σ, H, I, h⟩
theorem pgs_cons {e : Expr} {es : List Expr} {t : TG} {u : TGs} (h1 : PG X e t) (h2 : PGs X es u)
    (hs : (assignEach (e :: es) X.env).map (·.2) = assign e X.env :: (assignEach es X.env).map (·.2) := by rfl) : PGs X (e :: es) (gCons t u) := by
  intro pins s σ H vs us Q I r h
  obtain ⟨v, vr, e1, h⟩ := h
  subst e1
  cases r with
  | cons r rr =>
    rw [hs]
    refine assignInOrder_cons (thn (h1 pins s σ H _ _ _ I r h) fun _ s1 ⟨σ1, H1, I1, q1⟩ => ?_)
    exact h2 pins s1 σ1 H1 _ _ Q I1 rr q1
def gTup (K : PySem.W.Frag) (n : Nat) (t : TGs) : TG := fun v σ H Q => ∃ a xs, v = .ref a ∧ SqT K H a xs ∧ xs.length = n ∧ t xs σ H Q
theorem pg_tup {es : List Expr} {k : Nat} {t : TGs} {n : Nat} (hc : X.calm = true) (h : PGs X es t)
    (hn : (assignEach es X.env).length = n := by rfl) (hst : (assignEach es X.env).findIdx? (·.1) = none := by rfl) : PG X (.Tuple es k pos) (gTup X.K n t) := by
  intro pins s σ H v u Q I r hw
  obtain ⟨a, xs, e1, hq, hl, hw⟩ := hw
  subst e1
  cases r
  obtain ⟨its, rv, ht, hz⟩ := I.tuple hq
  refine assign_Tuple_tuple (I.ok.hd hc) ht (by simp [hn, ← hl, rv.length]) hst fun h' hx => ?_
  have I1 : Inv X pins σ H { s with heap := h' } := I.kept (t' := s.toks) fun b o e => hx b o (Nat.ne_of_lt (Heap.lt_size e)) e
  exact h pins _ σ H xs _ Q I1 (by simpa using rv) hw
def gSub (to ti : TE) (t : TSet) : TG := fun v σ H Q => to σ H fun o H1 => ti σ H1 fun i H2 => t o i v H2 fun H3 => Q σ H3
theorem pg_sub {o i : Expr} {to ti : TE} {t : TSet} (ho : PE X o to) (hi : PE X i ti) (hs : PSet X t)
    (ha : ∀ v, assign (.Subscript o i pos) X.env v = (do
      let ov ← holding [v] (eval o X.env)
      let iv ← holding [v, ov] (eval i X.env)
      standAt pos
      holding [v, ov, iv] (setItem ov iv v)
      release [v, ov, iv] []) := by intro _; rfl) : PG X (.Subscript o i pos) (gSub to ti t) := by
  intro pins s σ H v u Q I r h
  rw [ha]
  refine wpAny_bind (wpAny_holding (thn (ho pins s σ H _ I h) fun ov s1 ⟨x, H1, I1, r1, q1⟩ => ?_))
  refine wpAny_bind (wpAny_holding (thn (hi pins s1 σ H1 _ I1 q1) fun iv s2 ⟨y, H2, I2, r2, q2⟩ => ?_))
  refine wpAny_bind (wpAny_standAt (wpAny_bind (wpAny_holding (thn (hs pins s2 σ H2 x y v ov iv u _ I2 r1 r2 r q2) fun _ s3 ⟨H3, I3, q3⟩ => ?_))))
  exact wpAny_release ⟨σ, H3, I3, q3⟩
def tAsg (te : TE) (g : TG) : TS := fun D σ H => te σ H fun x H1 => g x σ H1 D.nx
theorem ps_asg {tg e : Expr} {te : TE} {g : TG} (he : PE X e te) (hg : PG X tg g) (hs : swapsWithSole [tg] e pos.line X.env = pure false := by rfl) (hw : swappedStores [tg] e X.env = pure none := by rfl)
    (h1 : (assignEach [tg] X.env).map (·.2) = [assign tg X.env] := by rfl) : PS X (.Assign [tg] e pos) (tAsg te g) := by
  intro pins s σ H D I h
  refine wpAny_Assign_stores (thn (he pins s σ H _ I h) fun v s1 ⟨x, H1, I1, r1, q1⟩ => ?_) hs hw
  rw [h1]
  exact thn (hg pins s1 σ H1 x v _ I1 r1 q1) fun _ s2 q => q
theorem ps_set {i : Nat} {x : Str} {e : Expr} {te : TE} {pos' : Pos} (hN : X.N.Nodup) (hi : X.N[i]? = some x) (hx : Loc X.env.scope x) (he : PE X e te) (hs : swapsWith e (some (.Name x pos')) pos.line X.env = pure false := by rfl) (hf : X.fn x = true ∨ X.env.scope.names.lookup x = some .local := by first | exact .inl rfl | exact .inr rfl | assumption) :
    PS X (.Assign [.Name x pos'] e pos) (tAsg te (gName i)) := by
  intro pins s σ H D I h
  refine wpAny_Assign_Name (thn (he pins s σ H _ I h) fun v s1 ⟨y, H1, I1, r1, q1⟩ => ?_) hs
  exact store_ok I1 hN hi hx r1 (fun s2 I2 => ⟨_, H1, I2, q1⟩) hf
end
section
variable {X : Cx} {pos : Pos}
end
structure It where
  go : Nat → Hp → Prop
  yld : Nat → Hp → V → Hp → Prop
  stop : Nat → Hp → Prop
def FpOk (X : Cx) (pins : List (Addr × Obj)) (H : Hp) (b : Addr) : Prop :=
  H b = none ∧ b ≠ X.env.locals ∧ b ∉ X.fs ∧ (b ∈ X.ex ∨ X.s₀.heap.objs.size ≤ b) ∧ (∀ x c, X.env.cells.lookup x = some c → c ≠ b) ∧ ∀ p ∈ X.pn ++ pins, p.1 ≠ b
theorem Inv.fpOk {X : Cx} {pins : List (Addr × Obj)} {σ : St} {H H' : Hp} {s : Shared} {b : Addr} (I : Inv X pins σ H s) (hb : s.heap.objs.size ≤ b) (hn : H' b = none) : FpOk X pins H' b := by
  refine ⟨hn, Nat.ne_of_gt (Nat.lt_of_lt_of_le I.lt hb), I.nofs hb, .inr (Nat.le_trans I.sz hb), fun x c e z => ?_, fun p hp z => ?_⟩
  · obtain ⟨v, q⟩ := I.cell x c e
    exact absurd (Nat.lt_of_lt_of_le q.lt (by rw [z]; exact hb)) (Nat.lt_irrefl _)
  · exact absurd (Nat.lt_of_lt_of_le (Heap.lt_size (I.pin p hp).1) (by rw [z]; exact hb)) (Nat.lt_irrefl _)
structure Turn (P : Program) (w : World) (K : PySem.W.Frag) (tg : Expr) (J : It) (fp : List Addr) (it : Addr) (tn : Nat → Heap → Prop) : Prop where
  mem : it ∈ fp
  obj : ∀ i h, tn i h → ∀ b ∈ fp, ∃ o, h.get? b = some o ∧ ∀ v, o.data ≠ .cell v
  keep : ∀ i h h', tn i h → (∀ b ∈ fp, ∀ o, h.get? b = some o → h'.get? b = some o) → tn i h'
  item : ∀ (X : Cx), X.prog = P → X.w = w → X.K = K → X.calm = true → ∀ (i : Nat) (pins : List (Addr × Obj)) (s : Shared) (σ : St) (H : Hp) (E : Value → Shared → Prop), Inv X pins σ H s → (∀ b ∈ fp, FpOk X pins H b) → tn i s.heap → J.go i H →
    wpAny (model P w) X.A (pyNext (.ref it)) (fun r s1 => ∃ u, r = some u ∧
      wpAny (model P w) X.A (letOwnedTupleGo tg (.ref it) u) (fun _ s2 => ∃ x H', Inv X pins σ H' s2 ∧ RelV x u ∧ J.yld i H x H' ∧ tn (i + 1) s2.heap ∧ ∀ b ∈ fp, H' b = none) E s1) E s
  done : ∀ (X : Cx), X.prog = P → X.w = w → X.K = K → X.calm = true → ∀ (i : Nat) (pins : List (Addr × Obj)) (s : Shared) (σ : St) (H : Hp) (E : Value → Shared → Prop), Inv X pins σ H s → (∀ b ∈ fp, FpOk X pins H b) → tn i s.heap → J.stop i H →
    wpAny (model P w) X.A (pyNext (.ref it)) (fun r s1 => r = none ∧ Inv X pins σ H s1) E s
  self : ∀ (A : Around) (i : Nat) (s : Shared) (Q : Value → Shared → Prop) (E : Value → Shared → Prop), tn i s.heap → Q (.ref it) s → wpAny (model P w) A (pyIter (.ref it)) Q E s
abbrev TI := St → Hp → (It → Hp → Prop) → Prop
def PIE (X : Cx) (pins : List (Addr × Obj)) (σ : St) (tg : Expr) (R : It → Hp → Prop) (itv : Value) (s2 : Shared) : Prop :=
  ∃ (it : Addr) (fp : List Addr) (tn : Nat → Heap → Prop) (J : It) (H' : Hp), itv = .ref it ∧ Inv X pins σ H' s2 ∧ Turn X.prog X.w X.K tg J fp it tn ∧ tn 0 s2.heap ∧ (∀ b ∈ fp, FpOk X pins H' b) ∧ R J H'
def PI (X : Cx) (tg iter : Expr) (wi : TI) : Prop :=
  ∀ (pins : List (Addr × Obj)) (s : Shared) (σ : St) (H : Hp) (R : It → Hp → Prop), Inv X pins σ H s → wi σ H R →
    wpAny (model X.prog X.w) X.A (eval iter X.env) (fun v s1 => wpAny (model X.prog X.w) X.A (pyIter v) (PIE X pins σ tg R) X.xe s1) X.xe s
theorem go_of {M : Model} {A : Around} {E : Value → Shared → Prop} {s : Shared} {tg : Expr} {it : Addr} {u : Value} {o : Obj} {n : String} {vs : Array Value} {Q : Unit → Shared → Prop} (ho : s.heap.get? it = some o) (hc : o.cls = .type n) (hd : o.data = .fields vs)
    (hn : ["enumerate", "zip", "dict_itemiterator", "dict_reverseitemiterator", "odict_iterator", "itertools.zip_longest", "itertools.pairwise"].contains n = false) (hQ : Q () s) : wpAny M A (letOwnedTupleGo tg (.ref it) u) Q E s := by
  unfold letOwnedTupleGo
  cases tg <;> first
    | exact wpAny_pure hQ
    | (cases u <;> first
        | exact wpAny_pure hQ
        | (refine wpAny_bind (wpAny_load ho ?_)
           rw [hc, hd]
           show wpAny M A (if (["enumerate", "zip", "dict_itemiterator", "dict_reverseitemiterator", "odict_iterator", "itertools.zip_longest", "itertools.pairwise"].contains n && vs[0]? == some (rawInt _)) = true then _ else _) Q E s
           rw [if_neg (by intro h; rw [hn, Bool.false_and] at h; cases h)]
           exact wpAny_pure hQ))
def Itl (K : PySem.W.Frag) (a : Addr) : It :=
  ⟨fun i H => ∃ xs x, SqL K H a xs ∧ xs[i]? = some x, fun i H x H' => H' = H ∧ ∀ xs, SqL K H a xs → xs[i]? = some x, fun i H => ∃ xs, SqL K H a xs ∧ xs.length ≤ i⟩
def Itt (K : PySem.W.Frag) (a : Addr) : It :=
  ⟨fun i H => ∃ xs x, SqT K H a xs ∧ xs[i]? = some x, fun i H x H' => H' = H ∧ ∀ xs, SqT K H a xs → xs[i]? = some x, fun i H => ∃ xs, SqT K H a xs ∧ xs.length ≤ i⟩
def Itr (lo : Int) (n : Nat) : It := ⟨fun i _ => i < n, fun i H x H' => H' = H ∧ x = .int (lo + i), fun i _ => n ≤ i⟩
theorem turn_list {P : Program} {w : World} {K : PySem.W.Frag} {tg : Expr} (a it : Addr) : Turn P w K tg (Itl K a) [it] it (fun i h => h.IsListIter it a i) where
  mem := by simp
  obj := fun i h st b hb => by
    have e : b = it := by simpa using hb
    subst e
    obtain ⟨o, e, c, d⟩ := st
    exact ⟨o, e, fun v z => by rw [d] at z; cases z⟩
  keep := fun i h h' st k => st.at fun o e => k it (by simp) o e
  item := by
    intro X hP hw hK hc i pins s σ H E I hf st hg
    subst hP hw hK
    obtain ⟨xs, x, hq, hx⟩ := hg
    obtain ⟨its, rv, p, hz⟩ := I.list hq
    obtain ⟨u, hu, ru⟩ := rv.get hx
    obtain ⟨f0, f1, f2, f3, f4, f5⟩ := hf it (by simp)
    refine wpAny_pyNext_list_item st p.isList (x := u) (by simpa using hu) fun h' st' sb => ?_
    have I1 : Inv X pins σ H { s with heap := h' } := I.turned (t' := s.toks) (fun b o hb e => (sb.2 b hb).trans e) f0 f1 f3 f4 f5
    obtain ⟨o, e, c, d⟩ := id st'
    exact ⟨u, rfl, go_of (s := { s with heap := h' }) e c d (by decide) ⟨x, H, I1, ru, ⟨rfl, fun ys hy => by rw [I.list_inj hy hq]; exact hx⟩, st', fun b hb => (hf b hb).1⟩⟩
  done := by
    intro X hP hw hK hc i pins s σ H E I hf st hg
    subst hP hw hK
    obtain ⟨xs, hq, hx⟩ := hg
    obtain ⟨its, rv, p, hz⟩ := I.list hq
    obtain ⟨f0, f1, f2, f3, f4, f5⟩ := hf it (by simp)
    have hl := rv.length
    exact wpAny_pyNext_list_end (I.ok.hd hc) st p.isList (by simp; omega) fun h' eb => ⟨rfl, I.turned (t' := s.toks) (fun b o hb e => eb b o hb e) f0 f1 f3 f4 f5⟩
  self := fun _ _ _ _ _ st h => wpAny_pyIter_listiter st h
theorem turn_tuple {P : Program} {w : World} {K : PySem.W.Frag} {tg : Expr} (a it : Addr) : Turn P w K tg (Itt K a) [it] it (fun i h => h.IsTupleIter it a i) where
  mem := by simp
  obj := fun i h st b hb => by
    have e : b = it := by simpa using hb
    subst e
    obtain ⟨o, e, c, d⟩ := st
    exact ⟨o, e, fun v z => by rw [d] at z; cases z⟩
  keep := fun i h h' st k => st.at fun o e => k it (by simp) o e
  item := by
    intro X hP hw hK hc i pins s σ H E I hf st hg
    subst hP hw hK
    obtain ⟨xs, x, hq, hx⟩ := hg
    obtain ⟨its, rv, p, hz⟩ := I.tuple hq
    obtain ⟨u, hu, ru⟩ := rv.get hx
    obtain ⟨f0, f1, f2, f3, f4, f5⟩ := hf it (by simp)
    refine wpAny_pyNext_tuple_item st (show s.heap.IsTuple a its.toArray from p) (x := u) (by simpa using hu) fun h' st' sb => ?_
    have I1 : Inv X pins σ H { s with heap := h' } := I.turned (t' := s.toks) (fun b o hb e => (sb.2 b hb).trans e) f0 f1 f3 f4 f5
    obtain ⟨o, e, c, d⟩ := id st'
    exact ⟨u, rfl, go_of (s := { s with heap := h' }) e c d (by decide) ⟨x, H, I1, ru, ⟨rfl, fun ys hy => by rw [I.tuple_inj hy hq]; exact hx⟩, st', fun b hb => (hf b hb).1⟩⟩
  done := by
    intro X hP hw hK hc i pins s σ H E I hf st hg
    subst hP hw hK
    obtain ⟨xs, hq, hx⟩ := hg
    obtain ⟨its, rv, p, hz⟩ := I.tuple hq
    obtain ⟨f0, f1, f2, f3, f4, f5⟩ := hf it (by simp)
    have hl := rv.length
    exact wpAny_pyNext_tuple_end (I.ok.hd hc) st (show s.heap.IsTuple a its.toArray from p) (by simp; omega) fun h' eb => ⟨rfl, I.turned (t' := s.toks) (fun b o hb e => eb b o hb e) f0 f1 f3 f4 f5⟩
  self := fun _ _ _ _ _ st h => wpAny_pyIter_tupleiter st h
theorem turn_range {P : Program} {w : World} {K : PySem.W.Frag} {tg : Expr} (it : Addr) (lo : Int) (n : Nat) : Turn P w K tg (Itr lo n) [it] it (fun i h => IsRangeIter h it (lo + (i : Nat) * 1) ((n : Int) - (i : Nat)) 1) where
  mem := by simp
  obj := fun i h st b hb => by
    have e : b = it := by simpa using hb
    subst e
    exact ⟨_, st, fun v z => by
      have z' : Data.fields _ = Data.cell v := z
      cases z'⟩
  keep := fun i h h' st k => k it (by simp) _ st
  item := by
    intro X hP hw hK hc i pins s σ H E I hf st hg
    subst hP hw hK
    obtain ⟨f0, f1, f2, f3, f4, f5⟩ := hf it (by simp)
    have W := Walks.range (prog := X.prog) (w := X.w) (I.ok.hd hc) it lo 1 n
    refine W.item i s _ _ hg st fun v h' tk hv st' kk => ?_
    obtain ⟨t, rfl⟩ := hv
    have I1 : Inv X pins σ H { s with heap := h', toks := tk } := I.turned (fun b o hb e => kk b o (by simpa using hb) e) f0 f1 f3 f4 f5
    refine ⟨_, rfl, go_of (s := { s with heap := h', toks := tk }) (n := "range_iterator") st' rfl rfl (by decide) ⟨.int (lo + i), H, I1, ⟨t, ?_⟩, ⟨rfl, rfl⟩, st', fun b hb => (hf b hb).1⟩⟩
    rw [Int.mul_one]
  done := by
    intro X hP hw hK hc i pins s σ H E I hf st hg
    subst hP hw hK
    obtain ⟨f0, f1, f2, f3, f4, f5⟩ := hf it (by simp)
    exact wpAny_pyNext_range_end (I.ok.hd hc) st (by have : n ≤ i := hg; omega) fun h' eb => ⟨rfl, I.turned (t' := s.toks) (fun b o hb e => eb b o hb e) f0 f1 f3 f4 f5⟩
  self := fun _ _ _ _ _ st h => wpAny_pyIter_rangeiter st h
end L2
namespace L2
open PySem PySem.Spec PyProof.Rows
section
variable {X : Cx} {tg : Expr}
def iList (K : PySem.W.Frag) (tl : TE) : TI := fun σ H R => tl σ H fun x H1 => ∃ a, x = .ref a ∧ (∃ xs, SqL K H1 a xs) ∧ R (Itl K a) H1
def iTup (K : PySem.W.Frag) (tl : TE) : TI := fun σ H R => tl σ H fun x H1 => ∃ a, x = .ref a ∧ (∃ xs, SqT K H1 a xs) ∧ R (Itt K a) H1
theorem pi_list {l : Expr} {tl : TE} (hl : PE X l tl) : PI X tg l (iList X.K tl) := by
  intro pins s σ H R I h
  refine thn (hl pins s σ H _ I h) fun v s1 ⟨x, H1, I1, r1, q1⟩ => ?_
  obtain ⟨a, e, ⟨xs, hq⟩, q⟩ := q1
  subst e
  cases r1
  obtain ⟨its, rv, p, hz⟩ := I1.list hq
  refine wpAny_pyIter_list p.isList ?_
  refine ⟨s1.heap.objs.size, [s1.heap.objs.size], _, _, H1, rfl, I1.kept (t' := s1.toks) fun b o e => Heap.get?_push_of_some _ e, turn_list a _, ⟨_, Heap.get?_push_size _ rfl, rfl, rfl⟩, fun b hb => ?_, q⟩
  have e : b = s1.heap.objs.size := by simpa using hb
  subst e
  exact I1.fpOk (Nat.le_refl _) (I1.hok.fresh (Nat.le_refl _))
theorem pi_tup {l : Expr} {tl : TE} (hl : PE X l tl) : PI X tg l (iTup X.K tl) := by
  intro pins s σ H R I h
  refine thn (hl pins s σ H _ I h) fun v s1 ⟨x, H1, I1, r1, q1⟩ => ?_
  obtain ⟨a, e, ⟨xs, hq⟩, q⟩ := q1
  subst e
  cases r1
  obtain ⟨its, rv, p, hz⟩ := I1.tuple hq
  refine wpAny_pyIter_tuple (show s1.heap.IsTuple a its.toArray from p) ?_
  refine ⟨s1.heap.objs.size, [s1.heap.objs.size], _, _, H1, rfl, I1.kept (t' := s1.toks) fun b o e => Heap.get?_push_of_some _ e, turn_tuple a _, ⟨_, Heap.get?_push_size _ rfl, rfl, rfl⟩, fun b hb => ?_, q⟩
  have e : b = s1.heap.objs.size := by simpa using hb
  subst e
  exact I1.fpOk (Nat.le_refl _) (I1.hok.fresh (Nat.le_refl _))
theorem range_it {pins : List (Addr × Obj)} {σ : St} {H : Hp} {s : Shared} {R : It → Hp → Prop} {E : Value → Shared → Prop} {lo hi : Int} {t u v : Tok} {tk : Nat} (I : Inv X pins σ H s) (h1 : -(2 ^ 62) ≤ lo) (h2 : lo < 2 ^ 62) (h3 : -(2 ^ 62) ≤ hi) (h4 : hi < 2 ^ 62)
    (q : R (Itr lo (hi - lo).toNat) H) : wpAny (model X.prog X.w) X.A (pyIter (.ref s.heap.objs.size)) (PIE X pins σ tg R) E { s with heap := s.heap.push { cls := .type "range", data := .fields #[.int lo t, .int hi u, .int 1 v] }, toks := tk } := by
  refine wpAny_pyIter_range (IsRange.new ..) (small_one h1 h2 h3 h4) ?_
  have I1 : Inv X pins σ H { s with heap := s.heap.push { cls := .type "range", data := .fields #[.int lo t, .int hi u, .int 1 v] }, toks := tk } := I.kept fun b o e => Heap.get?_push_of_some _ e
  refine ⟨(s.heap.push { cls := .type "range", data := .fields #[.int lo t, .int hi u, .int 1 v] }).objs.size, [(s.heap.push { cls := .type "range", data := .fields #[.int lo t, .int hi u, .int 1 v] }).objs.size], _, _, H, rfl,
    I1.kept (t' := tk) fun b o e => Heap.get?_push_of_some _ e, turn_range _ lo (hi - lo).toNat, ?_, fun b hb => ?_, q⟩
  · have e1 : lo + ((0 : Nat) : Int) * 1 = lo := by simp
    have e2 : (((hi - lo).toNat : Nat) : Int) - ((0 : Nat) : Int) = Builtin.Range.rangeSize lo hi 1 := by rw [rangeSize_one]; split <;> omega
    show IsRangeIter _ _ (lo + ((0 : Nat) : Int) * 1) ((((hi - lo).toNat : Nat) : Int) - ((0 : Nat) : Int)) 1
    rw [e1, e2]
    exact Heap.get?_push_size _ rfl
  · have e : b = (s.heap.push { cls := .type "range", data := .fields #[.int lo t, .int hi u, .int 1 v] }).objs.size := by simpa using hb
    subst e
    exact I1.fpOk (Nat.le_refl _) (I1.hok.fresh (Nat.le_refl _))
def iRng1 (ta : TA) : TI := fun σ H R => ta σ H fun vs H1 => ∃ j : Int, vs = [.int j] ∧ -(2 ^ 62) ≤ j ∧ j < 2 ^ 62 ∧ R (Itr 0 j.toNat) H1
def iRng2 (ta : TA) : TI := fun σ H R => ta σ H fun vs H1 => ∃ i j : Int, vs = [.int i, .int j] ∧ (-(2 ^ 62) ≤ i ∧ i < 2 ^ 62 ∧ -(2 ^ 62) ≤ j ∧ j < 2 ^ 62) ∧ R (Itr i (j - i).toNat) H1
theorem pi_range1 {a : Expr} {ta : TA} {p pos : Pos} (hg : Gl X "range") (hm : X.mg "range" = none) (ha : PA X [a] ta) (hs : starEach [a] X.env = [(false, eval a X.env)] := by rfl) : PI X tg (.Call (.Name "range" p) [a] [] pos) (iRng1 ta) := by
  intro pins s σ H R I h
  refine Call_ (ld_blt I hg hm boot_range (PyProof.Rows.callWith_type1 (thn (ha pos pins s σ H _ I h) fun us s1 ⟨vs, H1, I1, r1, q1⟩ => ?_) hs rfl))
  obtain ⟨j, e, q1, q2, q⟩ := q1
  subst e
  cases r1 with
  | cons r rr =>
    cases rr
    obtain ⟨t, rfl⟩ := r
    exact call_range_1 (range_it I1 (by omega) (by omega) q1 q2 (by simpa using q))
theorem pi_range2 {a b : Expr} {ta : TA} {p pos : Pos} (hg : Gl X "range") (hm : X.mg "range" = none) (ha : PA X [a, b] ta) (hs : starEach [a, b] X.env = [(false, eval a X.env), (false, eval b X.env)] := by rfl) (hs2 : starEach [b] X.env = [(false, eval b X.env)] := by rfl) :
    PI X tg (.Call (.Name "range" p) [a, b] [] pos) (iRng2 ta) := by
  intro pins s σ H R I h
  refine Call_ (ld_blt I hg hm boot_range (PyProof.Rows.callWith_type1 (thn (ha pos pins s σ H _ I h) fun us s1 ⟨vs, H1, I1, r1, q1⟩ => ?_) (by rw [hs, hs2]) (by rw [hs2]; rfl)))
  obtain ⟨i, j, e, ⟨q1, q2, q3, q4⟩, q⟩ := q1
  subst e
  cases r1 with
  | cons r rr =>
    cases rr with
    | cons r' rr =>
      cases rr
      obtain ⟨t, rfl⟩ := r
      obtain ⟨t', rfl⟩ := r'
      exact call_range_2 (range_it I1 q1 q2 q3 q4 q)
def tFor (wi : TI) (g : TG) (tb : TS) : TS := fun D σ H => wi σ H fun J H1 => ∃ W : Nat → Nat → St → Hp → Prop, (∃ m, W 0 m σ H1) ∧ ∀ i m σ H, W i m σ H →
  (J.stop i H ∧ D.nx σ H) ∨ (J.go i H ∧ ∃ N : St → Hp → Prop, (∀ σ' H', N σ' H' → ∃ m', m' < m ∧ W (i + 1) m' σ' H') ∧ ∀ x H', J.yld i H x H' → g x σ H' fun σ2 H2 => tb { D with nx := N, ct := N, bk := D.nx } σ2 H2)
def pinsAt (fp : List Addr) (h : Heap) : List (Addr × Obj) := fp.filterMap fun b => (h.get? b).map fun o => (b, o)
theorem mem_pinsAt {fp : List Addr} {h : Heap} {b : Addr} {o : Obj} (hb : b ∈ fp) (e : h.get? b = some o) : (b, o) ∈ pinsAt fp h := List.mem_filterMap.mpr ⟨b, hb, by rw [e]; rfl⟩
theorem of_pinsAt {fp : List Addr} {h : Heap} {p : Addr × Obj} (hp : p ∈ pinsAt fp h) : p.1 ∈ fp ∧ h.get? p.1 = some p.2 := by
  obtain ⟨b, hb, e⟩ := List.mem_filterMap.mp hp
  cases q : h.get? b with
  | none => rw [q] at e; cases e
  | some o =>
    rw [q] at e
    have e' : (b, o) = p := Option.some.inj e
    subst e'
    exact ⟨hb, q⟩
theorem Inv.pinned {pins : List (Addr × Obj)} {σ : St} {H : Hp} {s : Shared} {fp : List Addr} (I : Inv X pins σ H s) (hf : ∀ b ∈ fp, FpOk X pins H b) (ho : ∀ b ∈ fp, ∃ o, s.heap.get? b = some o ∧ ∀ v, o.data ≠ .cell v) : Inv X (pins ++ pinsAt fp s.heap) σ H s :=
  I.pins_of fun p hp => (List.mem_append.mp hp).elim (fun z => I.pin p (List.mem_append_right _ z)) fun z => by
    obtain ⟨hb, e⟩ := of_pinsAt z
    obtain ⟨f0, f1, f2, _⟩ := hf p.1 hb
    obtain ⟨o, e', d⟩ := ho p.1 hb
    rw [e] at e'; cases e'
    exact ⟨e, f0, f1, f2, d⟩
theorem Inv.unpinned {pins pl : List (Addr × Obj)} {σ : St} {H : Hp} {s : Shared} (I : Inv X (pins ++ pl) σ H s) : Inv X pins σ H s := I.pins_of fun p hp => I.pin p (List.mem_append_right _ (List.mem_append_left _ hp))
theorem ps_for {iter : Expr} {body : List Stmt} {wi : TI} {g : TG} {tb : TS} {pos : Pos} (hp : PassesOwn (model X.prog X.w) X.A X.env X.xe) (hc : X.calm = true) (hi : PI X tg iter wi) (hg : PG X tg g) (hb : PSs X body tb)
    (hs : ∀ x, foldedSetIterable iter X.env x = pure x := by intro _; rfl) : PS X (.For tg iter body [] pos) (tFor wi g tb) := by
  intro pins s σ H D I h
  refine wpAny_For (thn (hi pins s σ H _ I h) fun v s1 h1 => thn h1 fun itv s2 h2 => ?_) hs
  obtain ⟨it, fp, tn, J, H2, e, I2, T, st2, f2, W, ⟨m0, w0⟩, turn⟩ := h2
  subst e
  have stat : ∀ {H' : Hp}, (∀ b ∈ fp, H' b = none) → ∀ b ∈ fp, FpOk X pins H' b := fun hn b hb => ⟨hn b hb, (f2 b hb).2⟩
  refine codeAny_forLoop_any (fun n s' => ∃ i σ' H', Inv X pins σ' H' s' ∧ tn i s'.heap ∧ (∀ b ∈ fp, H' b = none) ∧ W i n σ' H') ?_ m0 ⟨0, σ, H2, I2, st2, fun b hb => (f2 b hb).1, w0⟩
  rintro n s3 ⟨i, σ3, H3, I3, st3, fr3, w3⟩
  rcases turn i n σ3 H3 w3 with ⟨stop, qn⟩ | ⟨go, N, hN, step⟩
  · refine wpAny_passesOwn hp (thn (T.done X rfl rfl rfl hc i pins s3 σ3 H3 X.xe I3 (stat fr3) st3 stop) fun r s4 ⟨hr, I4⟩ => ?_)
    subst hr
    exact wpAny_execs_nil ⟨σ3, H3, I4, qn⟩
  · refine wpAny_passesOwn hp (thn (T.item X rfl rfl rfl hc i pins s3 σ3 H3 X.xe I3 (stat fr3) st3 go) fun r s4 ⟨u, hr, h4⟩ => ?_)
    subst hr
    refine wpAny_passesOwn hp (thn h4 fun _ s5 ⟨x, H5, I5, r5, y5, st5, fr5⟩ => ?_)
    have I5' := I5.pinned (stat fr5) (T.obj _ _ st5)
    refine wpAny_passesOwn hp (thn (hg _ s5 σ3 H5 x u _ I5' r5 (step x H5 y5)) fun _ s6 ⟨σ6, H6, I6, q6⟩ => ?_)
    refine wpAny_passesOwn hp (thn (hb _ s6 σ6 H6 _ I6 q6) fun f s7 q7 => ?_)
    have again : ∀ {σ7 : St} {H7 : Hp}, Inv X (pins ++ pinsAt fp s5.heap) σ7 H7 s7 → N σ7 H7 → ∃ m, m < n ∧ ∃ i σ' H', Inv X pins σ' H' s7 ∧ tn i s7.heap ∧ (∀ b ∈ fp, H' b = none) ∧ W i m σ' H' := fun {σ7 H7} I7 n7 => by
      obtain ⟨m', hm, w7⟩ := hN σ7 H7 n7
      refine ⟨m', hm, i + 1, σ7, H7, I7.unpinned, T.keep _ _ _ st5 fun b hb o e => (I7.pin (b, o) (List.mem_append_right _ (List.mem_append_right _ (mem_pinsAt hb e)))).1, fun b hb => ?_, w7⟩
      obtain ⟨o, e, d⟩ := T.obj _ _ st5 b hb
      exact (I7.pin (b, o) (List.mem_append_right _ (List.mem_append_right _ (mem_pinsAt hb e)))).2.1
    cases f with
    | next => obtain ⟨σ7, H7, I7, n7⟩ := q7; exact again I7 n7
    | cont => obtain ⟨σ7, H7, I7, n7⟩ := q7; exact again I7 n7
    | brk => obtain ⟨σ7, H7, I7, q7⟩ := q7; exact ⟨σ7, H7, I7.unpinned, q7⟩
    | ret v => obtain ⟨x7, σ7, H7, I7, r7, q7⟩ := q7; exact ⟨x7, σ7, H7, I7.unpinned, r7, q7⟩
end
theorem for_list {K : PySem.W.Frag} {a : Addr} {xs : List V} {g : TG} {tb : TS} {D : Ends} {σ : St} {H : Hp} (Pv : Nat → St → Hp → Prop) (h0 : Pv 0 σ H) (hl : ∀ i σ H, i ≤ xs.length → Pv i σ H → SqL K H a xs)
    (hs : ∀ i x σ H, xs[i]? = some x → Pv i σ H → g x σ H fun σ2 H2 => tb { D with nx := Pv (i + 1), ct := Pv (i + 1), bk := D.nx } σ2 H2) (hd : ∀ σ H, Pv xs.length σ H → D.nx σ H) :
    ∃ W : Nat → Nat → St → Hp → Prop, (∃ m, W 0 m σ H) ∧ ∀ i m σ H, W i m σ H →
      ((Itl K a).stop i H ∧ D.nx σ H) ∨ ((Itl K a).go i H ∧ ∃ N : St → Hp → Prop, (∀ σ' H', N σ' H' → ∃ m', m' < m ∧ W (i + 1) m' σ' H') ∧ ∀ x H', (Itl K a).yld i H x H' → g x σ H' fun σ2 H2 => tb { D with nx := N, ct := N, bk := D.nx } σ2 H2) := by
  refine ⟨fun i m σ H => m = xs.length - i ∧ i ≤ xs.length ∧ Pv i σ H, ⟨xs.length, by simp, Nat.zero_le _, h0⟩, ?_⟩
  rintro i m σ H ⟨rfl, hi, p⟩
  have q := hl i σ H hi p
  by_cases hlt : i < xs.length
  · refine .inr ⟨⟨xs, xs[i], q, by simp [hlt]⟩, Pv (i + 1), fun σ' H' p' => ⟨xs.length - (i + 1), by omega, rfl, hlt, p'⟩, fun x H' y => ?_⟩
    obtain ⟨e, y⟩ := y
    subst e
    exact hs i x σ _ (y xs q) p
  · have e : i = xs.length := by omega
    subst e
    exact .inl ⟨⟨xs, q, Nat.le_refl _⟩, hd σ H p⟩
theorem for_tup {K : PySem.W.Frag} {a : Addr} {xs : List V} {g : TG} {tb : TS} {D : Ends} {σ : St} {H : Hp} (Pv : Nat → St → Hp → Prop) (h0 : Pv 0 σ H) (hl : ∀ i σ H, i ≤ xs.length → Pv i σ H → SqT K H a xs)
    (hs : ∀ i x σ H, xs[i]? = some x → Pv i σ H → g x σ H fun σ2 H2 => tb { D with nx := Pv (i + 1), ct := Pv (i + 1), bk := D.nx } σ2 H2) (hd : ∀ σ H, Pv xs.length σ H → D.nx σ H) :
    ∃ W : Nat → Nat → St → Hp → Prop, (∃ m, W 0 m σ H) ∧ ∀ i m σ H, W i m σ H →
      ((Itt K a).stop i H ∧ D.nx σ H) ∨ ((Itt K a).go i H ∧ ∃ N : St → Hp → Prop, (∀ σ' H', N σ' H' → ∃ m', m' < m ∧ W (i + 1) m' σ' H') ∧ ∀ x H', (Itt K a).yld i H x H' → g x σ H' fun σ2 H2 => tb { D with nx := N, ct := N, bk := D.nx } σ2 H2) := by
  refine ⟨fun i m σ H => m = xs.length - i ∧ i ≤ xs.length ∧ Pv i σ H, ⟨xs.length, by simp, Nat.zero_le _, h0⟩, ?_⟩
  rintro i m σ H ⟨rfl, hi, p⟩
  have q := hl i σ H hi p
  by_cases hlt : i < xs.length
  · refine .inr ⟨⟨xs, xs[i], q, by simp [hlt]⟩, Pv (i + 1), fun σ' H' p' => ⟨xs.length - (i + 1), by omega, rfl, hlt, p'⟩, fun x H' y => ?_⟩
    obtain ⟨e, y⟩ := y
    subst e
    exact hs i x σ _ (y xs q) p
  · have e : i = xs.length := by omega
    subst e
    exact .inl ⟨⟨xs, q, Nat.le_refl _⟩, hd σ H p⟩
theorem for_range {lo : Int} {n : Nat} {g : TG} {tb : TS} {D : Ends} {σ : St} {H : Hp} (Pv : Nat → St → Hp → Prop) (h0 : Pv 0 σ H)
    (hs : ∀ i σ H, i < n → Pv i σ H → g (.int (lo + i)) σ H fun σ2 H2 => tb { D with nx := Pv (i + 1), ct := Pv (i + 1), bk := D.nx } σ2 H2) (hd : ∀ σ H, Pv n σ H → D.nx σ H) :
    ∃ W : Nat → Nat → St → Hp → Prop, (∃ m, W 0 m σ H) ∧ ∀ i m σ H, W i m σ H →
      ((Itr lo n).stop i H ∧ D.nx σ H) ∨ ((Itr lo n).go i H ∧ ∃ N : St → Hp → Prop, (∀ σ' H', N σ' H' → ∃ m', m' < m ∧ W (i + 1) m' σ' H') ∧ ∀ x H', (Itr lo n).yld i H x H' → g x σ H' fun σ2 H2 => tb { D with nx := N, ct := N, bk := D.nx } σ2 H2) := by
  refine ⟨fun i m σ H => m = n - i ∧ i ≤ n ∧ Pv i σ H, ⟨n, by simp, Nat.zero_le _, h0⟩, ?_⟩
  rintro i m σ H ⟨rfl, hi, p⟩
  by_cases hlt : i < n
  · refine .inr ⟨hlt, Pv (i + 1), fun σ' H' p' => ⟨n - (i + 1), by omega, rfl, hlt, p'⟩, fun x H' y => ?_⟩
    obtain ⟨e, y⟩ := y
    subst e y
    exact hs i σ _ hlt p
  · have e : i = n := by omega
    subst e
    exact .inl ⟨Nat.le_refl _, hd σ H p⟩
end L2
namespace L2
open PySem PySem.Spec PyProof.Rows
abbrev R2 := V → V → Hp → VK → Prop
def OpR (X : Cx) (f : Value → Value → Sem Value) (r : R2) : Prop :=
  ∀ (pins : List (Addr × Obj)) (s : Shared) (σ : St) (H : Hp) (x y : V) (v u : Value) (Q : VK), Inv X pins σ H s → RelV x v → RelV y u → r x y H Q →
    wpAny (model X.prog X.w) X.A (f v u) (EP X pins σ Q) X.xe s
def CallR (X : Cx) (f : Value) (r : List V → Hp → VK → Prop) : Prop :=
  ∀ (pins : List (Addr × Obj)) (s : Shared) (σ : St) (H : Hp) (xs : List V) (us : List Value) (Q : VK), Inv X pins σ H s → Vals xs us → r xs H Q →
    wpAny (model X.prog X.w) X.A (call f us) (EP X pins σ Q) X.xe s
def tOp (r : R2) (ta tb : TE) : TE := fun σ H Q => ta σ H fun x H1 => tb σ H1 fun y H2 => r x y H2 Q
def rI (C : Int → Int → Prop) (g : Int → Int → V) : R2 := fun x y H Q => ∃ i j, x = .int i ∧ y = .int j ∧ C i j ∧ Q (g i j) H
def rI0 (g : Int → Int → V) : R2 := fun x y H Q => ∃ i j, x = .int i ∧ y = .int j ∧ Q (g i j) H
section
variable {X : Cx} {a b c : Expr} {ta tb tc : TE} {pos : Pos}
theorem binT (ha : PE X a ta) (hb : PE X b tb) {pins : List (Addr × Obj)} {s : Shared} {σ : St} {H : Hp} {R : V → V → Hp → Prop} (I : Inv X pins σ H s)
    (h : ta σ H fun x H1 => tb σ H1 fun y H2 => R x y H2) {Q : Value → Shared → Prop} {f : Value → Value → Sem Value}
    (hf : ∀ v u s2 x y H2, Inv X pins σ H2 s2 → RelV x v → RelV y u → R x y H2 → wpAny (model X.prog X.w) X.A (f v u) Q X.xe s2) :
    wpAny (model X.prog X.w) X.A (eval a X.env) (fun v s₁ => wpAny (model X.prog X.w) X.A (eval b X.env) (fun u s₂ => wpAny (model X.prog X.w) X.A (f v u) Q X.xe s₂) X.xe s₁) X.xe s := by
  refine thn (ha pins s σ H _ I h) fun v s1 ⟨x, H1, I1, r1, q1⟩ => ?_
  refine thn (hb pins s1 σ H1 _ I1 q1) fun u s2 ⟨y, H2, I2, r2, q2⟩ => ?_
  exact hf v u s2 x y H2 I2 r1 r2 q2
theorem pe_op {op : Operator} {r : R2} (ho : OpR X (binaryOp op) r) (ha : PE X a ta) (hb : PE X b tb) : PE X (.BinOp a op b pos) (tOp r ta tb) := by
  intro pins s σ H Q I h
  exact wpAny_BinOp (binT ha hb I h fun v u s2 x y H2 I2 rx ry q => ho pins s2 σ H2 x y v u Q I2 rx ry q)
theorem opI {f : Value → Value → Sem Value} {C : Int → Int → Prop} {g : Int → Int → Int}
    (rule : ∀ (i j : Int) (t u : Tok) (s : Shared) (Q : Value → Shared → Prop) (E : Value → Shared → Prop), C i j → Q (.int (g i j) s.toks) { s with toks := s.toks + 1 } → wpAny (model X.prog X.w) X.A (f (.int i t) (.int j u)) Q E s) :
    OpR X f (rI C fun i j => .int (g i j)) := by
  intro pins s σ H x y v u Q I rx ry h
  obtain ⟨i, j, rfl, rfl, hc, q⟩ := h
  obtain ⟨t, rfl⟩ := rx
  obtain ⟨t', rfl⟩ := ry
  exact rule i j t t' s _ _ hc ⟨.int (g i j), H, I.tok _, ⟨_, rfl⟩, q⟩
theorem opI0 {f : Value → Value → Sem Value} {g : Int → Int → Int}
    (rule : ∀ (i j : Int) (t u : Tok) (s : Shared) (Q : Value → Shared → Prop) (E : Value → Shared → Prop), Q (.int (g i j) s.toks) { s with toks := s.toks + 1 } → wpAny (model X.prog X.w) X.A (f (.int i t) (.int j u)) Q E s) :
    OpR X f (rI0 fun i j => .int (g i j)) := by
  intro pins s σ H x y v u Q I rx ry h
  obtain ⟨i, j, rfl, rfl, q⟩ := h
  obtain ⟨t, rfl⟩ := rx
  obtain ⟨t', rfl⟩ := ry
  exact rule i j t t' s _ _ ⟨.int (g i j), H, I.tok _, ⟨_, rfl⟩, q⟩
theorem opB0 {f : Value → Value → Sem Value} {g : Int → Int → Bool}
    (rule : ∀ (i j : Int) (t u : Tok) (s : Shared) (Q : Value → Shared → Prop) (E : Value → Shared → Prop), Q (.bool (g i j)) s → wpAny (model X.prog X.w) X.A (f (.int i t) (.int j u)) Q E s) :
    OpR X f (rI0 fun i j => .bl (g i j)) := by
  intro pins s σ H x y v u Q I rx ry h
  obtain ⟨i, j, rfl, rfl, q⟩ := h
  obtain ⟨t, rfl⟩ := rx
  obtain ⟨t', rfl⟩ := ry
  exact rule i j t t' s _ _ ⟨.bl (g i j), H, I, rfl, q⟩
def CPow (i j : Int) : Prop := 0 ≤ j ∧ j ≤ 1000000 ∧ i.natAbs < 2 ^ 64
theorem two_pow_nn (k : Nat) : (0 : Int) ≤ 2 ^ k := by
  rw [two_pow_cast]
  exact Int.natCast_nonneg _
theorem op_add : OpR X (binaryOp .Add) (rI0 fun i j => .int (i + j)) := opI0 fun _ _ _ _ _ _ _ q => add_int q
theorem op_modN : OpR X (binaryOp .Mod) (rI (fun _ j => j ≠ 0) fun i j => .int (i.fmod j)) := opI fun _ _ _ _ _ _ _ hc q => mod_int' hc q
theorem op_pow : OpR X (binaryOp .Pow) (rI CPow fun i j => .int (i ^ j.toNat)) := opI fun _ _ _ _ _ _ _ hc q => pow_int_small hc.1 hc.2.1 hc.2.2 q
theorem op_shl : OpR X (binaryOp .LShift) (rI CPow fun i j => .int (i * 2 ^ j.toNat)) := opI fun _ _ _ _ _ _ _ hc q => lshift_int_small hc.1 hc.2.1 hc.2.2 q
theorem op_shr : OpR X (binaryOp .RShift) (rI (fun _ j => 0 ≤ j) fun i j => .int (i / 2 ^ j.toNat)) := opI fun i j _ _ _ _ _ hc q =>
  rshift_int hc (by rw [Int.fdiv_eq_ediv_of_nonneg i (two_pow_nn _)]; exact q)
theorem op_and : OpR X (binaryOp .BitAnd) (rI0 fun i j => .int (Builtin.bitAnd i j)) := opI0 fun _ _ _ _ _ _ _ q => and_int q
theorem op_or : OpR X (binaryOp .BitOr) (rI0 fun i j => .int (Builtin.bitOr i j)) := opI0 fun _ _ _ _ _ _ _ q => or_int q
end
def scal : V → V → Bool
  | .non, .non => true | .non, .int _ => true | .int _, .non => true | .non, .bl _ => true | .bl _, .non => true | .non, .str _ => true | .str _, .non => true
  | .int _, .int _ => true | .bl _, .bl _ => true | .str _, .str _ => true | .byt _, .byt _ => true
  | .int _, .str _ => true | .str _, .int _ => true | .bl _, .str _ => true | .str _, .bl _ => true
  | _, _ => false
def rEq : R2 := fun x y H Q => scal x y = true ∧ Q (.bl (decide (x = y))) H
def rNe : R2 := fun x y H Q => scal x y = true ∧ Q (.bl (!decide (x = y))) H
theorem dec_int {i j : Int} : decide (V.int i = V.int j) = (i == j) := by
  rw [Bool.eq_iff_iff]
  simp
theorem dec_bl {i j : Bool} : decide (V.bl i = V.bl j) = (i == j) := by
  rw [Bool.eq_iff_iff]
  simp
theorem dec_str {i j : Str} : decide (V.str i = V.str j) = (i == j) := by
  rw [Bool.eq_iff_iff]
  simp
theorem dec_byt {i j : Array UInt8} : decide (V.byt i = V.byt j) = (i.toList == j.toList) := by
  rw [Bool.eq_iff_iff]
  cases i
  cases j
  simp
section
variable {X : Cx} {a b c : Expr} {ta tb tc : TE} {pos : Pos}
theorem fin_bl {pins : List (Addr × Obj)} {σ : St} {H : Hp} {s : Shared} {Q : VK} {k k' : Bool} (I : Inv X pins σ H s) (q : Q (.bl k) H) (e : k = k') : EP X pins σ Q (.bool k') s := by
  subst e
  exact ⟨.bl k, H, I, rfl, q⟩
theorem op_eq : OpR X (compareOp .Eq) rEq := by
  intro pins s σ H x y v u Q I rx ry h
  obtain ⟨hs, q⟩ := h
  cases x with
  | non =>
    cases rx
    cases y with
    | non => cases ry; exact PySem.EqNone.eq_none_none (fin_bl I q (by simp))
    | bl j => cases ry; exact PySem.EqNone.eq_none_bool (fin_bl I q (by simp))
    | int j => obtain ⟨t', rfl⟩ := ry; exact PySem.EqNone.eq_none_int (fin_bl I q (by simp))
    | str j => obtain ⟨t', rfl⟩ := ry; exact PySem.EqNone.eq_none_str (fin_bl I q (by simp))
    | _ => exact absurd (show false = true from hs) Bool.false_ne_true
  | bl i =>
    cases rx
    cases y with
    | non => cases ry; exact PySem.EqNone.eq_bool_none (fin_bl I q (by simp))
    | bl j => cases ry; exact eq_bool (fin_bl I q dec_bl)
    | str j => obtain ⟨t', rfl⟩ := ry; exact PySem.EqMixed.eq_bool_str (fin_bl I q (by simp))
    | _ => exact absurd (show false = true from hs) Bool.false_ne_true
  | int i =>
    obtain ⟨t, rfl⟩ := rx
    cases y with
    | non => cases ry; exact PySem.EqNone.eq_int_none (fin_bl I q (by simp))
    | int j => obtain ⟨t', rfl⟩ := ry; exact eq_int (fin_bl I q dec_int)
    | str j => obtain ⟨t', rfl⟩ := ry; exact PySem.EqMixed.eq_int_str (fin_bl I q (by simp))
    | _ => exact absurd (show false = true from hs) Bool.false_ne_true
  | str i =>
    obtain ⟨t, rfl⟩ := rx
    cases y with
    | non => cases ry; exact PySem.EqNone.eq_str_none (fin_bl I q (by simp))
    | bl j => cases ry; exact PySem.EqMixed.eq_str_bool (fin_bl I q (by simp))
    | int j => obtain ⟨t', rfl⟩ := ry; exact PySem.EqMixed.eq_str_int (fin_bl I q (by simp))
    | str j => obtain ⟨t', rfl⟩ := ry; exact eq_str (fin_bl I q dec_str)
    | _ => exact absurd (show false = true from hs) Bool.false_ne_true
  | byt i =>
    obtain ⟨t, rfl⟩ := rx
    cases y with
    | byt j => obtain ⟨t', rfl⟩ := ry; exact PySem.W.eq_bytes (fin_bl I q dec_byt)
    | _ => exact absurd (show false = true from hs) Bool.false_ne_true
  | _ => cases y <;> exact absurd (show false = true from hs) Bool.false_ne_true
theorem op_ne : OpR X (compareOp .NotEq) rNe := by
  intro pins s σ H x y v u Q I rx ry h
  obtain ⟨hs, q⟩ := h
  cases x with
  | non =>
    cases rx
    cases y with
    | non => cases ry; exact PySem.EqNone.ne_none_none (fin_bl I q (by simp))
    | bl j => cases ry; exact PySem.EqNone.ne_none_bool (fin_bl I q (by simp))
    | int j => obtain ⟨t', rfl⟩ := ry; exact PySem.EqNone.ne_none_int (fin_bl I q (by simp))
    | str j => obtain ⟨t', rfl⟩ := ry; exact PySem.EqNone.ne_none_str (fin_bl I q (by simp))
    | _ => exact absurd (show false = true from hs) Bool.false_ne_true
  | bl i =>
    cases rx
    cases y with
    | non => cases ry; exact PySem.EqNone.ne_bool_none (fin_bl I q (by simp))
    | bl j => cases ry; exact ne_bool (fin_bl I q (congrArg not dec_bl))
    | str j => obtain ⟨t', rfl⟩ := ry; exact PySem.EqMixed.ne_bool_str (fin_bl I q (by simp))
    | _ => exact absurd (show false = true from hs) Bool.false_ne_true
  | int i =>
    obtain ⟨t, rfl⟩ := rx
    cases y with
    | non => cases ry; exact PySem.EqNone.ne_int_none (fin_bl I q (by simp))
    | int j => obtain ⟨t', rfl⟩ := ry; exact ne_int (fin_bl I q (congrArg not dec_int))
    | str j => obtain ⟨t', rfl⟩ := ry; exact PySem.EqMixed.ne_int_str (fin_bl I q (by simp))
    | _ => exact absurd (show false = true from hs) Bool.false_ne_true
  | str i =>
    obtain ⟨t, rfl⟩ := rx
    cases y with
    | non => cases ry; exact PySem.EqNone.ne_str_none (fin_bl I q (by simp))
    | bl j => cases ry; exact PySem.EqMixed.ne_str_bool (fin_bl I q (by simp))
    | int j => obtain ⟨t', rfl⟩ := ry; exact PySem.EqMixed.ne_str_int (fin_bl I q (by simp))
    | str j => obtain ⟨t', rfl⟩ := ry; exact ne_str (fin_bl I q (congrArg not dec_str))
    | _ => exact absurd (show false = true from hs) Bool.false_ne_true
  | byt i =>
    obtain ⟨t, rfl⟩ := rx
    cases y with
    | byt j => obtain ⟨t', rfl⟩ := ry; exact PySem.W.ne_bytes (fin_bl I q (congrArg not dec_byt))
    | _ => exact absurd (show false = true from hs) Bool.false_ne_true
  | _ => cases y <;> exact absurd (show false = true from hs) Bool.false_ne_true
theorem op_lt : OpR X (compareOp .Lt) (rI0 fun i j => .bl (decide (i < j))) := opB0 fun _ _ _ _ _ _ _ q => lt_int q
theorem op_le : OpR X (compareOp .LtE) (rI0 fun i j => .bl (decide (i ≤ j))) := opB0 fun _ _ _ _ _ _ _ q => le_int q
theorem op_gt : OpR X (compareOp .Gt) (rI0 fun i j => .bl (decide (j < i))) := opB0 fun _ _ _ _ _ _ _ q => gt_int q
theorem nomark (b : Expr) {op : CmpOp} (h : op ≠ .In := by decide) (h2 : op ≠ .NotIn := by decide) : behindInMarks op b = false := by
  have e1 : (op == CmpOp.In) = false := by cases op <;> first | rfl | exact absurd rfl h
  have e2 : (op == CmpOp.NotIn) = false := by cases op <;> first | rfl | exact absurd rfl h2
  cases b <;> simp [behindInMarks, e1, e2]
theorem pe_cmpR {op : CmpOp} {r : R2} (ho : OpR X (compareOp op) r) (ha : PE X a ta) (hb : PE X b tb) (hm : behindInMarks op b = false) : PE X (.Compare a [op] [b] pos) (tOp r ta tb) := by
  intro pins s σ H Q I h
  exact wpAny_Compare1 (binT ha hb I h fun v u s2 x y H2 I2 rx ry q => ho pins s2 σ H2 x y v u Q I2 rx ry q) hm
def tTest (t : TE) : TT := fun σ H Q => t σ H fun x H' => ∃ k, x = .bl k ∧ Q k H'
theorem pt_cmpR {op : CmpOp} {r : R2} (ho : OpR X (compareOp op) r) (ha : PE X a ta) (hb : PE X b tb) (hm : behindInMarks op b = false) : PT X (.Compare a [op] [b] pos) (tTest (tOp r ta tb)) := by
  intro pins s σ H Q I h
  refine wpAny_isTrue_Compare1 (thn (ha pins s σ H _ I h) fun v s1 ⟨x, H1, I1, r1, q1⟩ => thn (hb pins s1 σ H1 _ I1 q1) fun u s2 ⟨y, H2, I2, r2, q2⟩ =>
    thn (ho pins s2 σ H2 x y v u _ I2 r1 r2 q2) fun c s3 ⟨z, H3, I3, r3, k, e, q3⟩ => ?_) hm
  subst e
  cases r3
  exact wpAny_truthy_bool ⟨H3, I3, q3⟩
def tChain (r r' : R2) (ta tb tc : TE) : TE := fun σ H Q => ta σ H fun x H1 => tb σ H1 fun y H2 => r x y H2 fun z H3 => ∃ k, z = .bl k ∧
  (if k = true then tc σ H3 fun w' H4 => r' y w' H4 Q else Q (.bl false) H3)
theorem pe_chain {op op' : CmpOp} {r r' : R2} (ho : OpR X (compareOp op) r) (ho' : OpR X (compareOp op') r') (ha : PE X a ta) (hb : PE X b tb) (hc : PE X c tc)
    (hm : lastMarks [op, op'] [b, c] = false := by with_unfolding_all rfl) : PE X (.Compare a [op, op'] [b, c] pos) (tChain r r' ta tb tc) := by
  intro pins s σ H Q I h
  refine Compare_chain (thn (ha pins s σ H _ I h) fun v s1 ⟨x, H1, I1, r1, q1⟩ => chain_link (thn (hb pins s1 σ H1 _ I1 q1) fun u s2 ⟨y, H2, I2, r2, q2⟩ =>
    thn (ho pins s2 σ H2 x y v u _ I2 r1 r2 q2) fun d s3 ⟨z, H3, I3, r3, k, e, q3⟩ => ?_)) hm
  subst e
  cases r3
  refine wpAny_truthy_bool ?_
  cases k with
  | false => exact ite_ff ⟨.bl false, H3, I3, rfl, q3⟩
  | true => exact ite_tt (chain_last (thn (hc pins s3 σ H3 _ I3 q3) fun w' s4 ⟨z', H4, I4, r4, q4⟩ => ho' pins s4 σ H4 y z' u w' Q I4 r2 r4 q4))
theorem line63 : (sizeLine : Nat) < 2 ^ 63 := by rw [sizeLine_eq]; decide
theorem vals1 {x : V} {us : List Value} (r : Vals [x] us) : ∃ u, us = [u] ∧ RelV x u := by
  cases r with
  | cons r1 r2 => cases r2; exact ⟨_, rfl, r1⟩
theorem vals2 {x y : V} {us : List Value} (r : Vals [x, y] us) : ∃ u w', us = [u, w'] ∧ RelV x u ∧ RelV y w' := by
  cases r with
  | cons r1 r2 =>
    cases r2 with
    | cons r3 r4 => cases r4; exact ⟨_, _, rfl, r1, r3⟩
theorem call_min2 (hc : X.calm = true) : CallR X (.builtin "min") (fun xs H Q => ∃ i j, xs = [.int i, .int j] ∧ Q (.int (if j < i then j else i)) H) := by
  intro pins s σ H xs us Q I r h
  obtain ⟨i, j, rfl, q⟩ := h
  obtain ⟨u, w', rfl, ⟨t, rfl⟩, ⟨t', rfl⟩⟩ := vals2 r
  refine min_two_ints (I.ok.hd hc) fun h' tk k => ⟨_, H, I.kept k, ?_, q⟩
  by_cases hj : j < i
  · rw [if_pos hj, if_pos hj]; exact ⟨_, rfl⟩
  · rw [if_neg hj, if_neg hj]; exact ⟨_, rfl⟩
theorem call_int1 : CallR X (.type "int") (fun xs H Q => (∃ i, xs = [.int i] ∧ Q (.int i) H) ∨ ∃ k, xs = [.bl k] ∧ Q (.int (if k then 1 else 0)) H) := by
  intro pins s σ H xs us Q I r h
  rcases h with ⟨i, rfl, q⟩ | ⟨k, rfl, q⟩
  · obtain ⟨u, rfl, t, rfl⟩ := vals1 r
    exact call_int_int ⟨.int i, H, I, ⟨_, rfl⟩, q⟩
  · obtain ⟨u, rfl, r1⟩ := vals1 r
    cases r1
    exact call_int_bool ⟨.int (if k then 1 else 0), H, I.tok _, ⟨_, rfl⟩, q⟩
end
end L2
namespace L2
open PySem PySem.Spec PyProof.Rows
structure ObjM (h : Heap) (x dx C : Addr) (mA : Str → Option Value) : Prop where
  obj : h.get? x = some (PySem.W.instObj C dx)
  ns : h.Ns1 dx mA
  ne : dx ≠ x
theorem lookIn_ns {h : Heap} {dx : Addr} {mA : Str → Option Value} (n : h.Ns1 dx mA) : ∃ od, h.get? dx = some od ∧ ∀ name, PySem.W.lookIn name od = some (mA name) := by
  obtain ⟨o, es, ep, ho, hd, hk, _, hm⟩ := n
  refine ⟨o, ho, fun name => ?_⟩
  have e := hm name
  unfold nsFind findBy at e
  rw [← Array.find?_toList] at e
  unfold PySem.W.lookIn
  rw [hd]
  dsimp only
  split
  · rename_i y q
    rw [q] at e
    exact congrArg some e
  · rename_i q
    rw [q] at e
    have a : es.toList.any (·.refKey) = false := by
      rw [List.any_eq_false]
      intro y hy
      obtain ⟨z, t, hkey⟩ := hk y (Array.mem_toList_iff.mp hy)
      simp [DictEntry.refKey, hkey]
    have a' : ¬ es.toList.any (·.refKey) = true := by rw [a]; exact Bool.false_ne_true
    rw [if_neg a']
    exact congrArg some e
theorem ObjM.look {h : Heap} {x dx C : Addr} {mA : Str → Option Value} (I : ObjM h x dx C mA) : ∃ od, PySem.W.InstAt h x (PySem.W.instObj C dx) C (some od) ∧ ∀ name, PySem.W.lookIn name od = some (mA name) :=
  let ⟨od, ho, hl⟩ := lookIn_ns I.ns
  ⟨od, ⟨I.obj, rfl, rfl, ho⟩, hl⟩
section
variable {prog : Program} {w : World} {A : Around} {E : Value → Shared → Prop} {s : Shared} {K : PySem.W.Frag} {x dx C f : Addr} {mA : Str → Option Value} {name : Str} {v : Value}
end
section
variable {P : Program} {w : World} {H H' : Hp} {h h' : Heap} {a C dx : Addr} {fs fs' : List (Str × V)}
theorem ins_get (hok : HOk P w H h) (e : H a = some (.ins C dx fs)) : ∃ mA, ObjM h a dx C mA ∧ (∀ f, RelO (fs.lookup f) (mA f)) ∧ PySem.Within mA (fs.map (·.1)) ∧ fs.length ≤ 1000 ∧ H dx = some (.own a) := by
  obtain ⟨d, z, ne, ob, mA, n, r, q⟩ := (show ObjOk P w H h a (.ins C dx fs) from hok a _ e)
  exact ⟨mA, ⟨ob, n, ne⟩, r, q, z, d⟩
end
structure Cls (K : PySem.W.Frag) (C : Addr) : Prop where
  pg : PySem.W.plainGet K C Str.empty = true
  hd : PySem.W.hasDictIn K C = true
  po : PySem.W.plainOver K C = true
  sa : PySem.W.findIn K (.ref C) "__setattr__" = some (some (.builtin "object.__setattr__"))
theorem Cls.get {K : PySem.W.Frag} {C : Addr} (c : Cls K C) (f : Str) : PySem.W.plainGet K C f = true := c.pg
section
variable {X : Cx} {pins : List (Addr × Obj)} {σ : St} {H : Hp} {s : Shared} {a C dx : Addr} {fs : List (Str × V)} {f : Str} {v : V} {A : Around} {E : Value → Shared → Prop}
end
section
variable {X : Cx} {o e value : Expr} {f : Str} {pos pos' tpos : Pos} {ta tv : TE}
end
section
variable {X : Cx} {pins : List (Addr × Obj)} {σ : St} {H : Hp} {s : Shared} {A : Around} {E : Value → Shared → Prop} {Q : Value → Shared → Prop} {c : Value} {b : Bool}
inductive TyOf (K : PySem.W.Frag) (H : Hp) : V → Value → Prop where
  | non : TyOf K H .non (.type "NoneType")
  | bl (x : Bool) : TyOf K H (.bl x) (.type "bool")
  | int (i : Int) : TyOf K H (.int i) (.type "int")
  | str (x : Str) : TyOf K H (.str x) (.type "str")
  | flt (x : UInt64) : TyOf K H (.flt x) (.type "float")
  | lst {a : Addr} {xs : List V} (e : H a = some (.lst xs)) : TyOf K H (.ref a) (.type "list")
  | frz {a : Addr} {o : Obj} {xs : List V} (e : H a = some (.frz o (.lst xs))) : TyOf K H (.ref a) (.type "list")
  | tup {a : Addr} {xs : List V} (e : H a = some (.tup xs)) : TyOf K H (.ref a) (.type "tuple")
  | dK {a : Addr} {kvs : List (Key × V)} (e : H a = some (.dK kvs)) : TyOf K H (.ref a) (.type "dict")
  | dT {a : Addr} {kvs : List (List Key × V)} (e : H a = some (.dT kvs)) : TyOf K H (.ref a) (.type "dict")
  | ins {a C dx : Addr} {fs : List (Str × V)} (e : H a = some (.ins C dx fs)) (cl : Cls K C) (ha : PySem.W.findIn K (.ref C) "__class__" = some (some (.builtin "object.__class__")))
      (hn : PySem.W.specialIn K (.builtin "object.__class__") "__get__" = some (some (.builtin "getset_descriptor.__get__"))) (htk : PySem.W.takesIn K (.builtin "object.__class__") = some true)
      (hm : PySem.W.mroIn K C (.type "object") = some true) : TyOf K H (.ref a) (.ref C)
theorem isinst_ok {x : V} {u t : Value} (I : Inv X pins σ H s) (rx : RelV x u) (ty : TyOf X.K H x t) (e : PySem.W.kitOne X.K t c = some b) (h : ∀ tk, Q (.bool b) { s with toks := tk }) :
    wpAny (model X.prog X.w) A (call (.builtin "isinstance") [u, c]) Q E s := by
  cases ty with
  | non => cases (show u = Value.none from rx); exact PySem.W.kia_one PySem.W.kitx_none I.kIn True.intro e (fun z => nomatch z) h
  | bl y => cases (show u = Value.bool y from rx); exact PySem.W.kia_one PySem.W.kitx_bool I.kIn True.intro e (fun z => nomatch z) h
  | int i => obtain ⟨t, q⟩ := (show ∃ t, u = Value.int i t from rx); cases q; exact PySem.W.kia_one PySem.W.kitx_int I.kIn True.intro e (fun z => nomatch z) h
  | str y => obtain ⟨t, q⟩ := (show ∃ t, u = Value.str y t from rx); cases q; exact PySem.W.kia_one PySem.W.kitx_str I.kIn True.intro e (fun z => nomatch z) h
  | flt y => obtain ⟨t, q⟩ := (show ∃ t, u = Value.float y t from rx); cases q; exact PySem.W.kia_one PySem.W.kitx_float I.kIn True.intro e (fun z => nomatch z) h
  | @lst a xs ea =>
    cases (show u = Value.ref a from rx)
    obtain ⟨_, _, n, _, h1⟩ := (show ObjOk X.prog X.w H s.heap a (.lst xs) from I.hok a _ ea)
    exact PySem.W.kia_one PySem.W.kitx_list I.kIn ⟨_, h1, rfl⟩ e (fun z => nomatch z) h
  | @frz a ob xs ea =>
    cases (show u = Value.ref a from rx)
    obtain ⟨_, _, _, n, _, h1⟩ := (show ObjOk X.prog X.w H s.heap a (.frz ob (.lst xs)) from I.hok a _ ea)
    exact PySem.W.kia_one PySem.W.kitx_list I.kIn ⟨_, h1, rfl⟩ e (fun z => nomatch z) h
  | @tup a xs ea =>
    cases (show u = Value.ref a from rx)
    obtain ⟨_, _, _, p⟩ := (show ObjOk X.prog X.w H s.heap a (.tup xs) from I.hok a _ ea)
    obtain ⟨o, h1, h2, _⟩ := p
    exact PySem.W.kia_one PySem.W.kitx_tuple I.kIn ⟨o, h1, h2⟩ e (fun z => nomatch z) h
  | @dK a kvs ea =>
    cases (show u = Value.ref a from rx)
    obtain ⟨_, _, vs, _, p⟩ := (show ObjOk X.prog X.w H s.heap a (.dK kvs) from I.hok a _ ea)
    obtain ⟨o, es, ep, h1, h2, _⟩ := p
    exact PySem.W.kia_one PySem.W.kitx_dict I.kIn ⟨o, h1, h2.1⟩ e (fun z => nomatch z) h
  | @dT a kvs ea =>
    cases (show u = Value.ref a from rx)
    obtain ⟨_, _, xs, _, o, es, ep, h1, h2, _⟩ := (show ObjOk X.prog X.w H s.heap a (.dT kvs) from I.hok a _ ea)
    exact PySem.W.kia_one PySem.W.kitx_dict I.kIn ⟨o, h1, h2.1⟩ e (fun z => nomatch z) h
  | @ins a C dx fs ea cl ha hn htk hm =>
    cases (show u = Value.ref a from rx)
    obtain ⟨mA, O, _⟩ := ins_get I.hok ea
    obtain ⟨od, J, _⟩ := O.look
    exact PySem.W.kia_one (PySem.W.kitx_own (cl.get _) cl.hd ha hn htk hm) I.kIn J e (fun z => nomatch z) h
end
end L2
namespace L2
open PySem PySem.Spec PyProof.Rows
structure Room (k : Nat) (A : Around) : Prop where
  hd : A.handled = none
  dp : A.depth + 3 * k + 5 < recursionLimit
  un : A.units + 16 * k + 200 < cLine
theorem Room.mono {j k : Nat} {A : Around} (r : Room k A) (h : j ≤ k) : Room j A := ⟨r.hd, by have := r.dp; omega, by have := r.un; omega⟩
theorem Room.deeper {k : Nat} {A : Around} (r : Room (k + 1) A) (env : Env) : Room k (A.deeper env) :=
  ⟨r.hd, by have := r.dp; show A.depth + 1 + 3 * k + 5 < _; omega, by have := r.un; show A.units + 3 + 16 * k + 200 < _; omega⟩
theorem Room.depth {k : Nat} {A : Around} (r : Room k A) : A.depth < recursionLimit := by have := r.dp; omega
theorem Room.units {k : Nat} {A : Around} (r : Room k A) : A.units + 64 < cLine := by have := r.un; omega
def tNil : TA := fun _ H Q => Q [] H
def tCons (ta : TE) (tr : TA) : TA := fun σ H Q => ta σ H fun x H1 => tr σ H1 fun xs H2 => Q (x :: xs) H2
section
variable {X : Cx} {e : Expr} {es : List Expr} {te : TE} {t : TA} {pos : Pos}
theorem pa_nil : PA X [] tNil := fun _ _ _ _ H Q I h => Calls.spliced_nil ⟨[], H, I, .nil, h⟩
theorem pa_cons (ha : PE X e te) (hr : PA X es t) (hs : starEach (e :: es) X.env = (false, eval e X.env) :: starEach es X.env := by rfl) : PA X (e :: es) (tCons te t) := by
  intro pos pins s σ H Q I h
  rw [hs]
  show wpAny _ _ (spliced ((false, eval e X.env) :: backTo pos (starEach es X.env))) _ _ s
  refine Calls.spliced_cons (thn (ha pins s σ H _ I h) fun u s1 ⟨x, H1, I1, r1, q1⟩ => ?_)
  exact thn (hr pos pins s1 σ H1 _ I1 q1) fun us s2 ⟨xs, H2, I2, r2, q2⟩ => ⟨x :: xs, H2, I2, .cons r1 r2, q2⟩
def tLst (t : TA) : TE := fun σ H Q => t σ H fun xs H1 => xs.length ≤ sizeLine ∧ ∀ p, H1 p = none → Q (.ref p) (upd H1 p (.lst xs))
theorem pe_lst (h : PA X es t) : PE X (.List es pos) (tLst t) := by
  intro pins s σ H Q I hq
  refine wpAny_List_spliced (thn (h pos pins s σ H _ I hq) fun us s1 ⟨xs, H1, I1, r, z, q⟩ => ⟨by rw [← r.length]; exact z, ?_⟩)
  have hf : H1 s1.heap.objs.size = none := I1.hok.fresh (Nat.le_refl _)
  refine ⟨.ref s1.heap.objs.size, upd H1 s1.heap.objs.size (.lst xs), I1.laid (t' := s1.toks) (fun b u e => Heap.get?_push_of_some _ e) (Nat.le_refl _) ?_, rfl, q _ hf⟩
  exact ⟨z, us, 0, r, Heap.get?_push_size _ rfl⟩
end
abbrev Sp := List V → Hp → VK → XK → Prop
abbrev CXT := List Env → Hp → Shared → XK → Value → Shared → Prop
structure Env0 (P : Program) (w : World) (K : PySem.W.Frag) (mg : Str → Option Value) (base : Heap) (A : Around) (outer : List Env) (s : Shared) (H : Hp) : Prop where
  frames : A.frames = some outer
  mod : Mod K mg base
  bs : ∀ b o, base.get? b = some o → s.heap.get? b = some o ∧ H b = none
  bsz : base.objs.size ≤ s.heap.objs.size
  funs : s.heap.FunFrames base outer
  frf : ∀ b ∈ frs outer, H b = none
  hok : HOk P w H s.heap
  bare : AllBare s.gens
def CE (outer : List Env) (P : Program) (w : World) (H : Hp) (s : Shared) (Q : VK) (u : Value) (s' : Shared) : Prop :=
  ∃ v H', s'.os = s.os ∧ AllBare s'.gens ∧ Un (frs outer) [] H H' s.heap s'.heap ∧ HOk P w H' s'.heap ∧ RelV v u ∧ Q v H'
def CR (CX : CXT) (outer : List Env) (P : Program) (w : World) (H : Hp) (s : Shared) (Q : VK) (E : XK) (r : Result) (s' : Shared) : Prop :=
  match r with
  | .ok (.ret u) => CE outer P w H s Q u s'
  | .ok _ => False
  | .error e => CX outer H s E e s'
structure FnOk (P : Program) (w : World) (K : PySem.W.Frag) (mg : Str → Option Value) (base : Heap) (CX : CXT) (k : Nat) (f : Addr) (fd : FuncData) (ps : List Str) (sp : Sp) : Prop where
  len : ∀ vs H Q E, sp vs H Q E → vs.length = ps.length
  run : ∀ (A : Around) (outer : List Env) (s : Shared) (H : Hp) (args : Args) (us : List Value) (vs : List V) (Q : VK) (E : XK), Room k A → Env0 P w K mg base A outer s H → BindsTo s fd args (ps.zip us) → Vals vs us → sp vs H Q E →
    codeAny (model P w) A (.call (.ref f) args) (CR CX outer P w H s Q E) s
section
variable {X : Cx} {pins : List (Addr × Obj)} {σ : St} {H : Hp} {s s' : Shared}
theorem Inv.env0 (I : Inv X pins σ H s) : Env0 X.prog X.w X.K X.mg X.base X.A X.stack s H :=
  ⟨I.ok.frames, I.ok.mod, I.bs, Nat.le_trans I.ok.bsz I.sz, I.stack, I.stkFree, I.hok, I.bare⟩
theorem Inv.after {Q : VK} {u : Value} (I : Inv X pins σ H s) (h : CE X.stack X.prog X.w H s Q u s') : EP X pins σ Q u s' := by
  obtain ⟨v, H', os, bare, un, hok, r, q⟩ := h
  obtain ⟨hh, g, d, t, os'⟩ := s'
  obtain rfl : os' = s.os := os
  exact ⟨v, H', I.call (h' := hh) (g' := g) (d' := d) (t' := t) (ch := []) un hok bare (fun b z => absurd z (by simp)), r, q⟩
end
def tCall (sp : Sp) (dvs : List V) (E : XK) (t : TA) : TE := fun σ H Q => t σ H fun vs H1 => sp (vs ++ dvs) H1 Q E
def Binds (K : PySem.W.Frag) (fd : FuncData) (ps : List Str) (ds : List Value) : Prop :=
  ∀ (s : Shared) (us : List Value), K.In s.heap → (us ++ ds).length = ps.length → BindsTo s fd ⟨us, []⟩ (ps.zip (us ++ ds))
theorem Binds.all {K : PySem.W.Frag} {fd : FuncData} {ps : List Str} (h : ∀ us : List Value, us.length = ps.length → bindArgs fd ⟨us, []⟩ = pure (ps.zip us)) : Binds K fd ps [] := fun s us _ hl => by
  rw [List.append_nil] at hl ⊢
  exact .of_eq (h us hl)
def Passes (CX : CXT) (X : Cx) (E : XK) : Prop := ∀ (pins : List (Addr × Obj)) (σ : St) (H : Hp) (s : Shared) (e : Value) (s' : Shared), Inv X pins σ H s → CX X.stack H s E e s' → X.xe e s'
section
variable {X : Cx} {CX : CXT} {k : Nat} {f C : Addr} {fd : FuncData} {ps : List Str} {sp : Sp} {dvs : List V} {ds : List Value} {E : XK} {x m : Str} {p pos apos : Pos} {e o : Expr} {es : List Expr} {ta : TE} {t : TA}
theorem run_fn {pins : List (Addr × Obj)} {σ : St} {H : Hp} {s : Shared} {Q : VK} {us : List Value} {vs : List V} (F : FnOk X.prog X.w X.K X.mg X.base CX k f fd ps sp) (hr : Room k X.A) (hb : Binds X.K fd ps ds) (hd : Vals dvs ds) (hx : Passes CX X E)
    (I : Inv X pins σ H s) (r : Vals vs us) (h : sp (vs ++ dvs) H Q E) : wpAny (model X.prog X.w) X.A (call (.ref f) us) (EP X pins σ Q) X.xe s := by
  have r2 : Vals (vs ++ dvs) (us ++ ds) := r.append hd
  have hl : (us ++ ds).length = ps.length := by rw [← r2.length]; exact F.len _ _ _ _ h
  refine wpAny_call (codeAny_mono (F.run X.A X.stack s H ⟨us, []⟩ (us ++ ds) (vs ++ dvs) Q E hr I.env0 (hb s us I.kIn hl) r2 h) fun r s' hq => ?_)
  cases r with
  | error e => exact hx pins σ H s e s' I hq
  | ok fl =>
    cases fl with
    | ret u => exact I.after hq
    | next => exact False.elim hq
    | brk => exact False.elim hq
    | cont => exact False.elim hq
theorem pe_call (F : FnOk X.prog X.w X.K X.mg X.base CX k f fd ps sp) (hr : Room k X.A) (hg : Gl X x) (hm : X.mg x = some (.ref f)) (hk : PySem.W.keepIn X.K (.ref f) = true) (hb : Binds X.K fd ps ds) (hd : Vals dvs ds) (hx : Passes CX X E)
    (ha : PA X (e :: es) t) (hdb : (x == ("__debug__" : Str)) = false := by decide) (he : starEach (e :: es) X.env = (false, eval e X.env) :: starEach es X.env := by rfl) (hpl : (backTo pos (starEach es X.env)).any (·.1) = false := by rfl) :
    PE X (.Call (.Name x p) (e :: es) [] pos) (tCall sp dvs E t) := by
  intro pins s σ H Q I h
  refine wpAny_Call_Name_kw (ld_glob I hg hm ?_ hdb)
  refine PySem.W.callWith_K (h₀ := X.base) I.ok.mod.kin hk (thn (ha pos pins s σ H _ I h) fun us s1 ⟨vs, H1, I1, r, q⟩ => ⟨I1.kIn, ?_⟩) he hpl
  exact run_fn F hr hb hd hx I1 r q
end
section
variable {X : Cx} {CX : CXT} {k : Nat} {f C : Addr} {fd : FuncData} {ps ks : List Str} {sp : Sp} {E : XK} {x m : Str} {p pos apos kpos : Pos} {e o : Expr} {es : List Expr} {kws : List Keyword} {te ta : TE} {t tk : TA} {nm : Option Str}
variable {g : List Value → List Value → List Value} {gV : List V → List V → List V}
end
structure FnScope (N P : List Str) (sc : Scope) : Prop where
  kind : sc.kind = .function
  co : sc.isCoroutine = false
  gen : sc.isGenerator = false
  nd : N.Nodup
  pre : N.take P.length = P
  par : ∀ x ∈ P, sc.names.lookup x = some .local ∨ sc.names.lookup x = some .cell
  nofree : ∀ y ∈ sc.names, y.2 ≠ .free
theorem bindL_out {kindOf : Str → Option NameKind} {x : Str} : ∀ {binds : List (Str × Value)} {m : Str → Option Value}, (∀ v, (x, v) ∉ binds) → bindL kindOf binds m x = m x
  | [], _, _ => rfl
  | (n, v) :: r, m, h => by
    unfold bindL
    rw [bindL_out fun w hw => h w (List.mem_cons_of_mem _ hw)]
    split
    · have : x ≠ n := by rintro rfl; exact h v List.mem_cons_self
      simp [this]
    · rfl
theorem bindC_out {kindOf : Str → Option NameKind} {x : Str} : ∀ {binds : List (Str × Value)} {m : Str → Option Value}, (∀ v, (x, v) ∉ binds) → bindC kindOf binds m x = m x
  | [], _, _ => rfl
  | (n, v) :: r, m, h => by
    unfold bindC
    rw [bindC_out fun w hw => h w (List.mem_cons_of_mem _ hw)]
    split
    · rfl
    · have : x ≠ n := by rintro rfl; exact h v List.mem_cons_self
      simp [this]
theorem bindL_get {kindOf : Str → Option NameKind} {x : Str} {v : Value} : ∀ {P : List Str} {vs : List Value} {i : Nat} {m : Str → Option Value}, P.Nodup → P[i]? = some x → vs[i]? = some v → kindOf x = some .local →
    bindL kindOf (P.zip vs) m x = some v
  | [], _, _, _, _, h, _, _ => by simp at h
  | _ :: _, [], _, _, _, _, h, _ => by simp at h
  | p :: P, w :: vs, 0, m, nd, h1, h2, hk => by
    simp at h1 h2; subst h1; subst h2
    show bindL kindOf ((p, w) :: P.zip vs) m p = _
    unfold bindL
    rw [bindL_out fun v hv => (List.nodup_cons.mp nd).1 (List.of_mem_zip hv).1, if_pos hk]
    simp
  | p :: P, w :: vs, i + 1, m, nd, h1, h2, hk => by
    show bindL kindOf ((p, w) :: P.zip vs) m x = _
    unfold bindL
    exact bindL_get (i := i) (List.nodup_cons.mp nd).2 (by simpa using h1) (by simpa using h2) hk
theorem bindC_get {kindOf : Str → Option NameKind} {x : Str} {v : Value} : ∀ {P : List Str} {vs : List Value} {i : Nat} {m : Str → Option Value}, P.Nodup → P[i]? = some x → vs[i]? = some v → kindOf x ≠ some .local →
    bindC kindOf (P.zip vs) m x = some v
  | [], _, _, _, _, h, _, _ => by simp at h
  | _ :: _, [], _, _, _, _, h, _ => by simp at h
  | p :: P, w :: vs, 0, m, nd, h1, h2, hk => by
    simp at h1 h2; subst h1; subst h2
    show bindC kindOf ((p, w) :: P.zip vs) m p = _
    unfold bindC
    rw [bindC_out fun v hv => (List.nodup_cons.mp nd).1 (List.of_mem_zip hv).1, if_neg hk]
    simp
  | p :: P, w :: vs, i + 1, m, nd, h1, h2, hk => by
    show bindC kindOf ((p, w) :: P.zip vs) m x = _
    unfold bindC
    exact bindC_get (i := i) (List.nodup_cons.mp nd).2 (by simpa using h1) (by simpa using h2) hk
def start (N : List Str) (vs : List V) : St := vs.map some ++ List.replicate (N.length - vs.length) none
def cxOf (CX : CXT) (P : Program) (w : World) (K : PySem.W.Frag) (mg : Str → Option Value) (base : Heap) (N : List Str) (qual : Str) (scope : Scope) (f : Addr) (cd : Value) (A : Around) (outer : List Env) (s : Shared) (H : Hp) (E : XK) : Cx where
  prog := P
  w := w
  K := K
  mg := mg
  base := base
  A := A.deeper (envOfC qual scope s.heap.objs.size f cd)
  N := N
  s₀ := s
  H₀ := H
  env := envOfC qual scope s.heap.objs.size f cd
  outer := outer
  stack := envOfC qual scope s.heap.objs.size f cd :: outer
  ex := []
  calm := true
  fn := fun _ => true
  pn := []
  xe := fun e s' => wpAny (model P w) (A.deeper (envOfC qual scope s.heap.objs.size f cd)) (leaving (envOfC qual scope s.heap.objs.size f cd) e) (fun _ s'' => CX outer H s E e s'') (fun e' s'' => CX outer H s E e' s'') s'
theorem cell_has {sc : Scope} {n : Nat} {x : Str} (h : sc.names.lookup x = some .cell) : ∃ c, (cellsFrom n sc.names []).lookup x = some c := by
  have q := PySem.W.cellsFrom_some sc.names n [] (.inl h)
  exact Option.isSome_iff_exists.mp q
theorem inv_start {CX : CXT} {P : Program} {w : World} {K : PySem.W.Frag} {mg : Str → Option Value} {base : Heap} {N ps : List Str} {qual : Str} {scope : Scope} {f : Addr} {cd : Value} {A : Around} {outer : List Env} {s s1 : Shared} {H : Hp} {E : XK} {us : List Value} {vs : List V}
    (S : FnScope N ps scope) (hd : A.handled = none) (e0 : Env0 P w K mg base A outer s H) (hl : vs.length = ps.length) (r : Vals vs us)
    (x : InCallC s s.heap.objs.size (bindL (envOfC qual scope s.heap.objs.size f cd).kindOf (ps.zip us) fun _ => none) (cellsFrom (s.heap.objs.size + 1) scope.names []) (bindC (envOfC qual scope s.heap.objs.size f cd).kindOf (ps.zip us) fun _ => none) s1) :
    Inv (cxOf CX P w K mg base N qual scope f cd A outer s H E) [] (start N vs) H s1 := by
  have hpl : ps.length ≤ N.length := by have := congrArg List.length S.pre; rw [List.length_take] at this; omega
  obtain ⟨h1, tk, rfl, hk⟩ := x.done
  have noA : ∀ b : Addr, b ∉ (cxOf CX P w K mg base N qual scope f cd A outer s H E).ex := fun b z => absurd (show b ∈ ([] : List Addr) from z) (by simp)
  refine ⟨⟨e0.mod, S.kind, rfl, rfl, Nat.le_refl _, fun y z c h1 h2 => ?_, fun y hy => ?_, fun y c _ h => ?_, fun _ => hd, Around.frames_deeper e0.frames, .inr ⟨rfl, rfl⟩, fun b z => absurd z (noA b), e0.bs, e0.bsz, fun b _ _ => noA b, fun b z => absurd z (noA b), e0.funs, e0.frf⟩,
    rfl, e0.bare, Un.kept hk, ⟨_, x.toInCall.ns, fun i y v h1 h2 h3 => ?_⟩, fun y c h => ⟨_, x.cell y c h⟩, e0.hok.fresh (Nat.le_refl _), fun y c h => ?_, fun p hp => absurd (show p ∈ ([] : List (Addr × Obj)) from hp) (by simp), e0.hok.kept hk, ?_⟩
  · exact name_of_addr x.apart (PySem.mem_of_lookup h1) (PySem.mem_of_lookup h2)
  · have hy : scope.names.lookup y = some .cell ∨ scope.names.lookup y = some .free := hy
    rcases hy with hy | hy
    · exact cell_has hy
    · exact absurd rfl (S.nofree _ (PySem.mem_of_lookup hy))
  · exact Nat.le_of_lt (x.above y c (PySem.mem_of_lookup h))
  · have hi : i < vs.length := by
      unfold start at h2
      by_cases hi : i < vs.length
      · exact hi
      · rw [List.getElem?_append_right (by simpa using hi)] at h2
        rw [List.getElem?_replicate] at h2
        split at h2 <;> cases h2
    have ha : vs[i]? = some v := by
      unfold start at h2
      rw [List.getElem?_append_left (by simpa using hi), List.getElem?_map] at h2
      cases e : vs[i]? with
      | none => rw [e] at h2; cases h2
      | some a => rw [e] at h2; cases h2; rfl
    obtain ⟨u, hu, rv⟩ := r.get ha
    have hp : ps[i]? = some y := by
      rw [← S.pre, List.getElem?_take_of_lt (by omega)]; exact h1
    have ndP : ps.Nodup := by rw [← S.pre]; exact S.nd.sublist (List.take_sublist _ _)
    refine ⟨u, rv, ?_⟩
    rcases S.par y (List.mem_of_getElem? hp) with k | k
    · exact .inl ⟨k, bindL_get ndP hp hu k⟩
    · obtain ⟨c, e⟩ := cell_has (n := s.heap.objs.size + 1) k
      refine .inr ⟨.inl k, c, e, ?_⟩
      have q := x.cell y c e
      rw [bindC_get ndP hp hu (by show scope.names.lookup y ≠ _; rw [k]; decide)] at q
      exact q
  · exact e0.hok.fresh (Nat.le_of_lt (x.above y c (PySem.mem_of_lookup h)))
  · unfold start
    show _ = N.length
    rw [List.length_append, List.length_map, List.length_replicate]
    omega
theorem fn_of {CX : CXT} {P : Program} {w : World} {K : PySem.W.Frag} {mg : Str → Option Value} {base : Heap} {k : Nat} {f : Addr} {name qual : Str} {params : Arguments} {body : List Stmt} {scope : Scope} {dV kV doc pm cdv ct oc : Value} {an od : Option Addr}
    {osl : Array (Option Value)} {N ps : List Str} {sp : Sp} (lk : K.lookup f = some ⟨oc, od, .func (PySem.W.fnOf name qual params body scope dV kV doc pm an cdv ct), osl⟩) (hcd : PySem.W.codeIn K cdv qual = true) (S : FnScope N ps scope)
    (len : ∀ vs H Q E, sp vs H Q E → vs.length = ps.length)
    (hbody : ∀ (A : Around) (outer : List Env) (s : Shared) (H : Hp) (vs : List V) (Q : VK) (E : XK), Room k (A.deeper (envOfC qual scope s.heap.objs.size f cdv)) → sp vs H Q E →
      ∃ t, PSs (cxOf CX P w K mg base N qual scope f cdv A outer s H E) body t ∧ t { nx := fun _ H' => Q .non H', rt := Q } (start N vs) H) :
    FnOk P w K mg base CX (k + 1) f (PySem.W.fnOf name qual params body scope dV kV doc pm an cdv ct) ps sp := by
  refine ⟨len, fun A outer s H args us vs Q E hr e0 hb r hsp => ?_⟩
  have hl := len _ _ _ _ hsp
  have KX : K.In s.heap := e0.mod.kin.keeps fun b o e => (e0.bs b o e).1
  have lim : s.heap.NoLimit := e0.mod.nolimit.keeps fun b o e => (e0.bs b o e).1
  have hkind : ∀ y ∈ ps.zip us, scope.names.lookup y.1 = some .local ∨ (scope.names.lookup y.1 = some .cell ∧ ((cellsFrom (s.heap.objs.size + 1) scope.names []).lookup y.1).isSome = true) := fun ⟨n, v⟩ hy => by
    rcases S.par n (List.of_mem_zip hy).1 with q | q
    · exact .inl q
    · exact .inr ⟨q, PySem.W.cellsFrom_some _ _ _ (.inl q)⟩
  refine codeAny_call_function hr.depth (KX _ _ lk) rfl S.co S.gen rfl (PySem.W.codeRec_of KX hcd) (hb _ _ _ _ ?_)
  refine wpAny_newFunctionEnv_cells S.kind hkind fun env he s1 x => ?_
  subst he
  refine ⟨lim.keeps x.toInCall.keep, codeAny_func ?_⟩
  obtain ⟨t, ht, hq⟩ := hbody A outer s H vs Q E (hr.deeper _) hsp
  have I : Inv (cxOf CX P w K mg base N qual scope f cdv A outer s H E) [] (start N vs) H s1 := inv_start S hr.hd e0 hl r x
  refine wpAny_mono (ht [] s1 (start N vs) H _ I hq) (fun fl s' hs => ?_) fun e s' hs => hs
  have fin : ∀ {σ' : St} {H' : Hp} {v : V} {u : Value}, Inv (cxOf CX P w K mg base N qual scope f cdv A outer s H E) [] σ' H' s' → RelV v u → Q v H' → CE outer P w H s Q u s' :=
    fun {σ' H' v u} J rv q => ⟨v, H', J.os, J.bare, J.base, J.hok, rv, q⟩
  cases fl with
  | ret u =>
    obtain ⟨v, σ', H', J, rv, q⟩ := hs
    exact fin J rv q
  | next =>
    obtain ⟨σ', H', J, q⟩ := hs
    exact fin (v := V.non) (u := Value.none) J rfl q
  | brk =>
    obtain ⟨_, _, _, q⟩ := hs
    exact False.elim q
  | cont =>
    obtain ⟨_, _, _, q⟩ := hs
    exact False.elim q
end L2
namespace L2
open PySem PySem.Spec PyProof.Rows
section
variable {X : Cx} {x : Str} {p pos : Pos} {e : Expr} {es : List Expr} {t : TA} {id T : String} {r : List V → Hp → VK → Prop}
def tCB (r : List V → Hp → VK → Prop) (t : TA) : TE := fun σ H Q => t σ H fun vs H1 => r vs H1 Q
theorem pe_callB (hc : CallR X (.builtin id) r) (hg : Gl X x) (hm : X.mg x = none) (hv : bootBuiltins x = some (.builtin id)) (ha : PA X (e :: es) t) (hn : x ≠ "__name__" := by decide) (hdb : (x == ("__debug__" : Str)) = false := by decide)
    (he : starEach (e :: es) X.env = (false, eval e X.env) :: starEach es X.env := by rfl) (hpl : (backTo pos (starEach es X.env)).any (·.1) = false := by rfl) : PE X (.Call (.Name x p) (e :: es) [] pos) (tCB r t) := by
  intro pins s σ H Q I h
  refine wpAny_Call_Name_kw (ld_blt I hg hm hv ?_ hn hdb)
  exact PyProof.Rows.callWith_builtin1 (thn (ha pos pins s σ H _ I h) fun us s1 ⟨vs, H1, I1, r1, q1⟩ => hc pins s1 σ H1 vs us Q I1 r1 q1) he hpl
theorem pe_callTy (hc : CallR X (.type T) r) (hg : Gl X x) (hm : X.mg x = none) (hv : bootBuiltins x = some (.type T)) (ha : PA X (e :: es) t) (hn : x ≠ "__name__" := by decide) (hdb : (x == ("__debug__" : Str)) = false := by decide)
    (he : starEach (e :: es) X.env = (false, eval e X.env) :: starEach es X.env := by rfl) (hpl : (backTo pos (starEach es X.env)).any (·.1) = false := by rfl) : PE X (.Call (.Name x p) (e :: es) [] pos) (tCB r t) := by
  intro pins s σ H Q I h
  refine wpAny_Call_Name_kw (ld_blt I hg hm hv ?_ hn hdb)
  exact PyProof.Rows.callWith_type1 (thn (ha pos pins s σ H _ I h) fun us s1 ⟨vs, H1, I1, r1, q1⟩ => hc pins s1 σ H1 vs us Q I1 r1 q1) he hpl
end
end L2
namespace HT
open PySem PyProof.Rows
section
open PySem.SeqAt
open PySem.AutoSeq1 (wpAny_loadPart')
open PySem.MeetsSeq PySem.MeetsSeq2 PySem.MeetsSeq3
end
section
variable {prog : Program} {w : World} {A : Around} {E : Value → Shared → Prop} {s : Shared}
end
end HT
namespace L2
open PySem PySem.Spec PyProof.Rows
theorem intsAre_of {ns : List Int} : ∀ {us : List Value}, Vals (ns.map V.int) us → IntsAre us ns := by
  induction ns with
  | nil => intro us r; rw [List.map_nil] at r; cases r; exact .nil
  | cons n ns ih =>
    intro us r
    rw [List.map_cons] at r
    cases r with
    | cons r1 r2 =>
      obtain ⟨t, e⟩ := r1
      subst e
      exact .cons n t (ih r2)
section
variable {X : Cx} {e : Expr} {te : TE} {lo hi : Option Expr} {tl th : TO} {pos p2 : Pos}
end
end L2
namespace L2
open PySem PySem.Spec PyProof.Rows
def ixN (n : Nat) (i : Int) : Option Nat := if 0 ≤ i then (if i < n then some i.toNat else none) else if -(n : Int) ≤ i then some (i + n).toNat else none
def atI {α : Type} (xs : List α) (i : Int) : Option α := (ixN xs.length i).bind fun j => xs[j]?
theorem ixN_seq {n : Nat} {i : Int} {j : Nat} (h : ixN n i = some j) : seqIndex? i n = some j ∧ j < n ∧ -(n : Int) ≤ i ∧ i < n := by
  unfold ixN at h
  by_cases h0 : 0 ≤ i
  · rw [if_pos h0] at h
    by_cases h1 : i < n
    · rw [if_pos h1] at h
      have e : i.toNat = j := Option.some.inj h
      exact ⟨by rw [seqIndex_of h0 h1, e], by omega, by omega, h1⟩
    · rw [if_neg h1] at h; cases h
  · rw [if_neg h0] at h
    by_cases h1 : -(n : Int) ≤ i
    · rw [if_pos h1] at h
      have e : (i + n).toNat = j := Option.some.inj h
      exact ⟨by rw [seqIndex_neg (by omega) h1, e], by omega, h1, by omega⟩
    · rw [if_neg h1] at h; cases h
theorem atI_get {α : Type} {xs : List α} {i : Int} {v : α} (h : atI xs i = some v) : ∃ j, seqIndex? i xs.length = some j ∧ xs[j]? = some v ∧ j < xs.length ∧ -(xs.length : Int) ≤ i ∧ i < xs.length := by
  unfold atI at h
  cases e : ixN xs.length i with
  | none => rw [e] at h; cases h
  | some j =>
    rw [e] at h
    obtain ⟨h1, h2, h3, h4⟩ := ixN_seq e
    exact ⟨j, h1, h, h2, h3, h4⟩
theorem atI_nat {α : Type} {xs : List α} {j : Nat} {v : α} (h : xs[j]? = some v) : atI xs (j : Int) = some v := by
  have hj : j < xs.length := (List.getElem?_eq_some_iff.mp h).1
  have e : ixN xs.length (j : Int) = some j := by
    unfold ixN
    rw [if_pos (by omega), if_pos (by omega)]; simp
  unfold atI; rw [e]; exact h
def PlainIx (b : Expr) : Prop := ∀ o i, subscripted b false o i = operate [o, i] (getItem o i)
def IxR (X : Cx) (r : R2) : Prop :=
  ∀ (value slice : Expr) (pins : List (Addr × Obj)) (s : Shared) (σ : St) (H : Hp) (x y : V) (v u : Value) (Q : VK), Inv X pins σ H s → RelV x v → RelV y u → r x y H Q →
    subscripted slice false v u = operate [v, u] (getItem v u) → wpAny (model X.prog X.w) X.A (subscriptTail value slice v u) (EP X pins σ Q) X.xe s
def MtR (X : Cx) (id : String) (r : V → List V → Hp → VK → Prop) : Prop :=
  ∀ (pins : List (Addr × Obj)) (s : Shared) (σ : St) (H : Hp) (x : V) (xs : List V) (v : Value) (us : List Value) (Q : VK), Inv X pins σ H s → RelV x v → Vals xs us → r x xs H Q →
    wpAny (model X.prog X.w) X.A (call (.builtin id) (v :: us)) (EP X pins σ Q) X.xe s
section
variable {X : Cx} {a b : Expr} {ta tb : TE} {pos : Pos}
theorem pe_ix {r : R2} (hr : IxR X r) (ha : PE X a ta) (hb : PE X b tb) (hs : PlainIx b) : PE X (.Subscript a b pos) (tOp r ta tb) := by
  intro pins s σ H Q I h
  exact Subscript_ (binT ha hb I h fun v u s2 x y H2 I2 rx ry q => hr a b pins s2 σ H2 x y v u Q I2 rx ry q (hs _ _))
def rIxL (K : PySem.W.Frag) : R2 := fun x y H Q => ∃ p xs i v, x = .ref p ∧ y = .int i ∧ SqL K H p xs ∧ atI xs i = some v ∧ Q v H
theorem ix_list : IxR X (rIxL X.K) := by
  intro value slice pins s σ H x y v u Q I rx ry h hs
  obtain ⟨p, xs, i, z, rfl, rfl, hq, he, q⟩ := h
  cases rx
  obtain ⟨t, rfl⟩ := ry
  obtain ⟨its, r, pl, hz⟩ := I.list hq
  obtain ⟨j, h1, h2, h3, h4, h5⟩ := atI_get he
  obtain ⟨w, ew, rw'⟩ := r.get h2
  have hl := r.length
  have hn := line63
  have fin : EP X pins σ Q w s := ⟨z, H, I, rw', q⟩
  by_cases h0 : 0 ≤ i
  · have hj : i.toNat = j := by
      rw [seqIndex_of h0 h5] at h1
      exact Option.some.inj h1
    exact item_listR pl.isList h0 (by omega) (by rw [hj]; simpa using ew) fin hs
  · have hj : (i + (its.toArray.size : Int)).toNat = j := by
      rw [seqIndex_neg (by omega) h4] at h1
      rw [List.size_toArray, ← hl]
      exact Option.some.inj h1
    exact subscriptTail_builtinR (x := w) pl.isList.typeIs slot_list_getitem.lookup
      (wpAny_getItem_list_neg (Q := fun r s' => r = w ∧ EP X pins σ Q r s') pl.isList (by omega) (by rw [List.size_toArray] <;> omega) (by omega) (by rw [hj]; simpa using ew) ⟨rfl, fin⟩) hs
theorem mapSeq_set (its : List Value) (n j : Nat) (u : Value) : Obj.mapSeq (·.setIfInBounds j u) { cls := .type "list", data := .seq its.toArray n } = { cls := .type "list", data := .seq (its.set j u).toArray n } := by
  simp [Obj.mapSeq]
theorem Inv.lst {pins : List (Addr × Obj)} {σ : St} {H : Hp} {s : Shared} {p : Addr} {xs : List V} (I : Inv X pins σ H s) (h : H p = some (.lst xs)) :
    ∃ (its : List Value) (n : Nat), Vals xs its ∧ s.heap.get? p = some { cls := .type "list", data := .seq its.toArray n } ∧ xs.length ≤ sizeLine := by
  obtain ⟨z, its, n, r, e⟩ := I.hok p _ h
  exact ⟨its, n, r, e, z⟩
theorem Inv.lstUpd {pins : List (Addr × Obj)} {σ : St} {H : Hp} {s : Shared} {p : Addr} {xs ys : List V} {its its' : List Value} {n n' : Nat} {f : Obj → Obj} (I : Inv X pins σ H s) (h : H p = some (.lst xs))
    (ho : s.heap.get? p = some { cls := .type "list", data := .seq its.toArray n }) (hf : f { cls := .type "list", data := .seq its.toArray n } = { cls := .type "list", data := .seq its'.toArray n' }) (r : Vals ys its') (hz : ys.length ≤ sizeLine) (t : Nat) :
    Inv X pins σ (upd H p (.lst ys)) { s with heap := s.heap.update p f, toks := t } := by
  have e : (s.heap.update p f).get? p = some { cls := .type "list", data := .seq its'.toArray n' } := by
    rw [Heap.get?_update_self f ho (by rw [hf] <;> rfl), hf]
  refine I.write (x := p) (e := p) (by rw [h]; trivial) (.inl rfl) (fun b u hb q => (Heap.get?_update_other _ _ (Ne.symm hb)).trans q) ⟨_, e⟩ ?_
  exact ⟨hz, its', n', r, e⟩
def rSetL : V → V → V → Hp → (Hp → Prop) → Prop := fun o i v H Q => ∃ p xs k j, o = .ref p ∧ i = .int k ∧ H p = some (.lst xs) ∧ ixN xs.length k = some j ∧ Q (upd H p (.lst (xs.set j v)))
theorem set_list : PSet X rSetL := by
  intro pins s σ H o i v ov iv u Q I ro ri rv h
  obtain ⟨p, xs, k, j, rfl, rfl, hp, hj, q⟩ := h
  cases ro
  obtain ⟨t, rfl⟩ := ri
  obtain ⟨its, n, r, ho, hz⟩ := I.lst hp
  obtain ⟨h1, h2, h3, h4⟩ := ixN_seq hj
  have hl := r.length
  have hn := line63
  have I' : Inv X pins σ (upd H p (.lst (xs.set j v))) { s with heap := s.heap.update p (Obj.mapSeq (·.setIfInBounds j u)) } :=
    I.lstUpd hp ho (mapSeq_set its n j u) (r.set rv j) (by rw [List.length_set]; exact hz) s.toks
  by_cases h0 : 0 ≤ k
  · have hk : k.toNat = j := by
      rw [seqIndex_of h0 h4] at h1
      exact Option.some.inj h1
    exact PySem.W.ki_setAt ho h0 (by omega) (by rw [List.size_toArray, ← hl]; exact h4) (by rw [hk]; exact ⟨_, I', q⟩)
  · have hk : (k + (its.toArray.size : Int)).toNat = j := by
      rw [seqIndex_neg (by omega) h3] at h1
      rw [List.size_toArray, ← hl]
      exact Option.some.inj h1
    exact PySem.W.ki_setBack ho (by omega) (by rw [List.size_toArray, ← hl]; exact h3) (by omega) (by rw [hk]; exact ⟨_, I', q⟩)
theorem call_len_seq : CallR X (.builtin "len") (fun xs H Q => ∃ p ys, xs = [.ref p] ∧ (SqL X.K H p ys ∨ SqT X.K H p ys) ∧ Q (.int ys.length) H) := by
  intro pins s σ H xs us Q I r h
  obtain ⟨p, ys, rfl, hq, q⟩ := h
  obtain ⟨u, rfl, rx⟩ := vals1 r
  cases rx
  have hn := line63
  rcases hq with hq | hq
  · obtain ⟨its, r', pl, hz⟩ := I.list hq
    have hlen := r'.length
    exact Calls.call_len_list pl.isList (by simp only [List.size_toArray] <;> omega) ⟨.int ys.length, H, I.tok _, ⟨s.toks + 1, by rw [List.size_toArray, hlen]⟩, q⟩
  · obtain ⟨its, r', pl, hz⟩ := I.tuple hq
    have hlen := r'.length
    exact len_tuple pl (by simp only [List.size_toArray] <;> omega) ⟨.int ys.length, H, I.tok _, ⟨s.toks + 1, by rw [List.size_toArray, hlen]⟩, q⟩
theorem call_list_of : CallR X (.type "list") (fun xs H Q => ∃ p ys, xs = [.ref p] ∧ (SqL X.K H p ys ∨ SqT X.K H p ys) ∧ ∀ l, H l = none → Q (.ref l) (upd H l (.lst ys))) := by
  intro pins s σ H xs us Q I r h
  obtain ⟨p, ys, rfl, hq, q⟩ := h
  obtain ⟨u, rfl, rx⟩ := vals1 r
  cases rx
  have fin : ∀ (its : List Value), Vals ys its → ys.length ≤ sizeLine → ∀ (h' : Heap) (c' : Nat), (∀ b o', s.heap.get? b = some o' → h'.get? b = some o') →
      h'.get? s.heap.objs.size = some { cls := .type "list", dict := none, data := .seq its.toArray c', slots := #[] } → EP X pins σ Q (.ref s.heap.objs.size) { s with heap := h' } := fun its r' hz h' c' kp e =>
    ⟨.ref s.heap.objs.size, _, I.laid (t' := s.toks) kp (Nat.le_refl _) (show ObjOk X.prog X.w _ h' _ (.lst ys) from ⟨hz, its, c', r', e⟩), rfl, q _ (I.hok.fresh (Nat.le_refl _))⟩
  rcases hq with hq | hq
  · obtain ⟨its, r', pl, hz⟩ := I.list hq
    have hlen := r'.length
    obtain ⟨o, ho, hc, n, hd⟩ := pl.isList
    exact call_list_seq p (.inl rfl) ho hc hd (fun h' c' kp e => fin its r' hz h' c' kp e) (by simp only [List.size_toArray] <;> omega)
  · obtain ⟨its, r', pl, hz⟩ := I.tuple hq
    have hlen := r'.length
    obtain ⟨o, ho, hc, n, hd⟩ := pl
    exact call_list_seq p (.inr rfl) ho hc hd (fun h' c' kp e => fin its r' hz h' c' kp e) (by simp only [List.size_toArray] <;> omega)
theorem call_tuple_of : CallR X (.type "tuple") (fun xs H Q => ∃ p ys, xs = [.ref p] ∧ ((SqL X.K H p ys ∧ ∀ l, H l = none → Q (.ref l) (upd H l (.tup ys))) ∨ (SqT X.K H p ys ∧ Q (.ref p) H))) := by
  intro pins s σ H xs us Q I r h
  obtain ⟨p, ys, rfl, h⟩ := h
  obtain ⟨u, rfl, rx⟩ := vals1 r
  cases rx
  rcases h with ⟨hq, q⟩ | ⟨hq, q⟩
  · obtain ⟨its, r', pl, hz⟩ := I.list hq
    have hlen := r'.length
    refine call_tuple_list pl.isList (fun h' kp => ?_) (by simp only [List.size_toArray] <;> omega)
    have I1 : Inv X pins σ H { s with heap := h' } := I.kept (t' := s.toks) kp
    have I2 : Inv X pins σ (upd H h'.objs.size (.tup ys)) { s with heap := h'.push { cls := .type "tuple", data := .seq its.toArray } } :=
      I1.laid (t' := s.toks) (fun b o e => Heap.get?_push_of_some _ e) (Nat.le_refl _) (show ObjOk X.prog X.w _ _ _ (.tup ys) from ⟨hz, its, r', IsTup.new _ _⟩)
    exact ⟨.ref h'.objs.size, _, I2, rfl, q _ (I1.hok.fresh (Nat.le_refl _))⟩
  · obtain ⟨its, r', pl, hz⟩ := I.tuple hq
    exact call_tuple_same pl ⟨.ref p, H, I, rfl, q⟩
def tyV (K : PySem.W.Frag) (T : String) (x : V) (H : Hp) : Prop := match x with
  | .str _ => T = "str"
  | .int _ => T = "int"
  | .ref p => (T = "list" ∧ ∃ xs, SqL K H p xs) ∨ (T = "tuple" ∧ ∃ o, K.lookup p = some o ∧ o.cls = .type "tuple" ∧ o.dict = none) ∨
      (T = "dict" ∧ ((∃ kvs, H p = some (.dK kvs)) ∨ ∃ kvs, H p = some (.dT kvs))) ∨ (T = "set" ∧ ∃ S n, H p = some (.set S n))
  | _ => False
theorem tyV_is {pins : List (Addr × Obj)} {σ : St} {H : Hp} {s : Shared} {T : String} {x : V} {v : Value} (I : Inv X pins σ H s) (r : RelV x v) (ty : tyV X.K T x H) :
    s.TypeIs v T ∧ ∀ a, v = .ref a → ∃ ob, s.heap.get? a = some ob ∧ ob.dict = none := by
  cases x with
  | str z =>
    obtain ⟨t, rfl⟩ := r
    cases (show T = "str" from ty)
    exact ⟨typeIs_str s z t, fun _ e => nomatch e⟩
  | int i =>
    obtain ⟨t, rfl⟩ := r
    cases (show T = "int" from ty)
    exact ⟨typeIs_int s i t, fun _ e => nomatch e⟩
  | ref p =>
    cases r
    rcases ty with ⟨rfl, xs, hq⟩ | ⟨rfl, o, hk, hc, hd⟩ | ⟨rfl, hk⟩ | ⟨rfl, S, n, hk⟩
    · obtain ⟨its, _, pl, _⟩ := I.list hq
      refine ⟨pl.isList.typeIs, fun a e => ?_⟩
      cases e
      obtain ⟨o, n, e, c, hd, _⟩ := pl
      exact ⟨o, e, hd⟩
    · refine ⟨⟨o, I.kIn p o hk, hc⟩, fun a e => ?_⟩
      cases e
      exact ⟨o, I.kIn _ o hk, hd⟩
    · have z : ∃ o, s.heap.get? p = some o ∧ o.ExactDict := by
        rcases hk with ⟨kvs, hk⟩ | ⟨kvs, hk⟩
        · obtain ⟨_, _, _, _, o, _, _, e, ex, _⟩ := I.hok p _ hk
          exact ⟨o, e, ex⟩
        · obtain ⟨_, _, _, _, o, _, _, e, ex, _⟩ := I.hok p _ hk
          exact ⟨o, e, ex⟩
      obtain ⟨o, e, ex⟩ := z
      refine ⟨⟨o, e, ex.1⟩, fun a e2 => ?_⟩
      cases e2
      exact ⟨o, e, ex.2.1⟩
    · obtain ⟨o, _, _, _, e, ex, _⟩ := I.hok p _ hk
      refine ⟨⟨o, e, ex.1⟩, fun a e2 => ?_⟩
      cases e2
      exact ⟨o, e, ex.2.1⟩
  | _ => exact False.elim ty
def tBM0 (K : PySem.W.Frag) (T : String) (r : V → List V → Hp → VK → Prop) (to : TE) : TE := fun σ H Q => to σ H fun x H1 => tyV K T x H1 ∧ r x [] H1 Q
def tBM (K : PySem.W.Frag) (T : String) (r : V → List V → Hp → VK → Prop) (to : TE) (t : TA) : TE := fun σ H Q => to σ H fun x H1 => tyV K T x H1 ∧ t σ H1 fun xs H2 => r x xs H2 Q
variable {o e : Expr} {es : List Expr} {to : TE} {t : TA} {name : Str} {apos cpos : Pos} {T id : String} {r : V → List V → Hp → VK → Prop}
theorem pe_bm0 (pa : PlainAttrs T) (slot : Slot T name id) (hty : typeOf (.builtin id) = pure (.type "method_descriptor")) (hm : MtR X id r) (ho : PE X o to)
    (hbase : attributeBase o name X.env (eval o X.env) = eval o X.env := by rfl) (hline : (apos.endLine == cpos.line) = true := by rfl) : PE X (.Call (.Attribute o name apos) [] [] cpos) (tBM0 X.K T r to) := by
  intro pins s σ H Q I h
  refine wpAny_Call_method0_late hbase hline (thn (ho pins s σ H _ I h) fun v s1 ⟨x, H1, I1, r1, ty, q1⟩ => ?_)
  obtain ⟨h1, h2⟩ := tyV_is I1 r1 ty
  exact ⟨T, id, pa, slot, hty, h1, h2, Calls.callWith_builtin rfl (PySem.evalArgs_none (hm pins s1 σ H1 x [] v [] Q I1 r1 .nil q1))⟩
theorem pe_bm (pa : PlainAttrs T) (slot : Slot T name id) (hty : typeOf (.builtin id) = pure (.type "method_descriptor")) (hm : MtR X id r) (ho : PE X o to) (ha : PA X (e :: es) t)
    (hbase : attributeBase o name X.env (eval o X.env) = eval o X.env := by rfl)
    (hfew : ((backTo cpos (starEach (e :: es) X.env)).all (fun x => !x.1) && (backToKw cpos (keywordEach [] X.env)).all (fun x => x.1.isSome)
      && decide ((e :: es).length + ([] : List Keyword).length + (if ([] : List Keyword).isEmpty then 0 else 1) < 30)) = true := by rfl)
    (hline : (apos.endLine == cpos.line) = true := by rfl) (hs : starEach (e :: es) X.env = (false, eval e X.env) :: starEach es X.env := by rfl) (hplain : (backTo cpos (starEach es X.env)).any (·.1) = false := by rfl) :
    PE X (.Call (.Attribute o name apos) (e :: es) [] cpos) (tBM X.K T r to t) := by
  intro pins s σ H Q I h
  refine wpAny_Call_method_late hbase hfew hline rfl (thn (ho pins s σ H _ I h) fun v s1 ⟨x, H1, I1, r1, ty, q1⟩ => ?_)
  obtain ⟨h1, h2⟩ := tyV_is I1 r1 ty
  refine ⟨T, id, pa, slot, hty, h1, h2, ?_⟩
  have hA := ha cpos pins s1 σ H1 _ I1 q1
  rw [hs] at hA ⊢
  refine Calls.callWith_builtin (by show (false || (backTo cpos (starEach es X.env)).any (·.1)) = false; rw [hplain] <;> rfl) (Calls.evalArgs_plain ?_)
  exact thn hA fun us s2 ⟨vs, H2, I2, r2, q2⟩ => hm pins s2 σ H2 x vs v us Q I2 r1 r2 q2
end
end L2
namespace L2
open PySem PySem.Spec PyProof.Rows
def MtM (X : Cx) (id : String) (r : V → List V → Hp → VK → Prop) : Prop :=
  ∀ (pins : List (Addr × Obj)) (s : Shared) (σ : St) (H : Hp) (x : V) (xs : List V) (v : Value) (us : List Value) (Q : VK), Inv X pins σ H s → RelV x v → Vals xs us → r x xs H Q →
    wpAny (model X.prog X.w) X.A (call (.builtin id) (v :: us)) (EP X pins σ Q) X.xe s
theorem Vals.one : ∀ {x : V} {us : List Value}, Vals [x] us → ∃ u, us = [u] ∧ RelV x u
  | _, _, .cons r .nil => ⟨_, rfl, r⟩
section
variable {X : Cx} {pins : List (Addr × Obj)} {σ : St} {H : Hp} {s : Shared} {l b : Addr} {xs ys zs : List V}
theorem Inv.lset {its its' : List Value} {n : Nat} {f : Array Value → Array Value} {t' : Nat} (I : Inv X pins σ H s) (hH : H l = some (.lst xs))
    (e : s.heap.get? l = some { cls := .type "list", data := .seq its.toArray n }) (hf : f its.toArray = its'.toArray) (hv : Vals ys its') (hz : ys.length ≤ sizeLine) :
    Inv X pins σ (upd H l (.lst ys)) { s with heap := s.heap.update l (Obj.mapSeq f), toks := t' } := by
  have q := PySem.IsL.update e f
  rw [hf] at q
  refine I.write (x := l) (e := l) (by rw [hH]; exact trivial) (.inl rfl) (fun b' u hb hu => (Heap.get?_update_other s.heap (Obj.mapSeq f) (Ne.symm hb)).trans hu) ⟨_, q⟩ ?_
  exact ⟨hz, its', _, hv, q⟩
theorem Inv.fresh (I : Inv X pins σ H s) : H s.heap.objs.size = none := I.hok.fresh (Nat.le_refl _)
theorem Inv.lstM (I : Inv X pins σ H s) (hH : H l = some (.lst xs)) : xs.length ≤ sizeLine ∧ ∃ (its : List Value) (n : Nat), Vals xs its ∧ xs.length = its.length ∧ s.heap.get? l = some { cls := .type "list", data := .seq its.toArray n } := by
  obtain ⟨z, its, n, r, e⟩ := I.hok l _ hH
  exact ⟨z, its, n, r, r.length, e⟩
end
section
variable {X : Cx}
def rAppend : V → List V → Hp → VK → Prop := fun x vs H Q => ∃ l xs y, x = .ref l ∧ vs = [y] ∧ H l = some (.lst xs) ∧ xs.length < sizeLine ∧ Q .non (upd H l (.lst (xs ++ [y])))
theorem mt_append : MtM X "list.append" rAppend := by
  intro pins s σ H x vs v us Q I rx rv h
  obtain ⟨l, xs, y, rfl, rfl, hH, hz, q⟩ := h
  cases rx
  obtain ⟨u, rfl, ru⟩ := rv.one
  obtain ⟨z, its, n, r, hl, e⟩ := I.lstM hH
  refine call_meets F.slot_list_append ⟨_, e, rfl⟩ F.entry_list_append (F.args_list_append_2 _ _) (PySem.list_append l its.toArray n u (by rw [List.size_toArray]; omega)) ⟨e, ?_⟩
  refine ⟨.non, _, I.lset (its' := its ++ [u]) hH e (by simp) (r.append (.cons ru .nil)) ?_, rfl, q⟩
  rw [List.length_append, List.length_singleton]
  omega
end
section
variable {prog : Program} {w : World} {A : Around} {E : Value → Shared → Prop} {s : Shared}
set_option maxRecDepth 100000 in
end
section
variable {X : Cx}
end
end L2
namespace Att
open PySem PySem.W PySem.Calls PyProof.Rows
theorem ints_of_wellAll {P : Params} {h : Heap} : ∀ (ns : List Int) (vs : List Value), WellAll P h vs (ns.map WData.int) → IntsAre vs ns := by
  intro ns
  induction ns with
  | nil =>
    intro vs w
    rw [List.map_nil] at w
    cases w
    exact .nil
  | cons n ns ih =>
    intro vs w
    rw [List.map_cons] at w
    cases w with
    | cons a b =>
      cases a
      exact .cons _ _ (ih _ b)
theorem script_of {l : OpenLaw} {n : Nat} (hn : l.most = some n) {P : Params} {h : Heap} {args : List WData} {vals : List Value}
    (hpre : l.row.toRowW.claim.pre args = true) (hwl : WellAll P h vals args) :
    ∃ a vs ns, vals = [Value.ref a] ∧ args = [WData.list (ns.map WData.int)] ∧ h.get? a = some { cls := .type "list", data := .seq vs.toArray } ∧ IntsAre vs ns ∧ ns.length ≤ n := by
  have hsh : WShape.hasAll [] args [.list .int] = true := (pre_splitW hpre).1
  have hc : l.pre.holds [] { args := args } = true := (pre_splitW hpre).2
  obtain ⟨d, r, rfl, h1, h2⟩ := hasAllW_cons hsh
  obtain rfl := hasAllW_nil h2
  obtain ⟨xs, rfl, h3⟩ := hasW_list h1
  obtain ⟨ns, rfl⟩ := items_int h3
  have hlen : ns.length ≤ n := by
    unfold OpenLaw.pre at hc
    have h4 : (WTm.not (.lt (.lit (.int (n : Int))) (.len (.arg 0)))).holds [] { args := [.list (ns.map .int)] } = true := by
      have h4 := (holds_andW hc).1
      rw [hn] at h4
      exact h4
    have h5 := condW_of h4 (w_not (w_lt w_lit (w_len_list (w_arg rfl))))
    rw [List.length_map] at h5
    refine Nat.le_of_not_lt fun q => ?_
    have q' : (n : Int) < ((ns.length : Nat) : Int) := by omega
    first
      | (rw [decide_eq_true q'] at h5; exact absurd h5 (by decide))
      | (simp at h5; omega)
  cases hwl with
  | cons w1 w2 =>
    cases w2
    cases w1 with
    | list ho hall => exact ⟨_, _, ns, rfl, rfl, ho, ints_of_wellAll ns _ hall, hlen⟩
theorem post_true (l : OpenLaw) (args : List WData) : l.row.toRowW.claim.post args (.bool true) args = true :=
  postW_of (r := l.row.toRowW) (X := (true == true))
    (show WShape.has [] (.bool true) .bool = true by first | rfl | decide | simp [WShape.has, WShape.arms, WShape.armsAll])
    (show (WTm.eq .res (.lit (.bool true))).value [] { args := args, res := some (.bool true), after := args } = some (.bool (true == true)) from w_eq_bool (w_res rfl) w_lit) rfl
theorem attach_call {l : OpenLaw} {n : Nat} {q : Program} {loose : List Str} {XP : (Str → Option Value) → Heap → Prop} {YP : World → Heap → Prop} {d : DefRec}
    (hn : l.most = some n) (hdf : d.params.defaults = [])
    (call : ∀ (w : World) (s₀ s₁ : Shared) (mg mb : Str → Option Value) (fa : Addr) (o : Obj) (pm cd doc : Value) (a : Addr) (vs : List Value) (ns : List Int),
      Ground q loose [] XP w s₀ mg mb s₁.heap → YP w s₁.heap →
      s₁.heap.get? fa = some o → o.data = .func (docDef d.name d.params d.body d.scope pm cd doc) → s₁.heap.CodeRec cd d.name → mg d.name = some (.ref fa) →
      s₁.heap.get? a = some { cls := .type "list", data := .seq vs.toArray } → IntsAre vs ns → ns.length ≤ n → s₁.gens = #[] →
      codeAny (model l.prog w) callerA (.call (.ref fa) ⟨[.ref a], []⟩) (fun r s' => r = .ok (.ret (.bool true)) ∧ OldK s₁.heap s'.heap ∧ s'.os = s₁.os ∧ AllBare s'.gens) s₁) :
    WalkO q loose XP YP l.row.toRowW d [] (fun f vs => PySem.call f vs) := by
  intro w s₀ s₁ mg mb G Y fa o pm cd doc dV kV ho hd hcd hD hmg hg args vals as hpre hlay hrd hwl hlo
  obtain rfl : dV = .none := Dflts.none hD hdf
  obtain rfl : kV = .none := Dflts.noKw hD
  obtain ⟨a, vs, ns, rfl, rfl, hobj, hints, hlen⟩ := script_of hn hpre hwl
  refine enter_call (codeAny_mono (call w s₀ s₁ mg mb fa o pm cd doc a vs ns G Y ho (fd_plain hd) hcd hmg hobj hints hlen hg) fun r s' hq => ?_)
  obtain ⟨rfl, h2, h3, h4⟩ := hq
  exact ⟨.inl ⟨.bool true, .bool true, [], rfl, fun _ => rfl, .bool true, post_true l _, fun _ => ⟨List.Pairwise.nil, fun _ hm => (nomatch hm)⟩⟩, h2, h3, h4⟩
section
variable {prog : Program} {w : World} {A : Around} {E : Value → Shared → Prop} {s : Shared} {K : Frag}
end
end Att
namespace L2
open PySem PySem.Spec PyProof.Rows
theorem vals_ints : ∀ {vs : List Value} {ns : List Int}, IntsAre vs ns → Vals (ns.map V.int) vs
  | _, _, .nil => .nil
  | _, _, .cons n t h => .cons ⟨t, rfl⟩ (vals_ints h)
def Only (H : Hp) : Prop := ∀ b, H b = none ∨ ∃ o xs, H b = some (.frz o (.lst xs))
theorem law_call {P : Program} {w : World} {K : PySem.W.Frag} {mg mb : Str → Option Value} {CX : CXT} {k : Nat} {fa a : Addr} {fd : FuncData} {x : Str} {sp : Sp} {s₁ : Shared} {vs : List Value} {ns : List Int}
    (KX : K.In s₁.heap) (hns : s₁.heap.Ns mainGlobals mg) (hb : s₁.heap.Ns builtinsNs mb) (hbb : ∀ x : Str, x ≠ "__name__" → mb x = bootBuiltins x) (hlim : s₁.heap.NoLimit) (hg : s₁.gens = #[])
    (ha : s₁.heap.get? a = some { cls := .type "list", data := .seq vs.toArray }) (hi : IntsAre vs ns) (hl : ns.length ≤ sizeLine) (hr : Room k callerA)
    (F : ∀ base : Heap, K.In base → base.Ns mainGlobals mg → FnOk P w K mg base CX k fa fd [x] sp) (hbind : ∀ (s : Shared) (u : Value), BindsTo s fd ⟨[u], []⟩ [(x, u)])
    (hsp : ∀ H : Hp, Only H → SqL K H a (ns.map V.int) → sp [.ref a] H (fun v _ => v = .bl true) fun _ _ _ => False)
    (hCX : ∀ H e s', CX [] H s₁ (fun _ _ _ => False) e s' → False) :
    codeAny (model P w) callerA (.call (.ref fa) ⟨[.ref a], []⟩) (fun r s' => r = .ok (.ret (.bool true)) ∧ OldK s₁.heap s'.heap ∧ s'.os = s₁.os ∧ AllBare s'.gens) s₁ := by
  have rv := vals_ints hi
  have lenV := hi.length
  have core : ∀ H : Hp, Only H → SqL K H a (ns.map V.int) → HOk P w H s₁.heap → (∀ b, H b ≠ none → b = a) → (H a ≠ none → K.lookup a = none) →
      codeAny (model P w) callerA (.call (.ref fa) ⟨[.ref a], []⟩) (fun r s' => r = .ok (.ret (.bool true)) ∧ OldK s₁.heap s'.heap ∧ s'.os = s₁.os ∧ AllBare s'.gens) s₁ := by
    intro H hO hS hok hA hK
    have base_of : ∀ {b : Addr} {o : Obj}, s₁.heap.get? b = some o → H b = none → (hidT s₁.heap H).get? b = some o := fun e n => hidT_get e n
    have noA : ∀ {b : Addr} {o : Obj} {es : Array DictEntry} {ep : Nat}, s₁.heap.get? b = some o → o.data = .dict es ep → H b = none := fun {b o es ep} e d => by
      cases q : H b with
      | none => rfl
      | some u =>
        have e' : b = a := hA b (by rw [q]; simp)
        subst e'
        rw [ha] at e; cases e
        have d' : Data.seq vs.toArray _ = Data.dict es ep := d
        cases d'
    have nsK : ∀ {b : Addr} {m : Str → Option Value}, s₁.heap.Ns b m → (hidT s₁.heap H).Ns b m := fun {b m} ⟨o, es, ep, e, d, r⟩ => ⟨o, es, ep, base_of e (noA e d), d, r⟩
    have hKb : K.In (hidT s₁.heap H) := fun b o e => base_of (KX b o e) (by
      cases q : H b with
      | none => rfl
      | some u =>
        have e' : b = a := hA b (by rw [q]; simp)
        subst e'
        rw [hK (by rw [q]; simp)] at e; cases e)
    have hM : Mod K mg (hidT s₁.heap H) := ⟨hKb, nsK hns, ⟨mb, nsK hb, hbb⟩, let ⟨mc, h1, h2⟩ := hlim; ⟨mc, nsK h1, h2⟩⟩
    have e0 : Env0 P w K mg (hidT s₁.heap H) callerA [] s₁ H := ⟨rfl, hM, fun b o e => of_hidT e, Nat.le_of_eq (hidT_size _ _), trivial, fun b hb => absurd (show b ∈ ([] : List Addr) from hb) (by simp), hok, .of_eq hg⟩
    refine codeAny_mono ((F _ hKb (nsK hns)).run callerA [] s₁ H ⟨[.ref a], []⟩ [.ref a] [.ref a] _ _ hr e0 (hbind s₁ (.ref a)) (.cons rfl .nil) (hsp H hO hS)) fun r s' h => ?_
    cases r with
    | error e => exact (hCX H e s' h).elim
    | ok fl =>
      cases fl with
      | next => exact False.elim h
      | brk => exact False.elim h
      | cont => exact False.elim h
      | ret u =>
        obtain ⟨v, H', os, bare, un, hok', r', q⟩ := h
        have q' : v = .bl true := q
        subst q'
        obtain rfl : u = Value.bool true := r'
        refine ⟨rfl, OldK.of_keep fun b o e => ?_, os, bare⟩
        cases q : H b with
        | none => exact un.keep b o e q (by intro z; exact absurd (show b ∈ ([] : List Addr) from z) (by simp)) (by simp)
        | some u =>
          rcases hO b with z | ⟨ob, xs, z⟩
          · rw [q] at z; cases z
          · have z2 := un.frzs b ob _ z
            obtain ⟨e1, _⟩ := hok b _ z
            obtain ⟨e2, _⟩ := hok' b _ z2
            rw [e] at e1; cases e1
            exact e2
  cases hk : K.lookup a with
  | some o =>
    have e := KX a o hk
    rw [ha] at e
    cases e
    refine core (fun _ => none) (fun _ => .inl rfl) (.inr ⟨_, vs.toArray, _, hk, rfl, rfl, rfl, by rw [List.size_toArray, lenV]; exact hl, by simpa using rv⟩) (fun b u z => by have z' : (none : Option HO) = some u := z; cases z') (fun b z => absurd rfl z) fun z => absurd rfl z
  | none =>
    refine core (fun b => if b = a then some (.frz { cls := .type "list", data := .seq vs.toArray } (.lst (ns.map V.int))) else none) (fun b => ?_) (.inl (.inr ⟨{ cls := .type "list", data := .seq vs.toArray }, if_pos rfl⟩)) (fun b u z => ?_) (fun b z => ?_) fun _ => hk
    · by_cases hb : b = a
      · exact .inr ⟨_, _, if_pos hb⟩
      · exact .inl (if_neg hb)
    · by_cases hb : b = a
      · have z' := (if_pos hb).symm.trans z
        cases z'
        subst hb
        exact ⟨ha, by rw [List.length_map]; exact hl, vs, _, rv, ha⟩
      · have z' := (if_neg hb).symm.trans z
        cases z'
    · by_cases hb : b = a
      · exact hb
      · exact absurd (if_neg hb) z
end L2
namespace L2
open PySem PySem.Spec PyProof.Rows
theorem walk_of {l : PySem.W.OpenLaw} {n k : Nat} {q : Program} {loose : List Str} {XP : (Str → Option Value) → Heap → Prop} {YP : World → Heap → Prop} {d : DefRec} {K : Params → PySem.W.Frag} {CX : World → CXT} {sp : World → Sp} {x : Str}
    (hn : l.most = some n) (hn2 : n ≤ sizeLine) (hdf : d.params.defaults = []) (hr : Room k callerA)
    (hY : ∀ (w : World) (h : Heap), YP w h → (K w.params).In h)
    (F : ∀ (w : World) (mg : Str → Option Value) (fa : Addr) (h : Heap), (K w.params).In h → h.Ns mainGlobals mg → mg d.name = some (.ref fa) →
      ∃ fd : FuncData, (∀ (s : Shared) (u : Value), BindsTo s fd ⟨[u], []⟩ [(x, u)]) ∧
        ∀ base : Heap, (K w.params).In base → base.Ns mainGlobals mg → FnOk l.prog w (K w.params) mg base (CX w) k fa fd [x] (sp w))
    (hsp : ∀ (w : World) (H : Hp) (a : Addr) (ns : List Int), ns.length ≤ n → Only H → SqL (K w.params) H a (ns.map V.int) → sp w [.ref a] H (fun v _ => v = .bl true) fun _ _ _ => False)
    (hCX : ∀ (w : World) (H : Hp) (s : Shared) (e : Value) (s' : Shared), CX w [] H s (fun _ _ _ => False) e s' → False) :
    PySem.W.WalkO q loose XP YP l.row.toRowW d [] (fun f vs => PySem.call f vs) := by
  refine Att.attach_call hn hdf fun w s₀ s₁ mg mb fa o pm cd doc a vs ns G Y ho hd hcd hmg hobj hints hlen hg => ?_
  have KX := hY w _ Y
  obtain ⟨fd, hb, hF⟩ := F w mg fa _ KX G.T.g hmg
  exact law_call KX G.T.g G.T.b G.T.builtins G.T.nolimit hg hobj hints (Nat.le_trans hlen hn2) hr hF hb (fun H hO hS => hsp w H a ns hlen hO hS) fun H e s' => hCX w H s₁ e s'
end L2
namespace L2
open PySem PySem.Spec PyProof.Rows
def defArgs (s : Stmt) : Arguments := match s with
  | .FunctionDef _ a _ _ _ _ _ _ _ _ => a
  | _ => { posonlyargs := [], args := [], vararg := none, kwonlyargs := [], kw_defaults := [], kwarg := none, defaults := [] }
def defBody (s : Stmt) : List Stmt := match s with
  | .FunctionDef _ _ b _ _ _ _ _ _ _ => b
  | _ => []
def defScope (s : Stmt) : Scope := match s with
  | .FunctionDef _ _ _ _ _ _ sc _ _ _ => sc
  | _ => { kind := .function, names := [], isGenerator := false, isCoroutine := false }
abbrev CX0 : CXT := fun _ _ _ _ _ _ => False
abbrev E0 : XK := fun _ _ _ => False
theorem pass0 {X : Cx} : Passes CX0 X E0 := fun _ _ _ _ _ _ _ h => h.elim
structure Fun (K : PySem.W.Frag) (x qual : Str) (st : Stmt) (f : Addr) (fd : FuncData) : Prop where
  ex : ∃ (oc : Value) (od : Option Addr) (kV doc pm : Value) (an : Option Addr) (cdv ct : Value) (osl : Array (Option Value)),
    fd = PySem.W.fnOf x qual (defArgs st) (defBody st) (defScope st) .none kV doc pm an cdv ct ∧ K.lookup f = some ⟨oc, od, .func fd, osl⟩ ∧ PySem.W.codeIn K cdv qual = true
  kp : PySem.W.keepIn K (.ref f) = true
section
variable {P : Program} {w : World} {K : PySem.W.Frag} {mg : Str → Option Value} {base : Heap}
theorem Fun.ok {x qual : Str} {st : Stmt} {f : Addr} {fd : FuncData} {N ps : List Str} {k : Nat} {sp : Sp} (F : Fun K x qual st f fd) (S : FnScope N ps (defScope st)) (len : ∀ vs H Q E, sp vs H Q E → vs.length = ps.length)
    (hbody : ∀ (cdv : Value) (A : Around) (outer : List Env) (s : Shared) (H : Hp) (vs : List V) (Q : VK) (E : XK), Room k (A.deeper (envOfC qual (defScope st) s.heap.objs.size f cdv)) → sp vs H Q E →
      ∃ t, PSs (cxOf CX0 P w K mg base N qual (defScope st) f cdv A outer s H E).nox (defBody st) t ∧ t { nx := fun _ H' => Q .non H', rt := Q } (start N vs) H) : FnOk P w K mg base CX0 (k + 1) f fd ps sp := by
  obtain ⟨oc, od, kV, doc, pm, an, cdv, ct, osl, rfl, lk, hcd⟩ := F.ex
  refine fn_of lk hcd S len fun A outer s H vs Q E hr hsp => ?_
  obtain ⟨t, h, q⟩ := hbody cdv A outer s H vs Q E hr hsp
  exact ⟨t, h.nox, q⟩
theorem Fun.binds {x qual : Str} {st : Stmt} {f : Addr} {fd : FuncData} {ps : List Str} (F : Fun K x qual st f fd)
    (h : ∀ (kV doc pm : Value) (an : Option Addr) (cdv ct : Value) (us : List Value), us.length = ps.length → bindArgs (PySem.W.fnOf x qual (defArgs st) (defBody st) (defScope st) .none kV doc pm an cdv ct) ⟨us, []⟩ = pure (ps.zip us)) : Binds K fd ps [] := by
  obtain ⟨oc, od, kV, doc, pm, an, cdv, ct, osl, rfl, lk, hcd⟩ := F.ex
  exact .all (h kV doc pm an cdv ct)
theorem fun_mk {x qual : Str} {st : Stmt} {f : Addr} {oc : Value} {od an : Option Addr} {osl : Array (Option Value)} {kV doc pm cdv ct : Value} (l : K.lookup f = some ⟨oc, od, .func (PySem.W.fnOf x qual (defArgs st) (defBody st) (defScope st) .none kV doc pm an cdv ct), osl⟩)
    (c : PySem.W.codeIn K cdv qual = true) (k : PySem.W.keepIn K (.ref f) = true) : Fun K x qual st f (PySem.W.fnOf x qual (defArgs st) (defBody st) (defScope st) .none kV doc pm an cdv ct) := ⟨⟨oc, od, kV, doc, pm, an, cdv, ct, osl, rfl, l, c⟩, k⟩
end
theorem small1000 {n : Nat} (h : n ≤ 1000) : n < sizeLine := Nat.lt_of_le_of_lt h (by decide)
section
variable {X : Cx}
theorem pv (i : Nat) {x : Str} {pos : Pos} (hN : X.N[i]? = some x := by rfl) (hv : Vis X.env.scope x := by first | exact Or.inl rfl | exact Or.inr (Or.inl rfl) | exact Or.inr (Or.inr rfl)) (hd : (x == ("__debug__" : Str)) = false := by decide)
    (hcd : (x == ("__classdict__" : Str)) = false := by decide) : PE X (.Name x pos) (tVar i) := pe_var hN hv hd hcd
end
theorem iteF {A B : Prop} (h : B) : if false = true then A else B := by
  rw [if_neg Bool.false_ne_true]
  exact h
theorem iteT {A B : Prop} (h : A) : if true = true then A else B := by
  rw [if_pos rfl]
  exact h
theorem ite2 {c A B : Prop} [Decidable c] (h1 : c → A) (h2 : ¬ c → B) : if c then A else B := by
  by_cases h : c
  · rw [if_pos h]
    exact h1 h
  · rw [if_neg h]
    exact h2 h
def Same (H H' : Hp) : Prop := ∀ b o, H b = some o → H' b = some o
theorem Same.trans {H H1 H2 : Hp} (a : Same H H1) (b : Same H1 H2) : Same H H2 := fun c o h => b c o (a c o h)
theorem Same.seq {K : PySem.W.Frag} {H H' : Hp} {a : Addr} {xs : List V} (e : Same H H') (h : SqL K H a xs) : SqL K H' a xs := by
  rcases h with (h | ⟨o, h⟩) | h
  · exact .inl (.inl (e _ _ h))
  · exact .inl (.inr ⟨o, e _ _ h⟩)
  · exact .inr h
end L2
namespace L2
open PySem PySem.Spec PyProof.Rows
section
variable {κ : Type} [DecidableEq κ]
end
section
variable {P : Program} {w : World} {H : Hp} {h : Heap} {a : Addr}
end
section
variable {X : Cx} {pins : List (Addr × Obj)} {σ : St} {H : Hp} {s : Shared} {a : Addr} {y v : V} {u r : Value} {o : Option V} {A : Around} {E : Value → Shared → Prop}
end
section
variable {X : Cx} {pins : List (Addr × Obj)} {σ : St} {H : Hp} {s : Shared} {a : Addr} {kvs : List (Key × V)} {k : Key} {u : Value} {A : Around} {E : Value → Shared → Prop}
end
section
variable {X : Cx} {o i e value : Expr} {pos pos' tpos : Pos} {td ty tv : TE}
end
section
variable {X : Cx} {pos : Pos}
end
section
variable {X : Cx} {pins : List (Addr × Obj)} {σ : St} {H : Hp} {s : Shared} {a : Addr} {y d : V} {u r : Value} {o : Option V} {A : Around} {E : Value → Shared → Prop}
end
section
variable {X : Cx} {o e f : Expr} {apos cpos : Pos} {td ty tx : TE}
end
section
variable {X : Cx} {pins : List (Addr × Obj)} {σ : St} {H : Hp} {s : Shared} {a : Addr} {kvs : List (Key × V)} {A : Around} {E : Value → Shared → Prop}
end
section
variable {X : Cx} {pins : List (Addr × Obj)} {σ : St} {H : Hp} {s : Shared} {a : Addr} {y : V} {u : Value} {A : Around} {E : Value → Shared → Prop}
end
end L2
namespace L2
open PySem PySem.Spec PyProof.Rows
section
variable {κ : Type} [DecidableEq κ]
end
end L2
namespace L2
open PySem PySem.Spec PyProof.Rows
def Sz (n : Nat) (x : Int) : Prop := x.natAbs < 2 ^ n
section
variable {m n : Nat} {x y : Int}
theorem Sz.bits (h : Sz n x) : Builtin.Int.intBits x ≤ n := intBits_le_iff.mpr h
theorem Sz.of_bits (h : Builtin.Int.intBits x ≤ n) : Sz n x := intBits_le_iff.mp h
theorem Sz.mul (h : Sz m x) (k : Sz n y) : Sz (m + n) (x * y) := .of_bits (intBits_mul_le h.bits k.bits)
theorem Sz.add (h : Sz m x) (k : Sz n y) : Sz (max m n + 1) (x + y) := .of_bits (intBits_add_le h.bits k.bits)
theorem szd (n : Nat) {x : Int} (h : decide (x.natAbs < 2 ^ n) = true := by decide +kernel) : Sz n x := (show x.natAbs < 2 ^ n from of_decide_eq_true h)
theorem sz_of (h : -(2 ^ n : Nat) < x) (k : x < (2 ^ n : Nat)) : Sz n x := by
  unfold Sz
  generalize 2 ^ n = p at h k ⊢
  omega
end
def CMulB (i j : Int) : Prop := ∃ m n, Sz m i ∧ Sz n j ∧ m + n ≤ 134217728
theorem mulB {i j : Int} {m n : Nat} (h : Sz m i) (k : Sz n j) (l : decide (m + n ≤ 134217728) = true := by decide +kernel) : CMulB i j := ⟨m, n, h, k, of_decide_eq_true l⟩
def CDivB (_ j : Int) : Prop := j ≠ 0 ∧ Sz 9000 j
section
variable {X : Cx}
theorem op_mulB : OpR X (binaryOp .Mult) (rI CMulB fun i j => .int (i * j)) := opI fun _ _ _ _ _ _ _ hc q =>
  mul_int q (let ⟨_, _, a, b, c⟩ := hc; IntMulOk.of_le a.bits b.bits c)
theorem op_fdivB : OpR X (binaryOp .FloorDiv) (rI CDivB fun i j => .int (i.fdiv j)) := opI fun _ j _ _ _ _ _ hc q =>
  floordiv_int hc.1 q (.inl (PyProof.noPylong_of_log2 ((Nat.log2_lt (by have := hc.1; omega)).mpr hc.2)))
theorem all_eq_ints (ns ms : List Int) : ((List.range (min ns.length ms.length)).all (fun j => ns.getD j 0 == ms.getD j 0) && ns.length == ms.length) = decide (ns = ms) := by
  rw [Bool.eq_iff_iff]
  simp only [Bool.and_eq_true, List.all_eq_true, List.mem_range, beq_iff_eq, decide_eq_true_eq]
  constructor
  · rintro ⟨h, l⟩
    refine List.ext_getElem l fun i h1 h2 => ?_
    have := h i (by omega)
    simpa [List.getD_eq_getElem?_getD, h1, h2] using this
  · rintro rfl
    exact ⟨fun _ _ => rfl, rfl⟩
theorem op_eqT (hu : X.A.units < cLine) : OpR X (compareOp .Eq) (fun x y H Q => ∃ (a b : Addr) (ns ms : List Int), x = .ref a ∧ y = .ref b ∧ SqT X.K H a (ns.map V.int) ∧ SqT X.K H b (ms.map V.int) ∧ Q (.bl (decide (ns = ms))) H) := by
  intro pins s σ H x y v u Q I rx ry h
  obtain ⟨a, b, ns, ms, rfl, rfl, ha, hb, q⟩ := h
  cases rx
  cases ry
  obtain ⟨its, rv, ht, _⟩ := I.tuple ha
  obtain ⟨its2, rv2, ht2, _⟩ := I.tuple hb
  have l1 : ns.length = its.length := by rw [← rv.length, List.length_map]
  have l2 : ms.length = its2.length := by rw [← rv2.length, List.length_map]
  refine SeqAt.eq_tupleAt (e := fun j => ns.getD j 0 == ms.getD j 0) (show s.heap.IsTuple a its.toArray from ht) (show s.heap.IsTuple b its2.toArray from ht2) hu (fun j h1 h2 => ?_) ?_
  · have h1' : j < ns.length := by rw [l1]; simpa using h1
    have h2' : j < ms.length := by rw [l2]; simpa using h2
    obtain ⟨u1, e1, r1⟩ := rv.get (i := j) (x := .int ns[j]) (by rw [List.getElem?_map, List.getElem?_eq_getElem h1'] <;> rfl)
    obtain ⟨u2, e2, r2⟩ := rv2.get (i := j) (x := .int ms[j]) (by rw [List.getElem?_map, List.getElem?_eq_getElem h2'] <;> rfl)
    obtain ⟨t1, rfl⟩ := r1
    obtain ⟨t2, rfl⟩ := r2
    have f1 : its.toArray[j] = .int ns[j] t1 := by
      have := (List.getElem?_eq_some_iff.mp e1).2
      simpa using this
    have f2 : its2.toArray[j] = .int ms[j] t2 := by
      have := (List.getElem?_eq_some_iff.mp e2).2
      simpa using this
    rw [f1, f2]
    have g1 : ns.getD j 0 = ns[j] := by simp [List.getD_eq_getElem?_getD, h1']
    have g2 : ms.getD j 0 = ms[j] := by simp [List.getD_eq_getElem?_getD, h2']
    show SeqAt.EqAt X.A.in1 s (.int ns[j] t1) (.int ms[j] t2) (ns.getD j 0 == ms.getD j 0)
    rw [g1, g2]
    exact SeqAt.EqAt.int_int _ _ _ _
  · have e : ((List.range (min its.toArray.size its2.toArray.size)).all (fun j => ns.getD j 0 == ms.getD j 0) && its.toArray.size == its2.toArray.size) = decide (ns = ms) := by
      rw [List.size_toArray, List.size_toArray, ← l1, ← l2]
      exact all_eq_ints ns ms
    rw [e]
    exact ⟨.bl _, H, I, rfl, q⟩
theorem call_isi : CallR X (.builtin "isinstance") (fun xs H Q => ∃ x t c b, xs = [x, .ty c] ∧ TyOf X.K H x t ∧ PySem.W.kitOne X.K t (.type c) = some b ∧ Q (.bl b) H) := by
  intro pins s σ H xs us Q I rv h
  obtain ⟨x, t, c, b, rfl, ty, e, q⟩ := h
  obtain ⟨u, u', rfl, r1, r2⟩ := vals2 rv
  cases (show u' = Value.type c from r2)
  exact isinst_ok I r1 ty e fun tk => ⟨.bl b, H, I.tok tk, rfl, q⟩
end
section
variable {K : PySem.W.Frag}
theorem kit_int_int : PySem.W.kitOne K (.type "int") (.type "int") = some true := by
  show (if ((Value.type "int") == (Value.type "int")) = true then some true else (if PySem.W.kitMeta "int" = true then (PySem.fastBuiltinMro "int").map (·.contains (Value.type "int")) else none)) = some true
  decide +kernel
theorem kit_int_bool : PySem.W.kitOne K (.type "int") (.type "bool") = some false := by
  show (if ((Value.type "int") == (Value.type "bool")) = true then some true else (if PySem.W.kitMeta "bool" = true then (PySem.fastBuiltinMro "int").map (·.contains (Value.type "bool")) else none)) = some false
  decide +kernel
theorem kit_tuple_tuple : PySem.W.kitOne K (.type "tuple") (.type "tuple") = some true := by
  show (if ((Value.type "tuple") == (Value.type "tuple")) = true then some true else (if PySem.W.kitMeta "tuple" = true then (PySem.fastBuiltinMro "tuple").map (·.contains (Value.type "tuple")) else none)) = some true
  decide +kernel
theorem kit_list_list : PySem.W.kitOne K (.type "list") (.type "list") = some true := by
  show (if ((Value.type "list") == (Value.type "list")) = true then some true else (if PySem.W.kitMeta "list" = true then (PySem.fastBuiltinMro "list").map (·.contains (Value.type "list")) else none)) = some true
  decide +kernel
end
def tIfJ (c : TT) (t u : TS) : TS := fun D σ H => ∃ M : St → Hp → Prop, (c σ H fun b H1 => if b = true then t { D with nx := M } σ H1 else u { D with nx := M } σ H1) ∧ ∀ σ' H', M σ' H' → D.nx σ' H'
theorem ps_ifJ {X : Cx} {c : Expr} {a b : List Stmt} {tc : TT} {t u : TS} {pos : Pos} (hc : PT X c tc) (ha : PSs X a t) (hb : PSs X b u) : PS X (.If c a b pos) (tIfJ tc t u) := by
  intro pins s σ H D I h
  obtain ⟨M, h, hM⟩ := h
  have up : ∀ (f : Flow) (s' : Shared), SP X pins { D with nx := M } f s' → SP X pins D f s' := fun f s' q => by
    cases f with
    | next =>
      obtain ⟨σ', H', I', q⟩ := q
      exact ⟨σ', H', I', hM σ' H' q⟩
    | ret v => exact q
    | brk => exact q
    | cont => exact q
  refine wpAny_If (thn (hc pins s σ H _ I h) fun d s1 ⟨H1, I1, q1⟩ => ?_)
  cases d with
  | true => exact thn (ha pins s1 σ H1 _ I1 q1) up
  | false => exact thn (hb pins s1 σ H1 _ I1 q1) up
theorem cpow40 : CPow 10 40 := ⟨by decide, by decide, by decide⟩
theorem small63 {n : Nat} (h : n ≤ 1000) : n ≤ sizeLine := Nat.le_of_lt (small1000 h)
theorem item_at {ns : List Int} {k : Int} (h0 : 0 ≤ k) (h : k < (ns.length : Int)) : ∃ v : Int, atI (ns.map V.int) k = some (.int v) := by
  have hk : k.toNat < ns.length := by omega
  have ek : k = ((k.toNat : Nat) : Int) := by omega
  have q : atI (ns.map V.int) ((k.toNat : Nat) : Int) = some (.int ns[k.toNat]) := atI_nat (by rw [List.getElem?_map, List.getElem?_eq_getElem hk] <;> rfl)
  rw [← ek] at q
  exact ⟨_, q⟩
end L2
namespace L2
open PySem PySem.Spec PyProof.Rows
def Cx.inComp (X : Cx) (Nc : List Str) (sc : Scope) (cl : List (Str × Addr)) (s : Shared) (H : Hp) (ex : List Addr) : Cx :=
  { X with N := Nc, s₀ := s, H₀ := H, env := compEnvC sc cl s.heap.objs.size X.env, outer := X.stack, stack := X.stack, ex := ex, fn := fun _ => false, pn := [], xe := fun _ _ => False }
theorem closure_go {env : Env} {f : Str × NameKind → List (Str × Addr) → Sem (ForInStep (List (Str × Addr)))}
    (hf : ∀ n k r, f (n, k) r = if (k == NameKind.free) = true then (cellOf env n >>= fun c => pure (ForInStep.yield ((n, c) :: r))) else pure (ForInStep.yield r)) :
    ∀ (l : List (Str × NameKind)) (cs : List (Str × Addr)), (∀ x ∈ l, x.2 = .free → ∃ c, env.cells.lookup x.1 = some c) →
      ∃ cl, (forIn l cs f : Sem (List (Str × Addr))) = pure cl ∧ (∀ p ∈ cl, p ∈ cs ∨ env.cells.lookup p.1 = some p.2) ∧ (∀ p ∈ cs, p ∈ cl) ∧ ∀ x ∈ l, x.2 = .free → ∃ c, (x.1, c) ∈ cl := by
  intro l
  induction l with
  | nil =>
    intro cs _
    exact ⟨cs, by rw [List.forIn_nil], fun p hp => .inl hp, fun p hp => hp, fun x hx => absurd hx (by simp)⟩
  | cons y r ih =>
    intro cs h
    obtain ⟨n, k⟩ := y
    by_cases hk : k = .free
    · subst hk
      obtain ⟨c, hc⟩ := h (n, .free) (by simp) rfl
      have e : cellOf env n = pure c := by
        unfold cellOf
        rw [show env.cells.lookup n = some c from hc]
      obtain ⟨cl, h1, h2, h3, h4⟩ := ih ((n, c) :: cs) fun x hx => h x (List.mem_cons_of_mem _ hx)
      refine ⟨cl, ?_, fun p hp => ?_, fun p hp => h3 p (List.mem_cons_of_mem _ hp), fun x hx hf' => ?_⟩
      · rw [List.forIn_cons, hf, if_pos (by decide), e]
        simp only [pure_bind]
        exact h1
      · rcases h2 p hp with z | z
        · rcases List.mem_cons.mp z with z | z
          · subst z; exact .inr hc
          · exact .inl z
        · exact .inr z
      · rcases List.mem_cons.mp hx with z | z
        · subst z; exact ⟨c, h3 _ (by simp)⟩
        · exact h4 x z hf'
    · have hb : (k == NameKind.free) = false := by simpa using hk
      obtain ⟨cl, h1, h2, h3, h4⟩ := ih cs fun x hx => h x (List.mem_cons_of_mem _ hx)
      refine ⟨cl, ?_, h2, h3, fun x hx hf' => ?_⟩
      · rw [List.forIn_cons, hf, hb, if_neg (by decide)]
        simp only [pure_bind]
        exact h1
      · rcases List.mem_cons.mp hx with z | z
        · subst z; exact absurd hf' hk
        · exact h4 x z hf'
theorem lookup_has {α : Type} : ∀ {l : List (Str × α)} {n : Str} {c : α}, (n, c) ∈ l → ∃ d, l.lookup n = some d
  | (k, v) :: r, n, c, h => by
    rw [List.lookup_cons]
    cases hx : (n == k) with
    | true => exact ⟨v, rfl⟩
    | false =>
      rcases List.mem_cons.mp h with z | z
      · cases z
        simp at hx
      · exact lookup_has z
theorem closure_ok {env : Env} {sc : Scope} (h : ∀ x ∈ sc.names, x.2 = .free → ∃ c, env.cells.lookup x.1 = some c) :
    ∃ cl, closureFor sc env = pure cl ∧ (∀ y c, cl.lookup y = some c → env.cells.lookup y = some c) ∧ ∀ x ∈ sc.names, x.2 = .free → ∃ c, cl.lookup x.1 = some c := by
  obtain ⟨cl, h1, h2, _, h4⟩ := closure_go (env := env) (f := fun x r => if (x.2 == NameKind.free) = true then (cellOf env x.1 >>= fun c => pure (ForInStep.yield ((x.1, c) :: r))) else pure (ForInStep.yield r)) (fun _ _ _ => rfl) sc.names [] h
  refine ⟨cl, ?_, fun y c e => ?_, fun x hx hf => ?_⟩
  · unfold closureFor
    have : (forIn sc.names ([] : List (Str × Addr)) fun x r => (match x with | (name, kind) => if (kind == NameKind.free) = true then (do let __do_lift ← cellOf env name; pure (ForInStep.yield ((name, __do_lift) :: r))) else pure (ForInStep.yield r)) : Sem (List (Str × Addr))) = pure cl := h1
    first
      | (simp only [this, pure_bind]; done)
      | (simp only [h1, pure_bind]; done)
      | (rw [show (forIn sc.names ([] : List (Str × Addr)) _ : Sem (List (Str × Addr))) = pure cl from h1]; rfl)
  · rcases h2 (y, c) (PySem.mem_of_lookup e) with z | z
    · exact absurd z (by simp)
    · exact z
  · obtain ⟨c, hc⟩ := h4 x hx hf
    exact lookup_has hc
theorem lookup_relabel (env : Env) : ∀ (names : List (Str × NameKind)) (y : Str),
    (names.map fun (n, k) => if (k == NameKind.free && env.scope.kind == .function && env.kindOf n == some .cell) then (n, NameKind.cell) else (n, k)).lookup y
      = (names.lookup y).map fun k => if (k == NameKind.free && env.scope.kind == .function && env.kindOf y == some .cell) then NameKind.cell else k
  | [], y => rfl
  | (n, k) :: r, y => by
    have ih := lookup_relabel env r y
    rw [List.map_cons]
    dsimp only
    cases hx : (y == n) with
    | true =>
      have e : y = n := by simpa using hx
      subst e
      by_cases c : (k == NameKind.free && env.scope.kind == .function && env.kindOf y == some .cell) = true
      · rw [if_pos c]; simp only [List.lookup_cons, hx, Option.map_some]; rw [if_pos c]
      · rw [if_neg c]; simp only [List.lookup_cons, hx, Option.map_some]; rw [if_neg c]
    | false =>
      by_cases c : (k == NameKind.free && env.scope.kind == .function && env.kindOf n == some .cell) = true
      · rw [if_pos c]; simp only [List.lookup_cons, hx]; exact ih
      · rw [if_neg c]; simp only [List.lookup_cons, hx]; exact ih
def PIfs (X : Cx) (ifs : List Expr) (t : TT) : Prop :=
  ∀ (pins : List (Addr × Obj)) (s : Shared) (σ : St) (H : Hp) (Q : Bool → Hp → Prop), Inv X pins σ H s → t σ H Q →
    wpAny (model X.prog X.w) X.A (forIn ifs true fun c r => if r = true then do let ok ← isTrue c X.env (eval c X.env); pure (ForInStep.yield ok) else pure (ForInStep.yield r)) (TP X pins σ Q) X.xe s
def tYes : TT := fun _ H Q => Q true H
theorem yes {σ : St} {H : Hp} {Q : Bool → Hp → Prop} (h : Q true H) : tYes σ H Q := h
theorem pif_nil {X : Cx} : PIfs X [] tYes := by
  intro pins s σ H Q I h
  rw [List.forIn_nil]
  exact wpAny_pure ⟨H, I, h⟩
theorem pif_one {X : Cx} {c : Expr} {t : TT} (hc : PT X c t) : PIfs X [c] t := by
  intro pins s σ H Q I h
  rw [List.forIn_cons, if_pos rfl]
  refine wpAny_bind (wpAny_bind (thn (hc pins s σ H Q I h) fun b s1 q => wpAny_pure ?_))
  dsimp only
  rw [List.forIn_nil]
  exact wpAny_pure q
theorem thnF {α : Type} {t : Sem α} {Q Q' : α → Shared → Prop} {M : Model} {A : Around} {E : Value → Shared → Prop} {s : Shared} (h : wpAny M A t Q (fun _ _ => False) s) (hQ : ∀ a s, Q a s → Q' a s) : wpAny M A t Q' E s := wpAny_mono h hQ fun _ _ z => z.elim
def tComp (wi : TI) (tt : TT) (te : TE) : TE := fun σ H Q => wi σ H fun J H1 => ∀ D, H1 D = none → ∃ W : Nat → Nat → List V → Hp → Prop, (∃ m, W 0 m [] (upd H1 D (.lst []))) ∧ ∀ i m ys H2, W i m ys H2 →
  H2 D = some (.lst ys) ∧ ((J.stop i H2 ∧ Q (.ref D) H2) ∨ (J.go i H2 ∧ ys.length < sizeLine ∧ ∀ x H3, J.yld i H2 x H3 → tt (σ ++ [some x]) H3 fun b H4 => if b = true then te (σ ++ [some x]) H4 fun y H5 => H5 D = some (.lst ys) ∧ ∃ m', m' < m ∧ W (i + 1) m' (ys ++ [y]) (upd H5 D (.lst (ys ++ [y])))
    else ∃ m', m' < m ∧ W (i + 1) m' ys H4))
structure CompN (N Nc : List Str) (x : Str) (sc fsc : Scope) : Prop where
  kind : sc.kind = .function
  cell : ∀ y ∈ sc.names, y.2 ≠ .cell
  nm : ∀ y ∈ sc.names, y.2 = .local → sc.names.lookup y.1 = some .local
  own : sc.names.lookup x = some .local
  fr : ∀ y ∈ sc.names, y.2 = .free → fsc.names.lookup y.1 = some .cell ∨ fsc.names.lookup y.1 = some .free
  len : Nc.length = N.length + 1
  nd : Nc.Nodup
  last : Nc[N.length]? = some x
  slot : ((List.range N.length).all fun i => match Nc[i]? with
    | some y => (match sc.names.lookup y with | some .free => N[i]? == some y | some .local => false | some .cell => false | _ => true)
    | none => true) = true
theorem CompN.at {N Nc : List Str} {x : Str} {sc fsc : Scope} (C : CompN N Nc x sc fsc) {i : Nat} {y : Str} (hi : i < N.length) (h : Nc[i]? = some y) : sc.names.lookup y ≠ some .local ∧ sc.names.lookup y ≠ some .cell ∧ (sc.names.lookup y = some .free → N[i]? = some y) := by
  have q := List.all_eq_true.mp C.slot i (List.mem_range.mpr hi)
  rw [h] at q
  dsimp only at q
  cases e : sc.names.lookup y with
  | none => exact ⟨fun z => (nomatch z), fun z => (nomatch z), fun z => (nomatch z)⟩
  | some k =>
    rw [e] at q
    cases k with
    | «local» => exact absurd (show false = true from q) Bool.false_ne_true
    | cell => exact absurd (show false = true from q) Bool.false_ne_true
    | free => exact ⟨fun z => (nomatch z), fun z => (nomatch z), fun _ => by simpa using q⟩
    | _ => exact ⟨fun z => (nomatch z), fun z => (nomatch z), fun z => (nomatch z)⟩
section
variable {X : Cx} {elt iter : Expr} {x : Str} {px pos : Pos} {ifs : List Expr} {sc fsc : Scope} {N Nc : List Str} {wi : TI} {tt : TT} {te : TE}
structure CLoc (X : Cx) (pins : List (Addr × Obj)) (H : Hp) (C : Addr) : Prop where
  free : H C = none
  ne : C ≠ X.env.locals
  new : X.s₀.heap.objs.size ≤ C
  cells : ∀ x c, X.env.cells.lookup x = some c → c ≠ C
  pins : ∀ p ∈ X.pn ++ pins, p.1 ≠ C
theorem Inv.sameBut {pins : List (Addr × Obj)} {σ : St} {H : Hp} {s : Shared} {C : Addr} {h' : Heap} (I : Inv X pins σ H s) (c : CLoc X pins H C) (k : Heap.SameBut C s.heap h') : Inv X pins σ H { s with heap := h' } :=
  I.turned (t' := s.toks) (it := C) (fun b o hb e => (k.2 b hb).trans e) c.free c.ne (.inr c.new) c.cells c.pins
theorem set_last {σ : St} {o v : Option V} : (σ ++ [o]).set σ.length v = σ ++ [v] := by
  rw [List.set_append_right _ _ (Nat.le_refl _), Nat.sub_self]
  rfl
theorem comp_core (hE : X.env.scope = fsc) (hXN : X.N = N) (cn : CompN N Nc x sc fsc) (hc : X.calm = true)
    (ht : ∀ cl s H ex, PIfs (X.inComp Nc sc cl s H ex) ifs tt) (he : ∀ cl s H ex, PE (X.inComp Nc sc cl s H ex) elt te)
    {cl : List (Str × Addr)} (clS : ∀ y c, cl.lookup y = some c → X.env.cells.lookup y = some c) (clH : ∀ y ∈ sc.names, y.2 = .free → ∃ c, cl.lookup y.1 = some c)
    {pins : List (Addr × Obj)} {σ : St} {H2 : Hp} {s2 : Shared} {it : Addr} {fp : List Addr} {tn : Nat → Heap → Prop} {J : It} {Q : VK} {E : Value → Shared → Prop}
    (I2 : Inv X pins σ H2 s2) (T : Turn X.prog X.w X.K (.Name x px) J fp it tn) (st2 : tn 0 s2.heap) (f2 : ∀ b ∈ fp, FpOk X pins H2 b)
    (h2 : ∀ D, H2 D = none → ∃ W : Nat → Nat → List V → Hp → Prop, (∃ m, W 0 m [] (upd H2 D (.lst []))) ∧ ∀ i m ys H2, W i m ys H2 →
      H2 D = some (.lst ys) ∧ ((J.stop i H2 ∧ Q (.ref D) H2) ∨ (J.go i H2 ∧ ys.length < sizeLine ∧ ∀ x H3, J.yld i H2 x H3 → tt (σ ++ [some x]) H3 fun b H4 => if b = true then te (σ ++ [some x]) H4 fun y H5 => H5 D = some (.lst ys) ∧ ∃ m', m' < m ∧ W (i + 1) m' (ys ++ [y]) (upd H5 D (.lst (ys ++ [y])))
        else ∃ m', m' < m ∧ W (i + 1) m' ys H4))) :
    wpAny (model X.prog X.w) X.A (newList []) (fun acc s₃ => wpAny (model X.prog X.w) X.A (newFunctionEnv sc X.env.globals cl [] X.env.qual none .none (some X.env)) (fun cenv s₄ =>
      codeAny (model X.prog X.w) X.A (.compStart (.ListComp elt [⟨.Name x px, iter, ifs, 0⟩] sc pos) 0 (.ref it) acc { cenv with scope := relabel sc X.env })
        (fun r s' => r = .ok .next ∧ ∃ D H', acc = .ref D ∧ Inv X pins σ H' s' ∧ Q (.ref D) H' ∧ CLoc X pins H' cenv.locals ∧ ∃ m, s'.heap.Ns cenv.locals m) s₄) E s₃) E s2 := by
  refine wpAny_newObj_type (wpAny_newFunctionEnv cn.cell (by intro y hy; simp at hy) (fun h₁ hns₁ hsb₁ => ?_) cn.kind)
  dsimp only at hns₁ hsb₁ ⊢
  have hD : H2 s2.heap.objs.size = none := I2.hok.fresh (Nat.le_refl _)
  obtain ⟨W, ⟨m0, w0⟩, turn⟩ := h2 s2.heap.objs.size hD
  have I3 : Inv X pins σ (upd H2 s2.heap.objs.size (.lst [])) { s2 with heap := s2.heap.push { cls := .type "list", dict := none, data := .seq ([] : List Value).toArray } } :=
    I2.laid (t' := s2.toks) (fun b u e => Heap.get?_push_of_some _ e) (Nat.le_refl _) ⟨Nat.zero_le _, [], 0, .nil, Heap.get?_push_size _ rfl⟩
  generalize hs3 : ({ s2 with heap := s2.heap.push { cls := .type "list", dict := none, data := .seq ([] : List Value).toArray } } : Shared) = s3 at I3
  have eh : s3.heap = s2.heap.push { cls := .type "list", dict := none, data := .seq ([] : List Value).toArray } := by rw [← hs3]
  have e2 : ({ s2 with heap := h₁, toks := s2.toks + ([] : List (Str × Value)).length } : Shared) = { s3 with heap := h₁, toks := s3.toks } := by rw [← hs3]; rfl
  generalize hH3 : upd H2 s2.heap.objs.size (.lst []) = H3 at I3 w0
  rw [← eh] at hns₁ hsb₁ ⊢
  rw [e2]
  have below2 : ∀ b, b ∈ fp → b < s3.heap.objs.size := fun b hb => by
    obtain ⟨o, e, _⟩ := T.obj _ _ st2 b hb
    have : s2.heap.objs.size ≤ s3.heap.objs.size := by rw [eh, Heap.size_push]; exact Nat.le_succ _
    exact Nat.lt_of_lt_of_le (Heap.lt_size e) this
  have old : ∀ b o, s3.heap.get? b = some o → h₁.get? b = some o := fun b o e => (hsb₁.2 b (Nat.ne_of_lt (Heap.lt_size e))).trans (Heap.get?_push_of_some _ e)
  have old2 : ∀ b o, s2.heap.get? b = some o → s3.heap.get? b = some o := fun b o e => by rw [eh]; exact Heap.get?_push_of_some _ e
  have hsz3 : s2.heap.objs.size < s3.heap.objs.size := by rw [eh, Heap.size_push]; exact Nat.lt_succ_self _
  have fpFree : ∀ b ∈ fp, H3 b = none := fun b hb => by
    rw [← hH3, upd_ne (fun z => ?_)]
    · exact (f2 b hb).1
    · obtain ⟨o, e, _⟩ := T.obj _ _ st2 b hb
      have := Heap.lt_size e
      rw [z] at this
      exact Nat.lt_irrefl _ this
  have rl : ∀ y, (relabel sc X.env).names.lookup y = (sc.names.lookup y).map fun k => if (k == NameKind.free && X.env.scope.kind == .function && X.env.kindOf y == some .cell) then NameKind.cell else k := fun y => lookup_relabel X.env sc.names y
  have freeOf : ∀ y, sc.names.lookup y = some .free → ∃ c, cl.lookup y = some c := fun y e => clH (y, .free) (PySem.mem_of_lookup e) rfl
  have noCell : ∀ y, sc.names.lookup y ≠ some .cell := fun y e => cn.cell (y, .cell) (PySem.mem_of_lookup e) rfl
  have isFree : ∀ y, ((relabel sc X.env).names.lookup y = some .cell ∨ (relabel sc X.env).names.lookup y = some .free) → sc.names.lookup y = some .free := fun y h => by
    rw [rl y] at h
    cases e : sc.names.lookup y with
    | none => rw [e] at h; rcases h with z | z <;> exact absurd z (by simp)
    | some k =>
      rw [e] at h
      cases k with
      | free => rfl
      | cell => exact absurd e (noCell y)
      | «local» => rcases h with z | z <;> exact absurd z (by simp)
      | _ => rcases h with z | z <;> exact absurd z (by simp)
  have ownLoc : (relabel sc X.env).names.lookup x = some .local := by rw [rl x, cn.own]; rfl
  have exOk : ∀ b ∈ fp, b ≠ s3.heap.objs.size ∧ (∀ y c, X.env.cells.lookup y = some c → c ≠ b) ∧ b ∉ frs X.stack := fun b hb => by
    obtain ⟨g0, g1, g2, g3, g4, g5⟩ := f2 b hb
    refine ⟨Nat.ne_of_lt (below2 b hb), g4, fun z => ?_⟩
    rcases List.mem_cons.mp (I2.stkSub b z) with z | z
    · exact g1 z
    · exact g2 z
  have hCnew : X.s₀.heap.objs.size ≤ s3.heap.objs.size := I3.sz
  have hCcell : ∀ y c, X.env.cells.lookup y = some c → c ≠ s3.heap.objs.size := fun y c e z => by
    obtain ⟨v, q⟩ := I3.cell y c e
    have := q.lt
    rw [z] at this
    exact Nat.lt_irrefl _ this
  have hCpin : ∀ p ∈ X.pn ++ pins, p.1 ≠ s3.heap.objs.size := fun p hp z => by
    have := Heap.lt_size (I3.pin p hp).1
    rw [z] at this
    exact Nat.lt_irrefl _ this
  have okc : (X.inComp Nc sc cl s3 H3 fp).Ok := by
    refine ⟨I3.ok.mod, cn.kind, I3.ok.glob, I3.ok.blt, Nat.le_refl _, fun y z c h1 h2 => I3.ok.inj y z c (clS y c h1) (clS z c h2), fun y hy => freeOf y (isFree y hy), fun y c hf => absurd (show false = true from hf) Bool.false_ne_true, I3.ok.hd, I3.ok.frames, .inl rfl,
      fun b hb => ⟨(exOk b hb).1, fun y c e => (exOk b hb).2.1 y c (clS y c e)⟩, fun b o e => I3.bs b o e, Nat.le_trans I3.ok.bsz I3.sz, fun b o e hb => ?_, fun b hb => (exOk b hb).2.2, I3.stack, I3.stkFree⟩
    obtain ⟨g0, g1, g2, g3, g4, g5⟩ := f2 b hb
    rcases g3 with z | z
    · exact I3.ok.noex b o e z
    · exact absurd (Heap.lt_size (I3.ok.bs b o e).1) (Nat.not_lt.mpr z)
  have hlen : σ.length = N.length := by rw [I3.len, hXN]
  have Ic : Inv (X.inComp Nc sc cl s3 H3 fp) [] (σ ++ [none]) H3 { s3 with heap := h₁, toks := s3.toks } := by
    refine ⟨okc, rfl, I3.bare, Un.kept old, ⟨_, hns₁, fun i y v h1 h2 h3 => ?_⟩, fun y c e => ?_, I3.hok.fresh (Nat.le_refl _), fun y c e => I3.freeC y c (clS y c e), fun p hp => absurd (show p ∈ ([] : List (Addr × Obj)) from hp) (by simp), I3.hok.kept old, ?_⟩
    · have hi : i < σ.length := by
        by_cases hi : i < σ.length
        · exact hi
        · rw [List.getElem?_append_right (Nat.not_lt.mp hi)] at h2
          cases e : i - σ.length with
          | zero => rw [e] at h2; cases h2
          | succ k => rw [e] at h2; simp at h2
      rw [List.getElem?_append_left hi] at h2
      have hi' : i < N.length := by rw [← hlen]; exact hi
      obtain ⟨n1, n2, n3⟩ := cn.at hi' h1
      have hf : sc.names.lookup y = some .free := by
        rcases h3 with z | z
        · exfalso
          have z' : (relabel sc X.env).names.lookup y = some .local := z
          rw [rl y] at z'
          cases e : sc.names.lookup y with
          | none => rw [e] at z'; simp at z'
          | some k =>
            rw [e] at z'
            cases k with
            | «local» => exact n1 e
            | cell => exact n2 e
            | free =>
              simp only [Option.map_some, Option.some.injEq] at z'
              split at z' <;> cases z'
            | _ => simp at z'
        · exact isFree y z
      have hN : X.N[i]? = some y := by rw [hXN]; exact n3 hf
      obtain ⟨m, hn, hl⟩ := I3.loc
      have hv : fsc.names.lookup y = some .cell ∨ fsc.names.lookup y = some .free := cn.fr (y, .free) (PySem.mem_of_lookup hf) rfl
      have hv' : X.env.scope.names.lookup y = some .cell ∨ X.env.scope.names.lookup y = some .free := by rw [hE]; exact hv
      obtain ⟨u, ru, lk⟩ := hl i y v hN h2 (.inr hv')
      refine ⟨u, ru, .inr ⟨?_, ?_⟩⟩
      · show (relabel sc X.env).names.lookup y = some .cell ∨ (relabel sc X.env).names.lookup y = some .free
        rw [rl y, hf]
        simp only [Option.map_some, Option.some.injEq]
        split
        · exact .inl rfl
        · exact .inr rfl
      · rcases lk with ⟨kl, _⟩ | ⟨_, c, hc, hcell⟩
        · exfalso
          have kl' : X.env.scope.names.lookup y = some .local := kl
          rw [kl'] at hv'
          rcases hv' with z | z <;> cases z
        · obtain ⟨d, hd⟩ := freeOf y hf
          have ed := clS y d hd
          rw [hc] at ed
          cases ed
          exact ⟨c, hd, hcell.keeps old⟩
    · obtain ⟨v, q⟩ := I3.cell y c (clS y c e)
      exact ⟨v, q.keeps old⟩
    · show (σ ++ [none]).length = Nc.length
      rw [List.length_append, hlen, cn.len]
      rfl
  have stc : tn 0 ({ s3 with heap := h₁, toks := s3.toks } : Shared).heap := T.keep _ _ _ st2 fun b _ o e => old b o (old2 b o e)
  have hDf : s2.heap.objs.size ∉ fp := fun hm => by
    obtain ⟨o, e, _⟩ := T.obj _ _ st2 _ hm
    exact Nat.lt_irrefl _ (Heap.lt_size e)
  have fpc : ∀ {pins' : List (Addr × Obj)} {H' : Hp}, pins' = [] → (∀ b ∈ fp, H' b = none) → ∀ b ∈ fp, FpOk (X.inComp Nc sc cl s3 H3 fp) pins' H' b := fun {pins' H'} hp hn b hb => by
    subst hp
    exact ⟨hn b hb, (exOk b hb).1, (exOk b hb).2.2, .inl hb, fun y c e => (exOk b hb).2.1 y c (clS y c e), fun p hp => absurd (show p ∈ ([] : List (Addr × Obj)) from hp) (by simp)⟩
  have hg : PG (X.inComp Nc sc cl s3 H3 fp) (.Name x px) (gName σ.length) := pg_name (X := X.inComp Nc sc cl s3 H3 fp) cn.nd (by show Nc[σ.length]? = some x; rw [hlen]; exact cn.last) (.inl ownLoc) (.inr ownLoc)
  have loop : ∀ s₄ : Shared, s₄ = { s3 with heap := h₁, toks := s3.toks } →
      codeAny (model X.prog X.w) X.A (.compLoop (.ListComp elt [⟨.Name x px, iter, ifs, 0⟩] sc pos) 0 (.ref it) (.ref s2.heap.objs.size) (compEnvC sc cl s3.heap.objs.size X.env))
        (fun r s' => r = .ok .next ∧ ∃ D H', (Value.ref s2.heap.objs.size) = .ref D ∧ Inv X pins σ H' s' ∧ Q (.ref D) H' ∧ CLoc X pins H' s3.heap.objs.size ∧ ∃ m, s'.heap.Ns s3.heap.objs.size m) s₄ := by
    rintro s₄ rfl
    refine codeAny_compLoop_tests (fun n s' => ∃ (i : Nat) (o : Option V) (H' : Hp) (ys : List V), Inv (X.inComp Nc sc cl s3 H3 fp) [] (σ ++ [o]) H' s' ∧ tn i s'.heap ∧ (∀ b ∈ fp, H' b = none) ∧ W i n ys H') ?_ m0 ⟨0, none, H3, [], Ic, stc, fpFree, w0⟩
    rintro n s' ⟨i, o, H', ys, I', st', fr', w'⟩
    obtain ⟨hDl, tw⟩ := turn i n ys H' w'
    rcases tw with ⟨stop, q⟩ | ⟨go, hz, step⟩
    ·
      refine thn (T.done (X.inComp Nc sc cl s3 H3 fp) rfl rfl rfl hc i [] s' _ H' _ I' (fpc rfl fr') st' stop) fun r s5 ⟨hr, I5⟩ => ?_
      subst hr
      have Ix : Inv X pins σ H' s5 := I3.call' (ch := fp) I5.os I5.base I5.hok I5.bare fun b hb => by
        obtain ⟨g0, g1, g2, g3, g4, g5⟩ := f2 b hb
        exact ⟨g3, g1, g4, g5⟩
      have hCf : H' s3.heap.objs.size = none := I5.free
      obtain ⟨m, hn, _⟩ := I5.loc
      exact ⟨rfl, s2.heap.objs.size, H', rfl, Ix, q, ⟨hCf, fun z => Nat.lt_irrefl _ (by have := I3.lt; rw [← z] at this; exact this), hCnew, hCcell, hCpin⟩, m, hn⟩
    ·
      refine thn (T.item (X.inComp Nc sc cl s3 H3 fp) rfl rfl rfl hc i [] s' _ H' _ I' (fpc rfl fr') st' go) fun r s5 ⟨u, hr, h4⟩ => ?_
      subst hr
      dsimp only
      have e0 : letOwnedTupleGo (.Name x px) (.ref it) u = pure () := rfl
      have e1 : (letOwnedTupleGo (.Name x px) (.ref it) u >>= fun _ => assign (.Name x px) (compEnvC sc cl s3.heap.objs.size X.env) u) = assign (.Name x px) (compEnvC sc cl s3.heap.objs.size X.env) u := by rw [e0, pure_bind]
      rw [← e1]
      refine wpAny_bind (thn h4 fun _ s6 ⟨xv, H5, I5, r5, y5, st5, fr5⟩ => ?_)
      have I5' := I5.pinned (fpc rfl fr5) (T.obj _ _ st5)
      have again : ∀ {H7 : Hp} {s7 : Shared} {m' : Nat} {ys' : List V}, Inv (X.inComp Nc sc cl s3 H3 fp) ([] ++ pinsAt fp s6.heap) (σ ++ [some xv]) H7 s7 → m' < n → W (i + 1) m' ys' H7 →
          ∃ m, m < n ∧ ∃ (i : Nat) (o : Option V) (H' : Hp) (ys : List V), Inv (X.inComp Nc sc cl s3 H3 fp) [] (σ ++ [o]) H' s7 ∧ tn i s7.heap ∧ (∀ b ∈ fp, H' b = none) ∧ W i m ys H' := fun {H7 s7 m' ys'} I7 hm w7 => by
        refine ⟨m', hm, i + 1, some xv, H7, ys', I7.unpinned, T.keep _ _ _ st5 fun b hb o e => (I7.pin (b, o) (List.mem_append_right _ (List.mem_append_right _ (mem_pinsAt hb e)))).1, fun b hb => ?_, w7⟩
        obtain ⟨o', e, d⟩ := T.obj _ _ st5 b hb
        exact (I7.pin (b, o') (List.mem_append_right _ (List.mem_append_right _ (mem_pinsAt hb e)))).2.1
      refine thnF (hg _ s6 _ H5 xv u (fun σ' H'' => σ' = σ ++ [some xv] ∧ H'' = H5) I5' r5 ⟨set_last, rfl⟩) fun _ s7 ⟨σ7, H7, I7, e7, e7'⟩ => ?_
      subst e7
      subst e7'
      refine thnF (ht cl s3 H3 fp _ s7 _ _ _ I7 (step xv _ y5)) fun b s8 ⟨H8, I8, q8⟩ => ?_
      cases b with
      | false =>
        rw [if_neg Bool.false_ne_true] at q8 ⊢
        obtain ⟨m', hm, w8⟩ := q8
        exact again I8 hm w8
      | true =>
        rw [if_pos rfl] at q8 ⊢
        refine thnF (he cl s3 H3 fp _ s8 _ H8 _ I8 q8) fun y s9 ⟨yv, H9, I9, r9, hD9, m', hm, w9⟩ => ?_
        refine thnF (mt_append _ s9 _ H9 (.ref s2.heap.objs.size) [yv] (.ref s2.heap.objs.size) [y] (fun v H => v = .non ∧ H = upd H9 s2.heap.objs.size (.lst (ys ++ [yv]))) I9 rfl (.cons r9 .nil) ⟨_, ys, yv, rfl, rfl, hD9, hz, rfl, rfl⟩) fun _ s10 ⟨v10, H10, I10, r10, e10, e11⟩ => ?_
        subst e11
        exact again I10 hm w9
  exact codeAny_compStart_list (loop _ rfl) (T.self _ 0 _ _ _ stc (loop _ rfl))
theorem comp_has (I : ∀ y, (X.env.kindOf y = some .cell ∨ X.env.kindOf y = some .free) → ∃ c, X.env.cells.lookup y = some c) (hE : X.env.scope = fsc) (cn : CompN N Nc x sc fsc) : ∀ y ∈ sc.names, y.2 = .free → ∃ c, X.env.cells.lookup y.1 = some c := fun y hy hf => by
  refine I y.1 ?_
  show X.env.scope.names.lookup y.1 = some .cell ∨ X.env.scope.names.lookup y.1 = some .free
  rw [hE]
  exact cn.fr y hy hf
theorem pe_comp (hE : X.env.scope = fsc) (hXN : X.N = N) (cn : CompN N Nc x sc fsc) (hc : X.calm = true) (hi : PI X (.Name x px) iter wi)
    (ht : ∀ cl s H ex, PIfs (X.inComp Nc sc cl s H ex) ifs tt) (he : ∀ cl s H ex, PE (X.inComp Nc sc cl s H ex) elt te)
    (hs : ∀ v, foldedSetIterable iter X.env v = pure v := by intro _; rfl) : PE X (.ListComp elt [⟨.Name x px, iter, ifs, 0⟩] sc pos) (tComp wi tt te) := by
  intro pins s σ H Q I h
  obtain ⟨cl, hcl, clS, clH⟩ := closure_ok (env := X.env) (sc := sc) (comp_has I.ok.has hE cn)
  rw [eval_ListComp]
  refine wpAny_comprehension_free (use := none) rfl hs hcl cn.kind cn.nm (thn (hi pins s σ H _ I h) fun v s1 h1 => thn h1 fun itv s2 h2 => ?_)
  obtain ⟨it, fp, tn, J, H2, rfl, I2, T, st2, f2, h2⟩ := h2
  refine thn (comp_core (pos := pos) (iter := iter) hE hXN cn hc ht he clS clH I2 T st2 f2 h2) fun acc s3 h3 => thn h3 fun cenv s4 h4 => codeAny_mono h4 fun r s' h5 => ?_
  obtain ⟨rfl, D, H', rfl, I', q, cloc, m, hn⟩ := h5
  exact ⟨m, hn, fun h' k => ⟨.ref D, H', I'.sameBut cloc k, rfl, q⟩⟩
theorem ps_setC {j : Nat} {y : Str} {py spos : Pos} (hE : X.env.scope = fsc) (hXN : X.N = N) (cn : CompN N Nc x sc fsc) (hc : X.calm = true) (hnd : X.N.Nodup) (hj : X.N[j]? = some y) (hy : X.env.scope.names.lookup y = some .local) (hi : PI X (.Name x px) iter wi)
    (ht : ∀ cl s H ex, PIfs (X.inComp Nc sc cl s H ex) ifs tt) (he : ∀ cl s H ex, PE (X.inComp Nc sc cl s H ex) elt te)
    (hsw : swapsWith (.ListComp elt [⟨.Name x px, iter, ifs, 0⟩] sc pos) (some (.Name y py)) spos.line X.env = pure true)
    (hs : ∀ v, foldedSetIterable iter X.env v = pure v := by intro _; rfl) : PS X (.Assign [.Name y py] (.ListComp elt [⟨.Name x px, iter, ifs, 0⟩] sc pos) spos) (tAsg (tComp wi tt te) (gName j)) := by
  intro pins s σ H D I h
  obtain ⟨cl, hcl, clS, clH⟩ := closure_ok (env := X.env) (sc := sc) (comp_has I.ok.has hE cn)
  rw [exec_Assign_Name_used _ _ _ _ hsw]
  refine wpAny_bind (wpAny_standAt (wpAny_bind ?_))
  show wpAny _ X.A (do let _ ← comprehension (.ListComp elt [⟨.Name x px, iter, ifs, 0⟩] sc pos) sc X.env _ (newList []) false (eval iter X.env) (some (assign (.Name y py) X.env))) _ _ s
  refine wpAny_bind (thn (wpAny_comprehension_free (Q := fun _ s' => SP X pins D .next s') rfl hs hcl cn.kind cn.nm (thn (hi pins s σ H _ I h) fun v s1 h1 => thn h1 fun itv s2 h2 => ?_)) fun _ s' hq => wpAny_pure (wpAny_pure hq))
  obtain ⟨it, fp, tn, J, H2, rfl, I2, T, st2, f2, h2⟩ := h2
  refine thn (comp_core (pos := pos) (iter := iter) (Q := fun x H1 => gName j x σ H1 D.nx) hE hXN cn hc ht he clS clH I2 T st2 f2 h2) fun acc s3 h3 => thn h3 fun cenv s4 h4 => codeAny_mono h4 fun r s' h5 => ?_
  obtain ⟨rfl, D', H', rfl, I', q, cloc, m, hn⟩ := h5
  refine wpAny_assign_Name (store_ok2 (v := .ref D') I' hnd hj (.inl hy) rfl (fun s6 I6 sb => ?_) (.inr hy))
  obtain ⟨a, k, ha⟩ := sb
  refine ⟨m, hn.sameBut k (fun z => ?_), fun h' k' => ⟨_, H', I6.sameBut cloc k', q⟩⟩
  rcases ha with ha | ha
  · exact cloc.ne (z.trans ha)
  · exact cloc.cells _ _ ha z.symm
end
theorem comp_range {lo : Int} {n : Nat} {tt : TT} {te : TE} {σ : St} {H1 : Hp} {Q : Addr → Hp → Prop} (hn : n ≤ sizeLine) (Pv : Addr → Nat → List V → Hp → Prop)
    (h0 : ∀ D, H1 D = none → Pv D 0 [] (upd H1 D (.lst []))) (hD : ∀ D i ys H, Pv D i ys H → H D = some (.lst ys) ∧ ys.length ≤ i)
    (hs : ∀ D i ys H (K1 : VK) (K2 : Hp → Prop), H1 D = none → i < n → Pv D i ys H → (∀ y H5, H5 D = some (.lst ys) → Pv D (i + 1) (ys ++ [y]) (upd H5 D (.lst (ys ++ [y]))) → K1 y H5) → (∀ H4, Pv D (i + 1) ys H4 → K2 H4) →
      tt (σ ++ [some (.int (lo + i))]) H fun b H4 => if b = true then te (σ ++ [some (.int (lo + i))]) H4 K1 else K2 H4)
    (hd : ∀ D ys H, H1 D = none → Pv D n ys H → Q D H) :
    ∀ D, H1 D = none → ∃ W : Nat → Nat → List V → Hp → Prop, (∃ m, W 0 m [] (upd H1 D (.lst []))) ∧ ∀ i m ys H2, W i m ys H2 →
      H2 D = some (.lst ys) ∧ (((Itr lo n).stop i H2 ∧ Q D H2) ∨ ((Itr lo n).go i H2 ∧ ys.length < sizeLine ∧ ∀ x H3, (Itr lo n).yld i H2 x H3 → tt (σ ++ [some x]) H3 fun b H4 => if b = true then te (σ ++ [some x]) H4 fun y H5 => H5 D = some (.lst ys) ∧ ∃ m', m' < m ∧ W (i + 1) m' (ys ++ [y]) (upd H5 D (.lst (ys ++ [y])))
        else ∃ m', m' < m ∧ W (i + 1) m' ys H4)) := by
  intro D hDn
  refine ⟨fun i m ys H => m = n - i ∧ i ≤ n ∧ Pv D i ys H, ⟨n, rfl, Nat.zero_le _, h0 D hDn⟩, ?_⟩
  rintro i m ys H2 ⟨rfl, hi, p⟩
  obtain ⟨e, l⟩ := hD D i ys H2 p
  refine ⟨e, ?_⟩
  by_cases hlt : i < n
  · refine .inr ⟨hlt, Nat.lt_of_le_of_lt l (Nat.lt_of_lt_of_le hlt hn), fun x H3 y => ?_⟩
    obtain ⟨e1, e2⟩ := y
    subst e1 e2
    exact hs D i ys _ _ _ hDn hlt p (fun y H5 h5 p5 => ⟨h5, n - (i + 1), by omega, rfl, hlt, p5⟩) fun H4 p4 => ⟨n - (i + 1), by omega, rfl, hlt, p4⟩
  · have ei : i = n := by omega
    subst ei
    exact .inl ⟨Nat.le_refl _, hd D ys H2 hDn p⟩
theorem comp_list {K : PySem.W.Frag} {a : Addr} {xs : List V} {tt : TT} {te : TE} {σ : St} {H1 : Hp} {Q : Addr → Hp → Prop} (hn : xs.length ≤ sizeLine) (Pv : Addr → Nat → List V → Hp → Prop)
    (h0 : ∀ D, H1 D = none → Pv D 0 [] (upd H1 D (.lst []))) (hD : ∀ D i ys H, Pv D i ys H → H D = some (.lst ys) ∧ ys.length ≤ i) (hl : ∀ D i ys H, H1 D = none → Pv D i ys H → SqL K H a xs)
    (hs : ∀ D i x ys H (K1 : VK) (K2 : Hp → Prop), H1 D = none → xs[i]? = some x → Pv D i ys H → (∀ y H5, H5 D = some (.lst ys) → Pv D (i + 1) (ys ++ [y]) (upd H5 D (.lst (ys ++ [y]))) → K1 y H5) → (∀ H4, Pv D (i + 1) ys H4 → K2 H4) →
      tt (σ ++ [some x]) H fun b H4 => if b = true then te (σ ++ [some x]) H4 K1 else K2 H4)
    (hd : ∀ D ys H, H1 D = none → Pv D xs.length ys H → Q D H) :
    ∀ D, H1 D = none → ∃ W : Nat → Nat → List V → Hp → Prop, (∃ m, W 0 m [] (upd H1 D (.lst []))) ∧ ∀ i m ys H2, W i m ys H2 →
      H2 D = some (.lst ys) ∧ (((Itl K a).stop i H2 ∧ Q D H2) ∨ ((Itl K a).go i H2 ∧ ys.length < sizeLine ∧ ∀ x H3, (Itl K a).yld i H2 x H3 → tt (σ ++ [some x]) H3 fun b H4 => if b = true then te (σ ++ [some x]) H4 fun y H5 => H5 D = some (.lst ys) ∧ ∃ m', m' < m ∧ W (i + 1) m' (ys ++ [y]) (upd H5 D (.lst (ys ++ [y])))
        else ∃ m', m' < m ∧ W (i + 1) m' ys H4)) := by
  intro D hDn
  refine ⟨fun i m ys H => m = xs.length - i ∧ i ≤ xs.length ∧ Pv D i ys H, ⟨xs.length, rfl, Nat.zero_le _, h0 D hDn⟩, ?_⟩
  rintro i m ys H2 ⟨rfl, hi, p⟩
  obtain ⟨e, l⟩ := hD D i ys H2 p
  have q := hl D i ys H2 hDn p
  refine ⟨e, ?_⟩
  by_cases hlt : i < xs.length
  · refine .inr ⟨⟨xs, xs[i], q, by simp [hlt]⟩, Nat.lt_of_le_of_lt l (Nat.lt_of_lt_of_le hlt hn), fun x H3 y => ?_⟩
    obtain ⟨e1, y⟩ := y
    subst e1
    exact hs D i x ys _ _ _ hDn (y xs q) p (fun y H5 h5 p5 => ⟨h5, xs.length - (i + 1), by omega, rfl, hlt, p5⟩) fun H4 p4 => ⟨xs.length - (i + 1), by omega, rfl, hlt, p4⟩
  · have ei : i = xs.length := by omega
    subst ei
    exact .inl ⟨⟨xs, q, Nat.le_refl _⟩, hd D ys H2 hDn p⟩
section
variable {X : Cx}
theorem ix_listK (K : PySem.W.Frag) (h : X.K = K := by rfl) : IxR X (rIxL K) := by subst h; exact ix_list
end
end L2
namespace L2
open PySem PySem.Spec PyProof.Rows
section
variable {X : Cx}
def rEqL (K : PySem.W.Frag) : R2 := fun x y H Q => ∃ (a b : Addr) (ns ms : List Int), x = .ref a ∧ y = .ref b ∧ SqL K H a (ns.map V.int) ∧ SqL K H b (ms.map V.int) ∧ Q (.bl (decide (ns = ms))) H
def rNeL (K : PySem.W.Frag) : R2 := fun x y H Q => ∃ (a b : Addr) (ns ms : List Int), x = .ref a ∧ y = .ref b ∧ SqL K H a (ns.map V.int) ∧ SqL K H b (ms.map V.int) ∧ Q (.bl (!decide (ns = ms))) H
theorem op_eqL (hu : X.A.units + 64 < cLine) : OpR X (compareOp .Eq) (rEqL X.K) := by
  intro pins s σ H x y v u Q I rx ry h
  obtain ⟨a, b, ns, ms, rfl, rfl, ha, hb, q⟩ := h
  cases rx
  cases ry
  obtain ⟨its, rv, ht, _⟩ := I.list ha
  obtain ⟨its2, rv2, ht2, _⟩ := I.list hb
  exact PySem.W.eq_intsK ht.isList (intsAre_of rv) ht2.isList (intsAre_of rv2) hu ⟨.bl _, H, I, rfl, q⟩
theorem op_neL (hu : X.A.units + 64 < cLine) : OpR X (compareOp .NotEq) (rNeL X.K) := by
  intro pins s σ H x y v u Q I rx ry h
  obtain ⟨a, b, ns, ms, rfl, rfl, ha, hb, q⟩ := h
  cases rx
  cases ry
  obtain ⟨its, rv, ht, _⟩ := I.list ha
  obtain ⟨its2, rv2, ht2, _⟩ := I.list hb
  exact PySem.W.ne_intsK ht.isList (intsAre_of rv) ht2.isList (intsAre_of rv2) hu ⟨.bl _, H, I, rfl, q⟩
theorem call_sum (hc : X.calm = true) : CallR X (.builtin "sum") (fun xs H Q => ∃ (p : Addr) (ns : List Int), xs = [.ref p] ∧ SqL X.K H p (ns.map V.int) ∧ Q (.int ns.sum) H) := by
  intro pins s σ H xs us Q I rv h
  obtain ⟨p, ns, rfl, hS, q⟩ := h
  obtain ⟨u, rfl, r⟩ := vals1 rv
  cases r
  obtain ⟨its, rv, pl, hz⟩ := I.list hS
  have hi := intsAre_of rv
  obtain ⟨xs, e⟩ := hi.allInts.items
  have en : xs.toList.map (·.1) = ns := by
    have := nums_intItems xs
    rw [← e, show its.toArray.toList = its from rfl, hi.numsOf] at this
    exact this.symm
  refine sum_intListG (I.ok.hd hc) (by rw [← e]; exact pl.isList) fun h' tk t' hk => ?_
  rw [preSum_eq, List.take_of_length_le (by simp), en]
  exact ⟨.int ns.sum, H, I.kept hk, ⟨_, rfl⟩, q⟩
theorem mt_bits : MtR X "int.bit_length" (fun x xs H Q => ∃ i : Int, x = .int i ∧ xs = [] ∧ Q (.int (Builtin.Int.intBits i : Nat)) H) := by
  intro pins s σ H x xs v us Q I rx rv h
  obtain ⟨i, rfl, rfl, q⟩ := h
  obtain ⟨t, rfl⟩ := rx
  cases rv
  exact call_int_bit_length ⟨.int _, H, I.tok _, ⟨_, rfl⟩, q⟩
end
end L2
namespace L2
open PySem PySem.Spec PyProof.Rows
section
variable {M : Model} {A : Around} {E : Value → Shared → Prop} {s : Shared} {env : Env} {outer : List Env} {L e : Addr} {base : Heap}
end
end L2
namespace L2
open PySem PySem.Spec PyProof.Rows
section
variable {X : Cx} {pins : List (Addr × Obj)} {σ : St} {H : Hp} {s : Shared} {e : Addr} {cls : Value} {od : Option Addr}
end
section
variable {X : Cx} {pins : List (Addr × Obj)} {σ : St} {H : Hp} {s s' : Shared} {E : XK} {ev : Value}
end
section
variable {X : Cx} {W : St → XK} {k : Nat} {f : Addr} {fd : FuncData} {ps : List Str} {sp : Sp} {dvs : List V} {ds : List Value} {x : Str} {p pos : Pos} {e : Expr} {es : List Expr} {t : TA}
end
end L2
namespace L2
open PySem PySem.Spec PyProof.Rows
section
variable {X : Cx} {W : St → XK} {C : Addr} {x : Str} {p cpos pos : Pos} {e : Expr} {es : List Expr} {t : TA}
end
section
variable {X : Cx} {pins : List (Addr × Obj)} {σ : St} {H : Hp} {s : Shared} {e : Addr} {cls : Value} {od : Option Addr}
end
section
variable {X : Cx} {pins : List (Addr × Obj)} {σ : St} {H : Hp} {s : Shared} {e C : Addr} {cls : Value} {od : Option Addr} {x n : Str} {i : Nat} {np pos : Pos} {b₀ : Stmt} {suite : List Stmt} {rest : List ExceptHandler} {ts : TS} {tr : TH}
end
end L2
namespace L2
open PySem PySem.Spec PyProof.Rows
section
variable {prog : Program} {w : World} {A : Around} {E : Value → Shared → Prop} {s : Shared} {K : PySem.W.Frag} {a C : Addr} {o : Obj} {od : Option Obj} {name : Str} {tk : Tok}
end
section
variable {X : Cx}
end
end L2
namespace L2
open PySem PySem.Spec PyProof.Rows
section
variable {X : Cx}
end
section
variable {K : PySem.W.Frag} {H H' : Hp} {x : V} {b : Bool}
end
section
variable {K : PySem.W.Frag} {A B : Addr}
end
end L2
namespace L2
open PySem PySem.Spec PyProof.Rows
end L2
namespace L2
open PySem PySem.Spec PyProof.Rows
section
variable {prog : Program} {w : World} {A : Around} {E : Value → Shared → Prop} {s : Shared} {K : PySem.W.Frag} {C P f x : Addr} {ox : Obj} {od : Option Obj} {name : Str} {v : Value}
end
end L2
namespace L2
open PySem PySem.Spec PyProof.Rows
section
variable {prog : Program} {w : World} {A : Around} {E : Value → Shared → Prop} {h : Heap} {g : Array GenState} {d : Drawn} {t : Nat} {os : OsState}
variable {nm q : Str} {C N : Addr} {bs bm : List Value} {hd : Bool} {sn : List Str} {sub : List Value} {ab : Bool} {col : Option Bool} {dd : Option Addr} {k0 k1 k2 k3 k5 : Option Value}
end
section
variable {X : Cx} {W : St → XK} {C P fi : Addr} {k : Nat} {fd : FuncData} {ps ns : List Str} {x : Str} {p cpos pos : Pos} {e : Expr} {es : List Expr} {t : TA}
end
end L2
namespace L2
open PySem PySem.Spec PyProof.Rows
mutual
inductive Rep (K : PySem.W.Frag) (H : Hp) : V → PyData → Prop
  | non : Rep K H .non .none
  | bl (b : Bool) : Rep K H (.bl b) (.bool b)
  | int (i : Int) : Rep K H (.int i) (.int i)
  | str (x : Str) : Rep K H (.str x) (.str x)
  | lst {a : Addr} {xs : List V} {ds : List PyData} : SqL K H a xs → Reps K H xs ds → Rep K H (.ref a) (.list ds)
  | tup {a : Addr} {xs : List V} {ds : List PyData} : SqT K H a xs → Reps K H xs ds → Rep K H (.ref a) (.tuple ds)
inductive Reps (K : PySem.W.Frag) (H : Hp) : List V → List PyData → Prop
  | nil : Reps K H [] []
  | cons {x : V} {xs : List V} {d : PyData} {ds : List PyData} : Rep K H x d → Reps K H xs ds → Reps K H (x :: xs) (d :: ds)
end
section
variable {K : PySem.W.Frag} {H H' : Hp}
mutual
theorem Rep.same (e : Same H H') : ∀ {x : V} {d : PyData}, Rep K H x d → Rep K H' x d
  | _, _, .non => .non
  | _, _, .bl b => .bl b
  | _, _, .int i => .int i
  | _, _, .str x => .str x
  | _, _, .lst h r => .lst (e.seq h) (Reps.same e r)
  | _, _, .tup h r => .tup (by
      rcases h with (h | ⟨o, h⟩) | h
      · exact .inl (.inl (e _ _ h))
      · exact .inl (.inr ⟨o, e _ _ h⟩)
      · exact .inr h) (Reps.same e r)
theorem Reps.same (e : Same H H') : ∀ {xs : List V} {ds : List PyData}, Reps K H xs ds → Reps K H' xs ds
  | _, _, .nil => .nil
  | _, _, .cons r t => .cons (Rep.same e r) (Reps.same e t)
end
theorem Reps.ints : ∀ (ns : List Int), Reps K H (ns.map V.int) (ns.map PyData.int)
  | [] => .nil
  | n :: ns => .cons (.int n) (Reps.ints ns)
end
section
variable {X : Cx} {pins : List (Addr × Obj)} {σ : St} {H : Hp} {s : Shared}
mutual
theorem Inv.reads (I : Inv X pins σ H s) : ∀ {x : V} {d : PyData}, Rep X.K H x d → ∀ {v : Value}, RelV x v → ∃ as, Reads s.heap v d as
  | _, _, .non, v, r => by cases (show v = Value.none from r); exact ⟨_, .none⟩
  | _, _, .bl b, v, r => by cases (show v = Value.bool b from r); exact ⟨_, .bool b⟩
  | _, _, .int i, v, r => by obtain ⟨t, e⟩ := (show ∃ t, v = Value.int i t from r); cases e; exact ⟨_, .int i t⟩
  | _, _, .str x, v, r => by obtain ⟨t, e⟩ := (show ∃ t, v = Value.str x t from r); cases e; exact ⟨_, .str x t⟩
  | _, _, .lst (a := a) h rs, v, r => by
    cases (show v = Value.ref a from r)
    obtain ⟨its, rv, ⟨o, n, e1, e2, _, e4⟩, _⟩ := I.list h
    obtain ⟨as, q⟩ := Inv.readsAll I rs rv
    exact ⟨_, .list e1 e2 e4 q⟩
  | _, _, .tup (a := a) h rs, v, r => by
    cases (show v = Value.ref a from r)
    obtain ⟨its, rv, ⟨o, e1, e2, n, e4⟩, _⟩ := I.tuple h
    obtain ⟨as, q⟩ := Inv.readsAll I rs rv
    exact ⟨_, .tuple e1 e2 e4 q⟩
theorem Inv.readsAll (I : Inv X pins σ H s) : ∀ {xs : List V} {ds : List PyData}, Reps X.K H xs ds → ∀ {vs : List Value}, Vals xs vs → ∃ as, ReadsAll s.heap vs ds as
  | _, _, .nil, _, .nil => ⟨_, .nil⟩
  | _, _, .cons r t, _, .cons q u => by
    obtain ⟨a1, h1⟩ := Inv.reads I r q
    obtain ⟨a2, h2⟩ := Inv.readsAll I t u
    exact ⟨_, .cons h1 h2⟩
end
def rNeD (K : PySem.W.Frag) : R2 := fun x y H Q => ∃ d e, Rep K H x d ∧ Rep K H y e ∧ PySem.SeqAt.shaped d = true ∧ PySem.SeqAt.shaped e = true ∧ Q (.bl (!PyData.eqv d e)) H
theorem op_neD {K : PySem.W.Frag} (hu : X.A.units + 64 < cLine) (hK : X.K = K := by rfl) : OpR X (compareOp .NotEq) (rNeD K) := by
  subst hK
  intro pins s σ H x y v u Q I rx ry h
  obtain ⟨d, e, hx, hy, s1, s2, q⟩ := h
  obtain ⟨as, r1⟩ := I.reads hx rx
  obtain ⟨bs, r2⟩ := I.reads hy ry
  exact ne_dataH r1 r2 s1 s2 hu ⟨.bl _, H, I, rfl, q⟩
end
end L2
namespace L2
open PySem PySem.W PySem.Spec PyProof.Rows
section
variable {O : KeyOrd} {ky : Nat → O.α} {n : Nat} {cmp : Nat → Nat → (Bool → Shared → Prop) → Shared → Prop} {J : Shared → Prop}
end
end L2
namespace L2
open PySem PySem.W PySem.Spec PyProof.Rows
section
variable {prog : Program} {w : World} {A : Around} {E : Value → Shared → Prop} {s : Shared} {Q : Bool → Shared → Prop}
end
section
variable {X : Cx}
end
end L2
namespace L2
open PySem PySem.W PySem.Spec PyProof.Rows
section
variable {prog : Program} {w : World} {A : Around} {E : Value → Shared → Prop} {s : Shared} {d : Addr} {es : Array DictEntry} {ep : Nat}
end
section
variable {X : Cx}
theorem call_max1 (hc : X.calm = true) : CallR X (.builtin "max") (fun xs H Q => ∃ (a : Addr) (ns : List Int), xs = [.ref a] ∧ SqL X.K H a (ns.map V.int) ∧ 0 < ns.length ∧ ∀ M, M ∈ ns → (∀ z ∈ ns, z ≤ M) → Q (.int M) H) := by
  intro pins s σ H xs us Q I r h
  obtain ⟨a, ns, rfl, hq, hne, q⟩ := h
  obtain ⟨u, rfl, rx⟩ := vals1 r
  cases rx
  obtain ⟨its, rv, pl, hz⟩ := I.list hq
  have hi := intsAre_of rv
  obtain ⟨xs, e⟩ := hi.allInts.items
  have hns : ns = xs.toList.map (·.1) := by
    rw [← hi.numsOf, ← nums_intItems, ← e]
  have hsz : 0 < xs.size := by
    have h3 := hne; rw [hns, List.length_map, Array.length_toList] at h3; exact h3
  have hl := pl.isList
  rw [e] at hl
  refine max_intList (I.ok.hd hc) hl hsz fun v h' tk hv hk => ?_
  obtain ⟨t, rfl⟩ := intItems_at hv
  obtain ⟨_, h2⟩ := argBest_gt (numAt xs) (xs.size - 1)
  refine ⟨.int _, H, I.kept hk, ⟨t, rfl⟩, q _ ?_ fun z m => ?_⟩
  · rw [hns, numAt_eq]; exact getD_mem (by rw [List.length_map, Array.length_toList]; omega)
  · rw [hns] at m
    obtain ⟨j, hj, rfl⟩ := mem_getD m
    rw [List.length_map, Array.length_toList] at hj
    rw [← numAt_eq]; exact h2 j (by omega)
end
end L2
namespace L2
open PySem
def Ris (xs : Array Nat) : Prop := ∀ i j, i < j → j < xs.size → xs.getD i 0 < xs.getD j 0
theorem getD_any {xs : Array Nat} {i : Nat} (h : i < xs.size) (a b : Nat) : xs.getD i a = xs.getD i b := by
  simp [Array.getD, h]
theorem below_go {xs : Array Nat} (hr : Ris xs) (j : Nat) : ∀ (f lo hi : Nat), lo ≤ hi → hi ≤ xs.size → hi - lo ≤ f → (∀ i, i < lo → xs.getD i 0 < j) → (∀ i, hi ≤ i → i < xs.size → j ≤ xs.getD i 0) →
    SetTable.below.go xs j f lo hi ≤ xs.size ∧ (∀ i, i < SetTable.below.go xs j f lo hi → xs.getD i 0 < j) ∧ ∀ i, SetTable.below.go xs j f lo hi ≤ i → i < xs.size → j ≤ xs.getD i 0
  | 0, lo, hi, h1, h2, h3, h4, h5 => by
    have : lo = hi := by omega
    subst this
    exact ⟨h2, h4, h5⟩
  | f + 1, lo, hi, h1, h2, h3, h4, h5 => by
    unfold SetTable.below.go
    by_cases c : lo < hi
    · rw [if_pos c]
      dsimp only
      have hm : (lo + hi) / 2 < xs.size := by omega
      by_cases c2 : xs.getD ((lo + hi) / 2) j < j
      · rw [if_pos c2]
        refine below_go hr j f _ hi (by omega) h2 (by omega) (fun i hi' => ?_) h5
        rw [getD_any hm j 0] at c2
        by_cases e : i = (lo + hi) / 2
        · rw [e]; exact c2
        · exact Nat.lt_trans (hr i ((lo + hi) / 2) (by omega) hm) c2
      · rw [if_neg c2]
        refine below_go hr j f lo _ (by omega) (by omega) (by omega) h4 (fun i a b => ?_)
        rw [getD_any hm j 0] at c2
        by_cases e : i = (lo + hi) / 2
        · rw [e]; omega
        · have := hr ((lo + hi) / 2) i (by omega) b
          omega
    · rw [if_neg c]
      have : lo = hi := by omega
      subst this
      exact ⟨h2, h4, h5⟩
theorem below_ok {xs : Array Nat} (hr : Ris xs) (j : Nat) : SetTable.below xs j ≤ xs.size ∧ (∀ i, i < SetTable.below xs j → xs.getD i 0 < j) ∧ ∀ i, SetTable.below xs j ≤ i → i < xs.size → j ≤ xs.getD i 0 :=
  below_go hr j xs.size 0 xs.size (Nat.zero_le _) (Nat.le_refl _) (by omega) (fun i h => absurd h (Nat.not_lt_zero _)) (fun i a b => absurd a (by omega))
theorem below_zero {xs : Array Nat} (hr : Ris xs) : SetTable.below xs 0 = 0 := by
  obtain ⟨_, h, _⟩ := below_ok hr 0
  cases e : SetTable.below xs 0 with
  | zero => rfl
  | succ n => exact absurd (h n (by omega)) (Nat.not_lt_zero _)
theorem below_next {xs : Array Nat} (hr : Ris xs) {i : Nat} (hi : i < xs.size) : SetTable.below xs (xs.getD i 0 + 1) = i + 1 := by
  obtain ⟨h0, h1, h2⟩ := below_ok hr (xs.getD i 0 + 1)
  have a : ¬ SetTable.below xs (xs.getD i 0 + 1) ≤ i := fun c => by
    have := h2 i c hi
    omega
  have b : ¬ i + 1 < SetTable.below xs (xs.getD i 0 + 1) := fun c => by
    have p := h1 (i + 1) c
    have q := hr i (i + 1) (by omega) (by omega)
    omega
  omega
theorem insert_size {α : Type} {xs : Array α} {p : Nat} (hp : p ≤ xs.size) (x : α) : (SetTable.insertAt xs p x).size = xs.size + 1 := by
  unfold SetTable.insertAt
  simp
  omega
theorem insert_getD {xs : Array Nat} {p : Nat} (hp : p ≤ xs.size) (x i : Nat) : (SetTable.insertAt xs p x).getD i 0 = if i < p then xs.getD i 0 else if i = p then x else xs.getD (i - 1) 0 := by
  unfold SetTable.insertAt
  rw [Array.getD_eq_getD_getElem?, Array.getElem?_append]
  by_cases c : i < p
  · rw [if_pos c, if_pos (by simp; omega), Array.getElem?_push]
    rw [if_neg (by simp; omega), Array.getElem?_extract]
    rw [if_pos (by omega), Array.getD_eq_getD_getElem?]
    simp
  · rw [if_neg c]
    by_cases c2 : i = p
    · subst c2
      rw [if_pos rfl, if_pos (by simp; omega), Array.getElem?_push, if_pos (by simp; omega)]
      rfl
    · rw [if_neg c2, if_neg (by simp; omega), Array.getElem?_extract, Array.getD_eq_getD_getElem?]
      have e : ((xs.extract 0 p).push x).size = p + 1 := by simp; omega
      rw [e]
      by_cases c3 : i - (p + 1) < min xs.size xs.size - p
      · rw [if_pos c3]
        congr 2
        omega
      · rw [if_neg c3, Array.getElem?_eq_none (by omega)]
theorem Ris.put {xs : Array Nat} (hr : Ris xs) {j : Nat} (hj : xs[SetTable.below xs j]? ≠ some j) : Ris (SetTable.insertAt xs (SetTable.below xs j) j) := by
  obtain ⟨h0, h1, h2⟩ := below_ok hr j
  intro a b hab hb
  rw [insert_size h0] at hb
  rw [insert_getD h0, insert_getD h0]
  generalize hp : SetTable.below xs j = p at *
  have gt : ∀ i, p ≤ i → i < xs.size → j < xs.getD i 0 := fun i a b => by
    have l := h2 i a b
    by_cases e : i = p
    · subst e
      have : xs.getD i 0 ≠ j := fun z => hj (by simp [Array.getD, b] at z; simp [b, z])
      omega
    · have := h2 p (Nat.le_refl _) (by omega)
      have := hr p i (by omega) b
      omega
  by_cases ca : a < p
  · rw [if_pos ca]
    by_cases cb : b < p
    · rw [if_pos cb]
      exact hr a b hab (by omega)
    · rw [if_neg cb]
      by_cases cb2 : b = p
      · rw [if_pos cb2]
        exact h1 a ca
      · rw [if_neg cb2]
        exact hr a (b - 1) (by omega) (by omega)
  · rw [if_neg ca]
    by_cases ca2 : a = p
    · rw [if_pos ca2, if_neg (show ¬ b < p by omega), if_neg (show ¬ b = p by omega)]
      exact gt (b - 1) (by omega) (by omega)
    · rw [if_neg ca2, if_neg (show ¬ b < p by omega), if_neg (show ¬ b = p by omega)]
      exact hr (a - 1) (b - 1) (by omega) (by omega)
theorem ris_range (n : Nat) : Ris (Array.range n) := fun i j hij hj => by
  have hj' : j < n := by simpa using hj
  have hi' : i < n := by omega
  simp [Array.getD, hj', hi']
  exact hij
theorem ris_of_pairwise {l : List Nat} (h : l.Pairwise (· < ·)) : Ris l.toArray := fun i j hij hj => by
  have hj' : j < l.length := by simpa using hj
  have hi' : i < l.length := by omega
  have := List.pairwise_iff_getElem.mp h i j hi' hj' hij
  simpa [Array.getD, hj', hi'] using this
theorem live_rising {owner : Array (Option Nat)} (n : Nat) : (((List.range n).filterMap fun j => (owner.getD j none).map (j, ·)).map (·.1)).Pairwise (· < ·) := by
  rw [List.pairwise_map, List.pairwise_filterMap]
  refine List.Pairwise.imp ?_ List.pairwise_lt_range
  intro a b hab x hx y hy
  cases e1 : owner.getD a none with
  | none => rw [e1] at hx; cases hx
  | some u =>
    cases e2 : owner.getD b none with
    | none => rw [e2] at hy; cases hy
    | some v =>
      rw [e1] at hx
      rw [e2] at hy
      cases hx
      cases hy
      exact hab
theorem laid_ok {mask finger moves : Nat} {led plain : Bool} {hashes : Array Int} {t : SetTable} {order : Array Nat} (h : SetTable.laid mask finger moves led plain hashes = some (t, order)) : Ris t.place ∧ t.led = led := by
  unfold SetTable.laid at h
  cases e : SetTable.layClean mask hashes with
  | none => rw [e] at h; cases h
  | some owner =>
    rw [e] at h
    cases h
    exact ⟨ris_of_pairwise (live_rising _), rfl⟩
theorem probe_free {t : SetTable} {f : Nat → Int} {hv : Int} : ∀ (n : Nat) (p : SetTable.Probe) {j : Nat} {du : Option Nat}, (∀ d, p.dummy = some d → t.place[SetTable.below t.place d]? ≠ some d) →
    SetTable.probe.go t f hv n p = some (.empty j du) → (∀ d, du = some d → t.place[SetTable.below t.place d]? ≠ some d) ∧ t.place[SetTable.below t.place j]? ≠ some j
  | 0, p, j, du, hd, e => by cases e
  | n + 1, p, j, du, hd, e => by
    unfold SetTable.probe.go at e
    by_cases c : t.place[SetTable.below t.place p.j]? = some p.j
    · have es : t.slot p.j = .live (SetTable.below t.place p.j) := by
        unfold SetTable.slot
        simp [c]
      rw [es] at e
      dsimp only at e
      by_cases c2 : (f (SetTable.below t.place p.j) == hv) = true
      · rw [if_pos c2] at e; cases e
      · rw [if_neg c2] at e
        refine probe_free n _ ?_ e
        unfold SetTable.advance
        by_cases c3 : p.more > 0
        · rw [if_pos c3]; exact hd
        · rw [if_neg c3]; exact hd
    · by_cases c4 : SetTable.has t.dummies p.j = true
      · have es : t.slot p.j = .dummy := by
          unfold SetTable.slot
          simp [c, c4]
        rw [es] at e
        dsimp only at e
        refine probe_free n _ ?_ e
        have k : ∀ d, some p.j = some d → t.place[SetTable.below t.place d]? ≠ some d := fun d z => by
          cases z
          exact c
        unfold SetTable.advance
        by_cases c3 : p.more > 0
        · rw [if_pos c3]; exact k
        · rw [if_neg c3]; exact k
      · have es : t.slot p.j = .empty := by
          unfold SetTable.slot
          simp [c, c4]
        rw [es] at e
        cases e
        exact ⟨hd, c⟩
theorem free_ok {t : SetTable} {hv : Int} {slot : Nat} {b : Bool} (h : t.freeSlot hv = some (slot, b)) : t.place[SetTable.below t.place slot]? ≠ some slot := by
  unfold SetTable.freeSlot SetTable.probe at h
  cases e : SetTable.probe.go t (fun _ => hv + 1) hv (10 * SetTable.turns t.mask) (t.probeStart hv) with
  | none => rw [e] at h; cases h
  | some m =>
    rw [e] at h
    cases m with
    | candidate j i nx => cases h
    | empty j du =>
      obtain ⟨a, b'⟩ := probe_free _ _ (fun d z => by cases z) e
      cases du with
      | none =>
        cases h
        exact b'
      | some d =>
        cases h
        exact a d rfl
def Walk (t : SetTable) : Prop := Ris t.place ∧ t.led = true
theorem Walk.standIn {t : SetTable} (h : Walk t) (n : Nat) : Walk (t.standIn n) := ⟨ris_range n, h.2⟩
theorem Walk.orStandIn {t : SetTable} (h : Walk t) (n : Nat) : Walk (t.orStandIn n) := by
  unfold SetTable.orStandIn
  split
  · exact h
  · exact h.standIn n
theorem Walk.lay {t : SetTable} (h : Walk t) (es : Array (Int × Value)) (hv : Int) (x : Value) : Walk (layNew t es hv x).2.1 := by
  unfold layNew
  cases e : t.freeSlot hv with
  | none => exact h.standIn _
  | some q =>
    obtain ⟨slot, b⟩ := q
    have w : Walk (t.put slot).1 := ⟨h.1.put (free_ok e), h.2⟩
    exact w.orStandIn _
theorem Walk.relay {t : SetTable} (h : Walk t) (es : Array (Int × Value)) (n : Nat) : Walk (relayAll t es n).2.1 := by
  unfold relayAll SetTable.relaid
  cases e : SetTable.laid (SetTable.sizeAbove n - 1) t.finger (t.movedTo (SetTable.sizeAbove n - 1)) t.led t.plain (es.map (·.1)) with
  | none => exact h.standIn _
  | some q =>
    obtain ⟨t', order⟩ := q
    obtain ⟨a, b⟩ := laid_ok e
    dsimp only
    split
    · exact ⟨a, b.trans h.2⟩
    · exact h.standIn _
end L2
namespace L2
open PySem PySem.W PySem.Spec PyProof.Rows
def byText (w : World) : Bool := w.params.followText "set-order"
def SetI (prog : Program) (w : World) (h : Heap) (a : Addr) (l : List Int) : Prop :=
  ∃ o es ep t ms, h.get? a = some o ∧ o.ExactSet ∧ o.data = .set es ep t ∧ ElemsOf (intKind prog w) es.toList ∧ IntsAre (es.toList.map (·.2)) ms ∧ ms.Perm l ∧ es.size < scanBound ∧ t.fits es.size = true ∧ (byText w = true ∨ Walk t)
theorem ints_perm {vs vs' : List Value} (p : vs'.Perm vs) : ∀ {ns : List Int}, IntsAre vs ns → ∃ ns', IntsAre vs' ns' ∧ ns'.Perm ns := by
  induction p with
  | nil => intro ns h; cases h; exact ⟨[], .nil, .refl _⟩
  | cons x _ ih =>
    intro ns h
    cases h with
    | cons n t h =>
      obtain ⟨ns', a, b⟩ := ih h
      exact ⟨n :: ns', .cons n t a, b.cons n⟩
  | swap x y l =>
    intro ns h
    cases h with
    | cons n t h =>
      cases h with
      | cons m u h => exact ⟨m :: n :: _, .cons m u (.cons n t h), .swap _ _ _⟩
  | trans _ _ ih1 ih2 =>
    intro ns h
    obtain ⟨n1, a1, b1⟩ := ih2 h
    obtain ⟨n2, a2, b2⟩ := ih1 a1
    exact ⟨n2, a2, b2.trans b1⟩
theorem ints_append : ∀ {vs us : List Value} {ns ms : List Int}, IntsAre vs ns → IntsAre us ms → IntsAre (vs ++ us) (ns ++ ms)
  | _, _, _, _, .nil, h => h
  | _, _, _, _, .cons n t a, h => .cons n t (ints_append a h)
theorem ints_mem : ∀ {vs : List Value} {ns : List Int}, IntsAre vs ns → ∀ {n : Int}, n ∈ ns ↔ ∃ t, Value.int n t ∈ vs
  | _, _, .nil, n => ⟨(fun h => by cases h), (fun ⟨_, h⟩ => by cases h)⟩
  | _, _, .cons m u a, n => by
    constructor
    · intro h
      rcases List.mem_cons.mp h with e | h
      · subst e
        exact ⟨u, List.mem_cons_self ..⟩
      · obtain ⟨t, ht⟩ := (ints_mem a).mp h
        exact ⟨t, List.mem_cons_of_mem _ ht⟩
    · rintro ⟨t, h⟩
      rcases List.mem_cons.mp h with e | h
      · cases e
        exact List.mem_cons_self ..
      · exact List.mem_cons_of_mem _ ((ints_mem a).mpr ⟨t, h⟩)
section
variable {prog : Program} {w : World} {A : Around} {E : Value → Shared → Prop} {s : Shared}
theorem store_get {h : Heap} {a : Addr} {o : Obj} {es : Array (Int × Value)} {ep : Nat} {t : SetTable} (ho : h.get? a = some o) (hd : o.data = .set es ep t) (es' : Array (Int × Value)) (t' : SetTable) :
    (h.update a (Obj.putSet es' t')).get? a = some { o with data := .set es' (ep + 1) t' } := by
  have := Heap.get?_update_self (Obj.putSet es' t') ho (by rw [putSet_of es' t' hd]; rfl)
  rw [putSet_of es' t' hd] at this
  exact this
theorem add_tail {g : Bool → Sem Unit} (hg : ∀ (b : Bool) (s₁ : Shared) (Q' : Unit → Shared → Prop), Q' () s₁ → wpAny (model prog w) A (g b) Q' E s₁)
    {a : Addr} {o : Obj} {es : Array (Int × Value)} {ep : Nat} {t : SetTable} (ho : s.heap.get? a = some o) (hex : o.ExactSet) (hd : o.data = .set es ep t)
    {es1 : Array (Int × Value)} {t2 : SetTable} {ms l : List Int} (hel1 : ElemsOf (intKind prog w) es1.toList) (hi : IntsAre (es1.toList.map (·.2)) ms) (hp : ms.Perm l)
    (hb1 : es1.size < scanBound) (hf2 : t2.fits es1.size = true) (hw : byText w = true ∨ Walk t2) {wasDummy : Bool} {R : Option Bool → Shared → Prop}
    (h : ∀ h', Heap.SameBut a s.heap h' → SetI prog w h' a l → R (some true) { s with heap := h' }) :
    wpAny (model prog w) A (do
        storeSet a es1 t2
        if (!wasDummy && t2.tooFull) = true then do
            g (relayAll t2 es1 (SetTable.grown es1.size)).2.2
            storeSet a (relayAll t2 es1 (SetTable.grown es1.size)).1 (relayAll t2 es1 (SetTable.grown es1.size)).2.1
            pure (some true)
          else pure (some true)) R E s := by
  refine wpAny_bind (wpAny_storeSet_of ho hd ?_ (fits_of_scanBound hb1))
  have ho1 := store_get ho hd es1 t2
  have hsb1 := Heap.SameBut.update s.heap a (Obj.putSet es1 t2)
  split
  · have pr := relayAll_perm t2 es1 (SetTable.grown es1.size)
    have fr := relayAll_fits t2 es1 (SetTable.grown es1.size)
    have wr : byText w = true ∨ Walk (relayAll t2 es1 (SetTable.grown es1.size)).2.1 := hw.imp id fun x => x.relay _ _
    generalize relayAll t2 es1 (SetTable.grown es1.size) = Rl at pr fr wr ⊢
    obtain ⟨es2, t3, gave2⟩ := Rl
    dsimp only at pr fr wr ⊢
    have hsz : es2.size = es1.size := by rw [← Array.length_toList, pr.length_eq, Array.length_toList]
    obtain ⟨ms2, i2, p2⟩ := ints_perm (pr.map (·.2)) hi
    refine wpAny_bind (hg _ _ _ ?_)
    refine wpAny_bind (wpAny_storeSet_of ho1 rfl ?_ (fits_of_scanBound (by rw [hsz]; exact hb1)))
    exact wpAny_pure (h _ (hsb1.trans (Heap.SameBut.update _ a _)) ⟨_, es2, _, t3, ms2, store_get ho1 rfl es2 t3, hex, rfl, hel1.perm pr, i2, p2.trans hp, by rw [hsz]; exact hb1, fr, wr⟩)
  · exact wpAny_pure (h _ hsb1 ⟨_, es1, _, t2, ms, ho1, hex, rfl, hel1, hi, hp, hb1, hf2, hw⟩)
theorem add_int {a : Addr} {l : List Int} {k : Int} {tk : Tok} {Q : Bool → Shared → Prop} (hS : SetI prog w s.heap a l) (hroom : l.length + 1 < scanBound)
    (h : ∀ h' b, Heap.SameBut a s.heap h' → SetI prog w h' a (step_dedup l k) → Q b { s with heap := h' }) :
    wpAny (model prog w) A (setAddHashed a (.int k tk) ((intKind prog w).hash k)) Q E s := by
  obtain ⟨o, es, ep, t, ms, ho, hex, hd, hel, hi, hp, hb, hf, hw⟩ := hS
  have hkey : (intKind prog w).is k (.int k tk) = true := intKind_is _ _ _ _
  have hsc : (Value.int k tk).scannable = true := rfl
  have hlen : es.size = l.length := by
    have := hi.length
    rw [List.length_map, Array.length_toList] at this
    rw [this, hp.length_eq]
  unfold setAddHashed setAddHashedIn
  refine wpAny_holding (wpAny_bind (wpAny_setState_of ho hd hf ?_))
  dsimp only
  rw [byScan_of hsc hb hel]
  simp only [↓reduceIte]
  unfold setAddByScan
  refine wpAny_bind ?_
  refine wpAny_bind (wpAny_rule ?_)
  refine wpAny_bind (wpAny_setScan_of hkey ho hd hf hel ?_)
  cases hr : List.findIdx? (fun e => (intKind prog w).is k e.2) es.toList with
  | some j =>
    dsimp only
    obtain ⟨hj, hpj, _⟩ := List.findIdx?_eq_some_iff_getElem.mp hr
    have mem : k ∈ l := by
      refine hp.mem_iff.mp ((ints_mem hi).mpr ?_)
      obtain ⟨t', e⟩ := Value.isInt_shape (show Value.isInt k es.toList[j].2 = true from hpj)
      exact ⟨t', List.mem_map.mpr ⟨_, List.getElem_mem hj, e⟩⟩
    have es' : step_dedup l k = l := by
      unfold step_dedup
      rw [if_pos (List.any_eq_true.mpr ⟨k, mem, by simp⟩)]
    refine wpAny_pure (wpAny_pure ?_)
    exact h s.heap _ (Heap.SameBut.refl a s.heap) ⟨o, es, ep, t, ms, ho, hex, hd, hel, hi, by rw [es']; exact hp, hb, hf, hw⟩
  | none =>
    dsimp only
    have nmem : ¬ k ∈ l := fun m => by
      obtain ⟨t', ht⟩ := (ints_mem hi).mp (hp.mem_iff.mpr m)
      obtain ⟨e, he, hv⟩ := List.mem_map.mp ht
      have := List.findIdx?_eq_none_iff.mp hr e he
      rw [hv, intKind_is] at this
      exact Bool.noConfusion this
    have es' : step_dedup l k = l ++ [k] := by
      unfold step_dedup
      rw [if_neg (by
        intro z
        obtain ⟨y, hy, ey⟩ := List.any_eq_true.mp z
        have : y = k := by simpa using ey
        exact nmem (this ▸ hy))]
    have hgw : ∀ (b : Bool) {s₁ : Shared} {Q' : Unit → Shared → Prop}, Q' () s₁ → wpAny (model prog w) A (match b with | true => rule "set.scan.the-table-gave-way" | false => pure ()) Q' E s₁ :=
      fun b s₁ Q' hq => by cases b <;> first | exact wpAny_pure hq | exact wpAny_rule hq
    have pr := layNew_perm t es ((intKind prog w).hash k) (.int k tk)
    have fr := layNew_fits t es ((intKind prog w).hash k) (.int k tk)
    have wr : byText w = true ∨ Walk (layNew t es ((intKind prog w).hash k) (.int k tk)).2.1 := hw.imp id fun x => x.lay _ _ _
    generalize layNew t es ((intKind prog w).hash k) (.int k tk) = L at pr fr wr ⊢
    obtain ⟨es1, t1, wasDummy, gave⟩ := L
    dsimp only at pr fr wr ⊢
    rw [Array.toList_push] at pr
    have hel1 : ElemsOf (intKind prog w) es1.toList := (hel.push hkey hsc).perm pr
    have hi0 : IntsAre ((es.toList ++ [((intKind prog w).hash k, Value.int k tk)]).map (·.2)) (ms ++ [k]) := by
      rw [List.map_append]
      exact ints_append hi (.cons k tk .nil)
    obtain ⟨ms1, i1, p1⟩ := ints_perm (pr.map (·.2)) hi0
    have hp1 : ms1.Perm (step_dedup l k) := by rw [es']; exact p1.trans (hp.append_right [k])
    have hb1 : es1.size < scanBound := by rw [← Array.length_toList, pr.length_eq, List.length_append, Array.length_toList, hlen]; simpa using hroom
    refine wpAny_bind (hgw _ ?_)
    split
    · refine wpAny_bind ?_
      rw [hashByValue_scannable 8 hsc]
      refine wpAny_pure ?_
      refine add_tail ?_ ho hex hd hel1 i1 hp1 hb1 ?_ ?_ ?_
      · intro b s₁ Q' hq; cases b <;> first | exact wpAny_pure hq | exact wpAny_rule hq
      · split
        · exact fr
        · exact SetTable.fits_plain_off fr
      · split
        · exact wr
        · exact wr
      · intro h' hsb hS'; dsimp only; exact wpAny_pure (h h' _ hsb hS')
    · refine wpAny_bind (wpAny_pure ?_)
      simp only [↓reduceIte]
      refine add_tail ?_ ho hex hd hel1 i1 hp1 hb1 fr wr ?_
      · intro b s₁ Q' hq; cases b <;> first | exact wpAny_pure hq | exact wpAny_rule hq
      · intro h' hsb hS'; dsimp only; exact wpAny_pure (h h' _ hsb hS')
theorem SetI.at {h h' : Heap} {a : Addr} {l : List Int} (x : SetI prog w h a l) (e : ∀ o, h.get? a = some o → h'.get? a = some o) : SetI prog w h' a l := by
  obtain ⟨o, es, ep, t, ms, ho, r⟩ := x
  exact ⟨o, es, ep, t, ms, e o ho, r⟩
end
section
variable {prog : Program} {w : World} {A : Around} {R : Result → Shared → Prop} {I : Addr} {fp wr : List Addr} {G : Array GenState → Array GenState → Prop} {n : Nat} {P : Nat → Value → Prop} {St : Nat → Shared → Prop}
theorem set_loop (W : WalksS prog w A.in1 I fp wr G n P St) (S : Addr) (hSf : S ∉ fp) (val : Nat → Int) (hval : ∀ i v, P i v → ∃ t, v = .int (val i) t) (hb : n + 1 < scanBound) :
    ∀ (k i : Nat) (s : Shared), n - i = k → i ≤ n → St i s → SetI prog w s.heap S (firstMet val i) → (∀ s', Moved (S :: wr) G s s' → SetI prog w s'.heap S (firstMet val n) → R (.ok (.ret .none)) s') →
      codeAny (model prog w) A (.builtin "set.update.loop" ⟨[.ref S, .ref I], []⟩) R s := by
  have hSw : S ∉ wr := fun h => hSf (W.sub _ h)
  have hsub : ∀ b ∈ wr, b ∈ S :: wr := fun b hb => List.mem_cons_of_mem _ hb
  intro k
  induction k with
  | zero =>
    intro i s hk hi hst hS hR
    have hin : i = n := by omega
    subst hin
    refine codeAny_builtin F.entry_set_update_loop ?_
    rw [Around.under_plainId F.plain_set_update_loop _]
    show wpAny _ A.in1 (pyNext (.ref I) >>= _) _ _ s
    refine wpAny_bind (W.done s _ _ hst fun s' hm => ?_)
    show wpAny _ A.in1 (ret Value.none) _ _ s'
    exact wpAny_pure (hR s' (hm.mono hsub) (hS.at fun o e => hm.heap S o hSw e))
  | succ k ih =>
    intro i s hk hi hst hS hR
    have hlt : i < n := by omega
    refine codeAny_builtin F.entry_set_update_loop ?_
    rw [Around.under_plainId F.plain_set_update_loop _]
    show wpAny _ A.in1 (pyNext (.ref I) >>= _) _ _ s
    refine wpAny_bind (W.item i s _ _ hlt hst fun v s' hP hst' hm => ?_)
    obtain ⟨t, rfl⟩ := hval i v hP
    have hS' := hS.at fun o e => hm.heap S o hSw e
    show wpAny _ A.in1 (holding [Value.int (val i) t] (setAdd S (.int (val i) t)) >>= _) _ _ s'
    refine wpAny_bind (wpAny_holding ?_)
    unfold setAdd
    refine wpAny_holding ?_
    refine wpAny_bind ((intKind prog w).pyHash (k := val i) (intKind_is _ _ _ _) ?_)
    have hroom : (firstMet val i).length + 1 < scanBound := by have := firstMet_length_le val i; omega
    refine add_int (s := { s' with toks := s'.toks + 1 }) hS' hroom fun h' b hsb hS2 => ?_
    have hSi : SetI prog w h' S (firstMet val (i + 1)) := by rw [firstMet_succ]; exact hS2
    refine wpAny_pure ⟨plainId_quiet F.plain_set_update_loop _, ih (i + 1) _ (by omega) hlt (W.frame _ s' _ _ hst' (Nat.le_succ _) fun b hb o e => ?_) hSi fun s'' hm'' hS'' => ?_⟩
    · rw [hsb.2 b (fun h : b = S => hSf (by rw [← h]; exact hb))]; exact e
    · refine hR s'' (Moved.trans W.gtrans ((hm.mono hsub).then_heap (Nat.le_succ _) fun b o hb e => ?_) hm'') hS''
      rw [hsb.2 b (fun h : b = S => hb (by rw [h]; exact List.mem_cons_self))]; exact e
end
section
variable {prog : Program} {w : World} {A : Around} {E : Value → Shared → Prop} {s : Shared}
abbrev newSetObj (w : World) : Obj := { cls := .type "set", dict := none, data := .set #[] 0 (.fresh 0 0 (!byText w)) }
theorem set_new (a : Value) {Q₁ : Value → Shared → Prop} (h : Q₁ (.ref s.heap.objs.size) { s with heap := s.heap.push (newSetObj w) }) :
    codeAny (model prog w) A (.call (.builtin "set.__new__") ⟨[.type "set", a], []⟩) (wants Q₁ E) s := by
  refine codeAny_of_tree ?_
  show wpAny _ A.in1 (do checkBuiltinCall "set.__new__" ⟨[.type "set", a], []⟩; again (.builtin "set.__new__" ⟨[.type "set", a], []⟩)) _ _ s
  refine wpAny_bind (wpAny_of_eq (PySem.F.newCall_set_1 a) (wpAny_pure ⟨plainId_quiet PySem.F.plain_set_new _, codeAny_builtin PySem.F.entry_set_new ?_⟩))
  rw [Around.under_plainId PySem.F.plain_set_new _]
  unfold Builtin.«set.__new__» Builtin.Frozenset.newClass
  have hsub := sub_set_self
  obtain ⟨hp, g, d, tk, os⟩ := s
  dsimp only
  wp_walk
  refine wpAny_askSetting (wpAny_pure ?_)
  dsimp only
  simp only [newObj]
  refine wpAny_bind (wpAny_alloc (wpAny_pure ?_))
  exact wpAny_pure h
theorem fresh_set {h : Heap} {a : Addr} (ho : h.get? a = some (newSetObj w)) : SetI prog w h a [] :=
  ⟨_, #[], 0, _, [], ho, ⟨rfl, rfl, rfl⟩, rfl, fun e he => by simp at he, .nil, .refl _, by decide, rfl, by
    cases e : byText w with
    | true => exact .inl rfl
    | false => exact .inr ⟨fun i j _ hj => absurd hj (by simp [SetTable.fresh]), by simp [SetTable.fresh]⟩⟩
set_option maxRecDepth 100000 in
set_option maxHeartbeats 3200000 in
theorem set_of_list {l : Addr} {items : Array Value} {ns : List Int} {Q : Value → Shared → Prop} (hh : A.handled = none) (hl : s.heap.IsList l items) (hi : IntsAre items.toList ns) (hb : items.size + 1 < scanBound)
    (h : ∀ (h' : Heap) (tk : Nat), SetI prog w h' s.heap.objs.size (firstMet (fun i => ns.getD i 0) items.size) → (∀ b o, b < s.heap.objs.size → s.heap.get? b = some o → h'.get? b = some o) → Q (.ref s.heap.objs.size) { s with heap := h', toks := tk }) :
    wpAny (model prog w) A (call (.type "set") [.ref l]) Q E s := by
  obtain ⟨c, tl, hmro⟩ := PySem.F.called_set.mro
  have hmade := PySem.F.called_set.made
  have hsub := PySem.F.called_set.sub
  refine wpAny_call (codeAny_of_tree ?_)
  show wpAny _ _ (callAny (.type "set") _) _ _ _
  refine wpAny_pure ⟨Code.quiet_builtin _ (by decide +kernel), codeAny_builtin PySem.F.entry_type_call ?_⟩
  rw [Around.under_plain (weight_type_call_type "set" [.ref l] []) rfl]
  have h1 := PySem.F.called_set.notType
  have h2 := PySem.F.called_set.canCreate
  have hct := PySem.F.typeCall_set_1 (.ref l)
  repeat (any_goals (first | assumption | wp_step))
  refine codeAny_mono (set_new (.ref l) (E := E) (Q₁ := fun obj s₁ => obj = .ref s.heap.objs.size ∧ s₁ = { s with heap := s.heap.push (newSetObj w) }) ⟨rfl, rfl⟩) fun r s₁ hr => ?_
  cases r with
  | error e => exact hr
  | ok fl =>
    cases fl with
    | ret obj =>
      obtain ⟨rfl, rfl⟩ := hr
      have hS : (s.heap.push (newSetObj w)).get? s.heap.objs.size = some (newSetObj w) := Heap.get?_push_size _ rfl
      have hT : Shared.TypeIs { s with heap := s.heap.push (newSetObj w) } (.ref s.heap.objs.size) "set" := ⟨_, hS, rfl⟩
      have hli := PySem.F.called_set.init.lookup
      have hbi := PySem.F.called_set.init.bind (.ref s.heap.objs.size)
      repeat (any_goals (first | assumption | wp_step))
      refine codeAny_mono (codeAny_call_builtin (R := wants (fun r s₂ => r = .none ∧ ∃ h' tk, s₂ = { s with heap := h', toks := tk } ∧ SetI prog w h' s.heap.objs.size (firstMet (fun i => ns.getD i 0) items.size) ∧
          (∀ b o, b < s.heap.objs.size → s.heap.get? b = some o → h'.get? b = some o)) E) PySem.F.called_set.init.plain PySem.F.entry_set_init (check_set_init_1 hT ?_)) fun r₂ s₂ hr₂ => ?_
      · obtain ⟨ol, hol, hcl, nl, hdl⟩ := hl
        obtain ⟨ocls, odict, odata, oslots⟩ := ol
        simp only at hcl hdl
        subst hcl; subst hdl
        have hol' : (s.heap.push (newSetObj w)).get? l = some { cls := .type "list", dict := odict, data := .seq items nl, slots := oslots } := Heap.get?_push_of_some _ hol
        have hsls := PySem.F.sub_list_set
        have hslf := PySem.F.sub_list_frozenset
        have hne : (Value.type "list" == Value.type "dict") = false := by decide
        have hl1 : (s.heap.push (newSetObj w)).IsList l items := ⟨_, hol', rfl, nl, rfl⟩
        unfold Builtin.«set.__init__» noKeywords Builtin.Frozenset.updateFrom
        generalize hPI : pyIter = PI
        wp_walk
        subst hPI
        refine wpAny_pyIter_list hl1 ?_
        refine wpAny_bind (wpAny_runValue ?_)
        have hlS : l < s.heap.objs.size := Heap.lt_size hol
        have hh3 : A.in1.in1.in1.handled = none := by simp [hh]
        have hneI : l ≠ (s.heap.push (newSetObj w)).objs.size := by
          rw [Heap.size_push]; exact Nat.ne_of_lt (Nat.lt_succ_of_lt hlS)
        have hSf : s.heap.objs.size ∉ [(s.heap.push (newSetObj w)).objs.size, l] := by
          rw [Heap.size_push]; simp only [List.mem_cons, List.mem_singleton, List.not_mem_nil, or_false, not_or]
          exact ⟨Nat.ne_of_lt (Nat.lt_succ_self _), Nat.ne_of_gt hlS⟩
        have hval : ∀ (i : Nat) (v : Value), items[i]? = some v → ∃ t, v = .int ((fun i => ns.getD i 0) i) t := fun i v hv =>
          IntsAre.int_at hi i v (by rw [Array.getElem?_toList]; exact hv)
        refine set_loop ((Walks.list hh3 _ l hneI items).toS) s.heap.objs.size hSf (fun i => ns.getD i 0) hval hb (items.size - 0) 0 _ (by omega) (Nat.zero_le _)
          ⟨⟨_, Heap.get?_push_size _ rfl, rfl, rfl⟩, (hl1.push _)⟩ (fresh_set (Heap.get?_push_of_some _ hS)) ?_
        intro s' hm hS'
        obtain ⟨h', g', d', tk', os'⟩ := s'
        have eg : g' = s.gens := hm.gens
        have ed : d' = s.drawn := hm.drawn
        have eo : os' = s.os := hm.os
        subst eg; subst ed; subst eo
        show wpAny _ _ _ _ _ _
        refine wpAny_pure ?_
        show wpAny _ _ (ret Value.none) _ _ _
        refine wpAny_pure ⟨rfl, h', tk', rfl, hS', fun b o hb e => ?_⟩
        have hb1 : b ≠ s.heap.objs.size := Nat.ne_of_lt hb
        have hb2 : b ≠ (s.heap.push (newSetObj w)).objs.size := by
          rw [Heap.size_push]; exact Nat.ne_of_lt (Nat.lt_succ_of_lt hb)
        exact hm.heap b o (by simp only [List.mem_cons, List.mem_singleton, List.not_mem_nil, or_false, not_or]; exact ⟨hb1, hb2⟩) (Heap.get?_push_of_some _ (Heap.get?_push_of_some _ e))
      · cases r₂ with
        | error e => exact hr₂
        | ok fl₂ =>
          cases fl₂ with
          | ret r =>
            obtain ⟨rfl, h', tk, rfl, hS', hk'⟩ := hr₂
            repeat (any_goals (first | assumption | wp_step))
            exact h _ _ hS' hk'
          | _ => exact hr₂.elim
    | _ => exact hr.elim
end
end L2
namespace L2
open PySem PySem.W PySem.Spec PyProof.Rows
theorem erase_perm {α : Type} : ∀ (xs : List α) (i : Nat) (hi : i < xs.length), (xs[i] :: xs.eraseIdx i).Perm xs
  | [], i, hi => absurd hi (Nat.not_lt_zero _)
  | x :: xs, 0, _ => .refl _
  | x :: xs, i + 1, hi => by
    have hi' : i < xs.length := by simpa using hi
    have ih := erase_perm xs i hi'
    show (xs[i] :: x :: xs.eraseIdx i).Perm (x :: xs)
    exact (List.Perm.swap _ _ _).trans (ih.cons x)
section
variable {prog : Program} {w : World} {A : Around} {E : Value → Shared → Prop} {s : Shared}
theorem choose_any {src : Source} {n : Nat} {Q : Nat → Shared → Prop} (hn : n ≠ 0) (h : ∀ x d, x < n → Q x { s with drawn := d }) : wpAny (model prog w) A (choose src n) Q E s := fun Γ p _ => by
  unfold choose
  rw [Sem.wp_choose]
  exact ⟨hn, h _ _ (Nat.mod_lt _ (Nat.pos_of_ne_zero hn))⟩
theorem draw_any {α : Type} : ∀ (n : Nat) (xs : List α) (s : Shared) {Q : List α → Shared → Prop}, xs.length = n → (∀ ys d, ys.Perm xs → Q ys { s with drawn := d }) → wpAny (model prog w) A (drawOrder n xs) Q E s
  | 0, xs, s, Q, hl, h => by
    have : xs = [] := List.length_eq_zero_iff.mp hl
    subst this
    have := h [] s.drawn (.refl _)
    exact wpAny_pure this
  | n + 1, [], s, Q, hl, h => by simp at hl
  | n + 1, x :: xs, s, Q, hl, h => by
    unfold drawOrder
    refine wpAny_bind (choose_any (by simp) fun i d hi => ?_)
    have e : (x :: xs)[i]? = some (x :: xs)[i] := by simp [hi]
    rw [e]
    dsimp only
    refine wpAny_bind (draw_any n ((x :: xs).eraseIdx i) _ (by rw [List.length_eraseIdx, if_pos hi]; simp at hl ⊢; omega) fun ys d' hp => wpAny_pure ?_)
    refine h _ d' ?_
    exact (hp.cons _).trans (erase_perm _ _ hi)
end
theorem pick_go {α : Type} (next : Nat → Nat) : ∀ (f k : Nat) (left : List α) (out : Array α), left.length = f → (pickOrder.go next f k left out).toList.Perm (out.toList ++ left)
  | 0, k, left, out, hl => by
    have : left = [] := List.length_eq_zero_iff.mp hl
    subst this
    simp [pickOrder.go]
  | f + 1, k, left, out, hl => by
    unfold pickOrder.go
    have hi : next k % left.length < left.length := Nat.mod_lt _ (by omega)
    have e : left[next k % left.length]? = some left[next k % left.length] := by simp [hi]
    rw [e]
    dsimp only
    refine (pick_go next f (k + 1) (left.eraseIdx (next k % left.length)) _ (by rw [List.length_eraseIdx, if_pos hi]; omega)).trans ?_
    rw [Array.toList_push, List.append_assoc]
    exact List.Perm.append_left _ (erase_perm _ _ hi)
theorem pick_perm {α : Type} (next : Nat → Nat) (xs : Array α) : (pickOrder next xs).toList.Perm xs.toList := by
  have := pick_go next xs.size 0 xs.toList #[] (by simp)
  simpa [pickOrder] using this
def SetRaw (h : Heap) (a : Addr) (es : Array (Int × Value)) (ep : Nat) (t : SetTable) : Prop := ∃ o, h.get? a = some o ∧ o.ExactSet ∧ o.data = .set es ep t
theorem SetRaw.at {h h' : Heap} {a : Addr} {es : Array (Int × Value)} {ep : Nat} {t : SetTable} (x : SetRaw h a es ep t) (e : ∀ o, h.get? a = some o → h'.get? a = some o) : SetRaw h' a es ep t := let ⟨o, ho, r⟩ := x; ⟨o, e o ho, r⟩
theorem SetRaw.typeIs {s : Shared} {a : Addr} {es : Array (Int × Value)} {ep : Nat} {t : SetTable} (x : SetRaw s.heap a es ep t) : s.TypeIs (.ref a) "set" := let ⟨o, ho, hc, _⟩ := x; ⟨o, ho, hc.1⟩
def isDrawn (es : Array (Int × Value)) (t : SetTable) : Bool := !t.plain && decide (es.size > 1)
def stand (t : SetTable) : Nat → Nat
  | 0 => 0
  | i + 1 => t.place.getD i 0 + 1
def SIt (w : World) (h : Heap) (I tp a : Addr) (es : Array (Int × Value)) (ep : Nat) (t : SetTable) (out : List Value) (i : Nat) : Prop :=
  ∃ first, (∃ o, h.get? I = some o ∧ o.cls = .type "set_iterator" ∧ o.data = .fields #[first, rawInt i, .ref a, rawInt es.size, rawInt ep]) ∧
    ((byText w = true ∧ first = rawInt 0 ∧ out = (pickOrder (w.params.setOrder a ep) es).toList.map (·.2)) ∨
     (byText w = false ∧ isDrawn es t = true ∧ first = .ref tp ∧ ∃ ps : List Nat, (∃ o n, h.get? tp = some o ∧ o.data = .seq (ps.map fun (p : Nat) => rawInt p).toArray n) ∧ ps.Perm (List.range es.size) ∧ out = ps.map fun p => (es.getD p (0, Value.none)).2) ∨
     (byText w = false ∧ isDrawn es t = false ∧ Walk t ∧ first = rawInt (stand t i) ∧ out = es.toList.map (·.2)))
theorem SIt.perm {w : World} {h : Heap} {I tp a : Addr} {es : Array (Int × Value)} {ep : Nat} {t : SetTable} {out : List Value} {i : Nat} (x : SIt w h I tp a es ep t out i) : out.Perm (es.toList.map (·.2)) := by
  obtain ⟨_, _, ⟨_, _, e⟩ | ⟨_, _, _, ps, _, p, e⟩ | ⟨_, _, _, _, e⟩⟩ := x
  · rw [e]
    exact (pick_perm _ _).map _
  · rw [e]
    have q := p.map fun p => (es.getD p (0, Value.none)).2
    refine q.trans (.of_eq ?_)
    apply List.ext_getElem
    · simp
    · intro i h1 h2
      have hi : i < es.size := by simpa using h1
      simp [Array.getD, hi]
  · rw [e]
section
variable {prog : Program} {w : World} {A : Around} {E : Value → Shared → Prop} {s : Shared} {a : Addr} {es : Array (Int × Value)} {ep : Nat} {t : SetTable}
theorem set_iter_entry : entryFor table "set.__iter__" = some Builtin.«frozenset.__iter__» :=
  entryFor_alias (id' := "frozenset.__iter__") (by kernel_rfl) (by first | rfl | decide +kernel | (unfold String.splitOn; simp +decide [String.splitOnAux])) (by decide +kernel) (by kernel_rfl)
theorem set_next_slot : Slot "set_iterator" "__next__" "set_iterator.__next__" :=
  .of (owner := "set_iterator") (n := "__next__") (by rw [typeLookup_type, builtinLookup_eq_fast]; kernel_rfl) (by decide +kernel) (by decide +kernel) (by decide +kernel)
    (by first | exact .inl (by decide +kernel) | exact .inr (by decide +kernel)) (by rw [isSubtype_type]; kernel_rfl)
theorem set_next_entry : entryFor table "set_iterator.__next__" = some Builtin.«set_iterator.__next__» := entryFor_of_tree (by kernel_rfl)
theorem set_next_args (a : Value) : argsOk "set_iterator.__next__" ⟨[a], []⟩ := by
  unfold argsOk
  kernel_rfl
theorem state_ok {Q : (Array (Int × Value) × Nat × SetTable) → Shared → Prop} (x : SetRaw s.heap a es ep t) (hf : t.fits es.size = true) (h : Q (es, ep, t) s) : wpAny (model prog w) A (setState a) Q E s := by
  obtain ⟨o, ho, _, hd⟩ := x
  exact wpAny_setState_of ho hd hf h
theorem set_iter {Q : Value → Shared → Prop} (x : SetRaw s.heap a es ep t) (hf : t.fits es.size = true) (hz : es.size ≤ sizeLine) (hw : byText w = true ∨ Walk t)
    (h : ∀ (h' : Heap) (d : Drawn) (I tp : Addr) (out : List Value), (∀ b o, s.heap.get? b = some o → h'.get? b = some o) → s.heap.objs.size ≤ I → s.heap.objs.size ≤ tp → tp ≠ I → I < h'.objs.size → SIt w h' I tp a es ep t out 0 → Q (.ref I) { s with heap := h', drawn := d }) :
    wpAny (model prog w) A (pyIter (.ref a)) Q E s := by
  have hT := x.typeIs
  refine wpAny_pyIter_slot hT PySem.F.slot_set_iter (wpAny_call_entry PySem.F.slot_set_iter hT set_iter_entry ?_ (PySem.F.args_set_iter_1 _))
  unfold Builtin.«frozenset.__iter__»
  refine wpAny_bind (m := Builtin.Frozenset.slot0 "__iter__" ⟨[.ref a], []⟩) (wpAny_of_eq (a := a) rfl ?_)
  refine wpAny_bind ?_
  unfold Builtin.Frozenset.sizeOf
  refine wpAny_bind ?_
  unfold setEntries
  refine wpAny_bind (state_ok x hf (wpAny_pure (wpAny_pure ?_)))
  dsimp only
  refine wpAny_bind ?_
  unfold setDrawn
  refine wpAny_bind (state_ok x hf ?_)
  dsimp only
  refine wpAny_bind ?_
  unfold setsByText
  refine wpAny_bind (wpAny_askSetting (wpAny_pure ?_))
  refine wpAny_pure ?_
  show wpAny _ _ (if (!byText w && isDrawn es t) = true then _ else _) _ _ s
  have fin : ∀ (s1 : Shared) (first : Value), (∀ b o, s.heap.get? b = some o → s1.heap.get? b = some o) → s.heap.objs.size ≤ s1.heap.objs.size → (∃ d, s1 = { s with heap := s1.heap, drawn := d }) →
      (∀ h', (∀ b o, s1.heap.get? b = some o → h'.get? b = some o) → h'.get? s1.heap.objs.size = some { cls := .type "set_iterator", data := .fields #[first, rawInt 0, .ref a, rawInt es.size, rawInt ep] } →
        ∃ tp out, s.heap.objs.size ≤ tp ∧ tp ≠ s1.heap.objs.size ∧ SIt w h' s1.heap.objs.size tp a es ep t out 0) →
      wpAny (model prog w) A.in1 (setEpoch a >>= fun e => newFields "set_iterator" [first, rawInt 0, Value.ref a, rawInt es.size, rawInt e] >>= fun v => ret v)
        (fun fin s' => ∃ v, fin = Fin.done (Flow.ret v) ∧ ∃ T' r, s'.TypeIs v T' ∧ typeLookup (Value.type T') (Str.ofString "__next__") = pure (some r) ∧ Q v s') E s1 := by
    intro s1 first k1 k2 k3 k4
    obtain ⟨d, k3⟩ := k3
    have x1 : SetRaw s1.heap a es ep t := x.at fun o e => k1 a o e
    refine wpAny_bind ?_
    unfold setEpoch
    refine wpAny_bind (state_ok x1 hf (wpAny_pure ?_))
    dsimp only
    refine wpAny_bind (m := newFields "set_iterator" [first, rawInt 0, Value.ref a, rawInt es.size, rawInt ep]) ?_
    unfold newFields
    refine wpAny_newObj_type (wpAny_pure ⟨_, rfl, "set_iterator", _, ⟨_, Heap.get?_push_size _ rfl, rfl⟩, set_next_slot.lookup, ?_⟩)
    obtain ⟨tp, out, z1, z3, z2⟩ := k4 (s1.heap.push { cls := .type "set_iterator", data := .fields #[first, rawInt 0, .ref a, rawInt es.size, rawInt ep] }) (fun b o e => Heap.get?_push_of_some _ e) (Heap.get?_push_size _ rfl)
    have := h _ d s1.heap.objs.size tp out (fun b o e => Heap.get?_push_of_some _ (k1 b o e)) k2 z1 z3 (by rw [size_push']; exact Nat.lt_succ_self _) z2
    rw [k3]
    exact this
  cases eb : byText w with
  | true =>
    rw [if_neg (by simp)]
    refine wpAny_bind (wpAny_pure ?_)
    refine fin s (rawInt 0) (fun b o e => e) (Nat.le_refl _) ⟨s.drawn, rfl⟩ fun h' k e => ⟨s.heap.objs.size + 1, _, Nat.le_succ _, Nat.succ_ne_self _, rawInt 0, ⟨_, e, rfl, rfl⟩, .inl ⟨eb, rfl, rfl⟩⟩
  | false =>
    have wk : Walk t := hw.resolve_left (by rw [eb]; decide)
    cases ed : isDrawn es t with
    | false =>
      rw [if_neg (by decide)]
      refine wpAny_bind (wpAny_pure ?_)
      refine fin s (rawInt 0) (fun b o e => e) (Nat.le_refl _) ⟨s.drawn, rfl⟩ fun h' k e => ⟨s.heap.objs.size + 1, _, Nat.le_succ _, Nat.succ_ne_self _, rawInt 0, ⟨_, e, rfl, rfl⟩, .inr (.inr ⟨eb, ed, wk, rfl, rfl⟩)⟩
    | true =>
      rw [if_pos (by decide)]
      refine wpAny_bind (draw_any es.size (List.range es.size) s (by simp) fun ps d hp => ?_)
      refine wpAny_bind (wpAny_newTuple ?_ (by rw [List.length_map, hp.length_eq, List.length_range]; exact hz))
      refine fin _ (.ref s.heap.objs.size) (fun b o e => Heap.get?_push_of_some _ e) (by show s.heap.objs.size ≤ (s.heap.push _).objs.size; rw [size_push']; exact Nat.le_succ _) ⟨d, rfl⟩ fun h' k e => ⟨s.heap.objs.size, _, Nat.le_refl _, (by show s.heap.objs.size ≠ (s.heap.push _).objs.size; rw [size_push']; exact Nat.ne_of_lt (Nat.lt_succ_self _)), .ref s.heap.objs.size, ⟨_, e, rfl, rfl⟩, .inr (.inl ⟨eb, ed, rfl, ps, ⟨_, _, k _ _ (Heap.get?_push_size _ rfl), rfl⟩, hp, rfl⟩)⟩
theorem next_text {slot i : Nat} {Q : Option (Value × Nat) → Shared → Prop} (b : byText w = true) (x : SetRaw s.heap a es ep t) (hf : t.fits es.size = true)
    (h : Q (((pickOrder (w.params.setOrder a ep) es)[i]?).map fun e => (e.2, slot)) s) : wpAny (model prog w) A (setNext a slot i ep) Q E s := by
  unfold setNext
  refine wpAny_bind (state_ok x hf ?_)
  dsimp only
  refine wpAny_bind ?_
  unfold setsByText
  refine wpAny_bind (wpAny_askSetting (wpAny_pure ?_))
  refine wpAny_ite_split (fun _ => ?_) (fun hab => absurd b hab)
  refine wpAny_ite_split (fun hab => absurd hab (by simp)) (fun _ => ?_)
  refine wpAny_bind ?_
  unfold setWalk
  refine wpAny_bind (state_ok x hf ?_)
  dsimp only
  refine wpAny_bind ?_
  unfold setsByText
  refine wpAny_bind (wpAny_askSetting (wpAny_pure ?_))
  refine wpAny_ite_split (fun _ => ?_) (fun hab => absurd b hab)
  refine wpAny_bind (wpAny_askSetting (wpAny_pure (wpAny_pure ?_)))
  exact h
theorem next_led {slot i : Nat} {Q : Option (Value × Nat) → Shared → Prop} (b : byText w = false) (d : isDrawn es t = false) (wk : Walk t) (x : SetRaw s.heap a es ep t) (hf : t.fits es.size = true)
    (h : Q (match es[SetTable.below t.place slot]?, t.place[SetTable.below t.place slot]? with | some (_, x), some j => some (x, j + 1) | _, _ => none) s) : wpAny (model prog w) A (setNext a slot i ep) Q E s := by
  unfold setNext
  refine wpAny_bind (state_ok x hf ?_)
  dsimp only
  refine wpAny_bind ?_
  unfold setsByText
  refine wpAny_bind (wpAny_askSetting (wpAny_pure ?_))
  refine wpAny_ite_split (fun hab => absurd (show byText w = true from hab) (by rw [b]; decide)) (fun _ => ?_)
  refine wpAny_ite_split (fun hab => absurd (show isDrawn es t = true from hab) (by rw [d]; decide)) (fun _ => ?_)
  refine wpAny_bind ?_
  show wpAny _ _ (if (!t.led && !es.isEmpty) = true then _ else _) _ _ s
  rw [if_neg (by rw [wk.2]; simp)]
  refine wpAny_pure ?_
  exact wpAny_pure h
theorem next_drawn {p : Nat} {Q : Value → Shared → Prop} (x : SetRaw s.heap a es ep t) (hf : t.fits es.size = true) (hp : p < es.size) (h : Q (es.getD p (0, Value.none)).2 s) : wpAny (model prog w) A (setNextDrawn a p ep) Q E s := by
  unfold setNextDrawn
  refine wpAny_bind (state_ok x hf ?_)
  dsimp only
  refine wpAny_ite_split (fun hab => absurd hab (by simp)) (fun _ => ?_)
  have e : es[p]? = some (es.getD p (0, Value.none)) := by simp [Array.getD, hp]
  rw [e]
  exact wpAny_pure h
theorem put_field {I : Addr} {o : Obj} {xs : Array Value} {k : Nat} {g : Value} {Q : Unit → Shared → Prop} (ho : s.heap.get? I = some o) (hd : o.data = .fields xs) (hk : k < xs.size)
    (h : ∀ h' o', h'.get? I = some o' → o'.cls = o.cls → o'.data = .fields (xs.setIfInBounds k g) → Heap.SameBut I s.heap h' → Q () { s with heap := h' }) : wpAny (model prog w) A (setField (.ref I) k g) Q E s := by
  refine wpAny_setField ho hd hk ?_
  exact h _ _ (Heap.get?_update_self _ ho (Obj.isFreed_of_fields (Obj.data_mapFields hd _))) (Obj.cls_mapFields ..) (by rw [Obj.data_mapFields hd]) (Heap.SameBut.update ..)
theorem set_next {I tp : Addr} {out : List Value} {i : Nat} {v : Value} {Q : Option Value → Shared → Prop} (x : SetRaw s.heap a es ep t) (hf : t.fits es.size = true) (y : SIt w s.heap I tp a es ep t out i) (hv : out[i]? = some v) (n1 : a ≠ I) (n2 : tp ≠ I)
    (h : ∀ h', SIt w h' I tp a es ep t out (i + 1) → Heap.SameBut I s.heap h' → Q (some v) { s with heap := h' }) : wpAny (model prog w) A (pyNext (.ref I)) Q E s := by
  have hp := y.perm
  obtain ⟨first, ⟨o, ho, hc, hd⟩, y⟩ := y
  have hT : s.TypeIs (.ref I) "set_iterator" := ⟨o, ho, hc⟩
  unfold pyNext
  refine wpAny_bind (wpAny_attempt (wpAny_callSpecial?_slot (name := Str.ofString "__next__") hT set_next_slot (wpAny_call_entry set_next_slot hT set_next_entry ?_ (set_next_args _))))
  unfold Builtin.«set_iterator.__next__»
  refine wpAny_bind (wpAny_of_eq (a := (Value.ref I, [])) rfl ?_)
  refine wpAny_bind (wpAny_fieldsOf ho hd ?_)
  dsimp only [rawInt]
  refine wpAny_bind ?_
  unfold setEntries
  refine wpAny_bind (state_ok x hf (wpAny_pure ?_))
  dsimp only
  rw [if_neg (by simp)]
  rcases y with ⟨b1, rfl, b2⟩ | ⟨b1, b2, rfl, ps, ⟨ot, nt, hot, hdt⟩, pp, b3⟩ | ⟨b1, b2, b3, rfl, b4⟩
  · have hi : (pickOrder (w.params.setOrder a ep) es)[i]?.map (·.2) = some v := by
      rw [b2, List.getElem?_map, Array.getElem?_toList] at hv
      exact hv
    cases e : (pickOrder (w.params.setOrder a ep) es)[i]? with
    | none => rw [e] at hi; cases hi
    | some q =>
      rw [e] at hi
      have hq : q.2 = v := Option.some.inj hi
      refine wpAny_bind (show wpAny _ _ (setNext a 0 i ep) _ _ s from next_text b1 x hf ?_)
      rw [e]
      show wpAny _ _ (setField (Value.ref I) 0 (Value.int (0 : Nat) 0) >>= fun _ => setField (Value.ref I) 1 (Value.int ((i : Int) + 1) 0) >>= fun _ => ret q.2) _ _ s
      refine wpAny_bind (put_field ho hd (by simp) fun h1 o1 g1 g2 g3 s1 => ?_)
      refine wpAny_bind (put_field (s := { s with heap := h1 }) g1 g3 (by simp) fun h2 o2 k1 k2 k3 s2 => ?_)
      rw [hq]
      exact wpAny_pure ⟨_, rfl, wpAny_pure (h h2 ⟨rawInt 0, ⟨o2, k1, k2.trans (g2.trans hc), by rw [k3]; simp [rawInt]⟩, .inl ⟨b1, rfl, b2⟩⟩ (s1.trans s2))⟩
  · have hl : ps.length = es.size := by rw [pp.length_eq, List.length_range]
    have hi : i < ps.length := by
      rw [b3, List.getElem?_map] at hv
      cases e : ps[i]? with
      | none => rw [e] at hv; cases hv
      | some q => exact (List.getElem?_eq_some_iff.mp e).1
    have hv' : v = (es.getD ps[i] (0, Value.none)).2 := by
      rw [b3, List.getElem?_map, List.getElem?_eq_getElem hi] at hv
      exact (Option.some.inj hv).symm
    have hlt : ps[i] < es.size := List.mem_range.mp (pp.mem_iff.mp (List.getElem_mem hi))
    refine wpAny_bind (m := seqItems? (Value.ref tp)) (wpAny_seqItems hot hdt ?_)
    dsimp only
    have e : (List.toArray (ps.map fun (p : Nat) => rawInt (p : Int)))[(i : Int).toNat]? = some (Value.int (ps[i] : Nat) 0) := by simp [hi, rawInt]
    rw [e]
    refine wpAny_bind (show wpAny _ _ (setNextDrawn a ps[i] ep) _ _ s from next_drawn x hf hlt ?_)
    refine wpAny_bind (put_field ho hd (by simp) fun h1 o1 g1 g2 g3 s1 => ?_)
    rw [← hv']
    refine wpAny_pure ⟨_, rfl, wpAny_pure ?_⟩
    exact h h1 ⟨.ref tp, ⟨o1, g1, g2.trans hc, by rw [g3]; simp [rawInt]⟩, .inr (.inl ⟨b1, b2, rfl, ps, ⟨ot, nt, (s1.2 tp n2).trans hot, hdt⟩, pp, b3⟩)⟩ s1
  · have hi : i < es.size := by
      rw [b4, List.getElem?_map] at hv
      cases e : es.toList[i]? with
      | none => rw [e] at hv; cases hv
      | some q =>
        have := (List.getElem?_eq_some_iff.mp e).1
        simpa using this
    have hv' : v = (es[i]).2 := by
      rw [b4, List.getElem?_map, List.getElem?_eq_getElem (by simpa using hi)] at hv
      simpa using (Option.some.inj hv).symm
    have hpl : t.place.size = es.size := by
      unfold SetTable.fits at hf
      simp at hf
      exact hf.1
    have hb : SetTable.below t.place (stand t i) = i := by
      cases i with
      | zero => exact below_zero b3.1
      | succ i => exact below_next b3.1 (by omega)
    refine wpAny_bind (show wpAny _ _ (setNext a (stand t i) i ep) _ _ s from next_led b1 b2 b3 x hf ?_)
    rw [hb, Array.getElem?_eq_getElem hi, Array.getElem?_eq_getElem (by omega)]
    show wpAny _ _ (setField (Value.ref I) 0 (Value.int ((t.place[i]'(by omega) + 1 : Nat)) 0) >>= fun _ => setField (Value.ref I) 1 (Value.int ((i : Int) + 1) 0) >>= fun _ => ret (es[i]).2) _ _ s
    refine wpAny_bind (put_field ho hd (by simp) fun h1 o1 g1 g2 g3 s1 => ?_)
    refine wpAny_bind (put_field (s := { s with heap := h1 }) g1 g3 (by simp) fun h2 o2 k1 k2 k3 s2 => ?_)
    rw [← hv']
    have es' : stand t (i + 1) = t.place[i]'(by omega) + 1 := by
      show t.place.getD i 0 + 1 = _
      rw [Array.getD_eq_getD_getElem?, Array.getElem?_eq_getElem (by omega)]
      rfl
    refine wpAny_pure ⟨_, rfl, wpAny_pure (h h2 ⟨rawInt (stand t (i + 1)), ⟨o2, k1, k2.trans (g2.trans hc), ?_⟩, .inr (.inr ⟨b1, b2, b3, rfl, b4⟩)⟩ (s1.trans s2))⟩
    rw [k3, es']
    simp [rawInt]
theorem stop_iter {Q : Option Value → Shared → Prop} {I : Addr} {h0 : Heap} (hh : A.handled = none) (ex : Heap.ExtBut I h0 s.heap) (h : ∀ h', Heap.ExtBut I h0 h' → Q none { s with heap := h' }) :
    wpAny (model prog w) A.in1 (newExc (.type "StopIteration") [] >>= fun e => (raiseNew e : Sem PySem.Fin)) (fun fin s' => ∃ v, fin = Fin.done (Flow.ret v) ∧ wpAny (model prog w) A (pure (some v)) Q E s')
      (fun e s' => wpAny (model prog w) A (isInstance e (.type "StopIteration") >>= fun b => if b = true then pure none else throw e) Q E s') s := by
  refine wpAny_bind ?_
  simp only [newExc, newTuple]
  refine wpAny_bind (wpAny_newObj_type ?_ (by size_fits))
  refine wpAny_bind (m := firstArgMember _ _) (wpAny_of_eq (a := Value.none) (by first | rfl | (simp only [firstArgMember]; rfl)) ?_)
  refine wpAny_newObj_type ?_ (by size_fits)
  simp only [raiseNew]
  refine wpAny_bind (wpAny_handled ?_)
  rw [show A.in1.handled = none from hh]
  refine wpAny_bind (wpAny_pure (wpAny_throw ?_))
  refine wpAny_bind (wpAny_isInstance (T := "StopIteration") (b := true) ⟨_, Heap.get?_push_size _ rfl, rfl⟩ isSubtype_stop ?_)
  exact wpAny_pure (h _ ((ex.push _).push _))
theorem set_end {I tp : Addr} {out : List Value} {Q : Option Value → Shared → Prop} (hh : A.handled = none) (x : SetRaw s.heap a es ep t) (hf : t.fits es.size = true) (y : SIt w s.heap I tp a es ep t out es.size)
    (h : ∀ h', Heap.ExtBut I s.heap h' → Q none { s with heap := h' }) : wpAny (model prog w) A (pyNext (.ref I)) Q E s := by
  obtain ⟨first, ⟨o, ho, hc, hd⟩, y⟩ := y
  have hT : s.TypeIs (.ref I) "set_iterator" := ⟨o, ho, hc⟩
  unfold pyNext
  refine wpAny_bind (wpAny_attempt (wpAny_callSpecial?_slot (name := Str.ofString "__next__") hT set_next_slot (wpAny_call_entry set_next_slot hT set_next_entry ?_ (set_next_args _))))
  unfold Builtin.«set_iterator.__next__»
  refine wpAny_bind (wpAny_of_eq (a := (Value.ref I, [])) rfl ?_)
  refine wpAny_bind (wpAny_fieldsOf ho hd ?_)
  dsimp only [rawInt]
  refine wpAny_bind ?_
  unfold setEntries
  refine wpAny_bind (state_ok x hf (wpAny_pure ?_))
  dsimp only
  rw [if_neg (by simp)]
  rcases y with ⟨b1, rfl, b2⟩ | ⟨b1, b2, rfl, ps, ⟨ot, nt, hot, hdt⟩, pp, b3⟩ | ⟨b1, b2, b3, rfl, b4⟩
  · have hz : (pickOrder (w.params.setOrder a ep) es).size = es.size := by
      have := (pick_perm (w.params.setOrder a ep) es).length_eq
      simpa using this
    refine wpAny_bind (show wpAny _ _ (setNext a 0 es.size ep) _ _ s from next_text b1 x hf ?_)
    rw [Array.getElem?_eq_none (by omega)]
    show wpAny _ _ (setField (Value.ref I) 2 Value.none >>= fun _ => newExc (.type "StopIteration") [] >>= fun e => raiseNew e) _ _ s
    refine wpAny_bind (put_field ho hd (by simp) fun h1 o1 g1 g2 g3 s1 => ?_)
    exact stop_iter (s := { s with heap := h1 }) hh s1.extBut fun h' e => h h' e
  · have hl : ps.length = es.size := by rw [pp.length_eq, List.length_range]
    refine wpAny_bind (m := seqItems? (Value.ref tp)) (wpAny_seqItems hot hdt ?_)
    dsimp only
    have e : (List.toArray (ps.map fun (p : Nat) => rawInt (p : Int)))[(es.size : Int).toNat]? = none := by simp [hl]
    rw [e]
    refine wpAny_bind (put_field ho hd (by simp) fun h1 o1 g1 g2 g3 s1 => ?_)
    refine wpAny_bind (put_field (s := { s with heap := h1 }) g1 g3 (by simp) fun h2 o2 k1 k2 k3 s2 => ?_)
    exact stop_iter (s := { s with heap := h2 }) hh (s1.trans s2).extBut fun h' e => h h' e
  · have hpl : t.place.size = es.size := by
      unfold SetTable.fits at hf
      simp at hf
      exact hf.1
    have hb : SetTable.below t.place (stand t es.size) = es.size := by
      cases e : es.size with
      | zero => exact below_zero b3.1
      | succ i => exact below_next b3.1 (by omega)
    refine wpAny_bind (show wpAny _ _ (setNext a (stand t es.size) es.size ep) _ _ s from next_led b1 b2 b3 x hf ?_)
    rw [hb, Array.getElem?_eq_none (Nat.le_refl _)]
    show wpAny _ _ (setField (Value.ref I) 2 Value.none >>= fun _ => newExc (.type "StopIteration") [] >>= fun e => raiseNew e) _ _ s
    refine wpAny_bind (put_field ho hd (by simp) fun h1 o1 g1 g2 g3 s1 => ?_)
    exact stop_iter (s := { s with heap := h1 }) hh s1.extBut fun h' e => h h' e
theorem SIt.at {h h' : Heap} {I tp : Addr} {out : List Value} {i : Nat} (x : SIt w h I tp a es ep t out i) (e1 : ∀ o, h.get? I = some o → h'.get? I = some o) (e2 : ∀ o, h.get? tp = some o → h'.get? tp = some o) : SIt w h' I tp a es ep t out i := by
  obtain ⟨f, ⟨o, ho, hc⟩, ⟨b1, b2⟩ | ⟨b1, b2, b3, ps, ⟨ot, nt, hot, hdt⟩, b4⟩ | ⟨b1, b2⟩⟩ := x
  · exact ⟨f, ⟨o, e1 o ho, hc⟩, .inl ⟨b1, b2⟩⟩
  · exact ⟨f, ⟨o, e1 o ho, hc⟩, .inr (.inl ⟨b1, b2, b3, ps, ⟨ot, nt, e2 ot hot, hdt⟩, b4⟩)⟩
  · exact ⟨f, ⟨o, e1 o ho, hc⟩, .inr (.inr ⟨b1, b2⟩)⟩
theorem SIt.typeIs {s : Shared} {I tp : Addr} {out : List Value} {i : Nat} (x : SIt w s.heap I tp a es ep t out i) : s.TypeIs (.ref I) "set_iterator" := by
  obtain ⟨f, ⟨o, ho, hc, _⟩, _⟩ := x
  exact ⟨o, ho, hc⟩
theorem seti_iter_slot : Slot "set_iterator" "__iter__" "set_iterator.__iter__" :=
  .of (owner := "set_iterator") (n := "__iter__") (by rw [typeLookup_type, builtinLookup_eq_fast]; kernel_rfl) (by decide +kernel) (by decide +kernel) (by decide +kernel)
    (by first | exact .inl (by decide +kernel) | exact .inr (by decide +kernel)) (by rw [isSubtype_type]; kernel_rfl)
theorem seti_iter_entry : entryFor table "set_iterator.__iter__" = some Builtin.«dict_keyiterator.__iter__» :=
  entryFor_alias (id' := "dict_keyiterator.__iter__") (by kernel_rfl) (by first | rfl | decide +kernel | (unfold String.splitOn; simp +decide [String.splitOnAux])) (by decide +kernel) (by kernel_rfl)
theorem seti_iter_args (a : Value) : argsOk "set_iterator.__iter__" ⟨[a], []⟩ := by
  unfold argsOk
  kernel_rfl
theorem set_walks {I tp : Addr} {out : List Value} (hh : A.handled = none) (hf : t.fits es.size = true) (n1 : a ≠ I) (n2 : tp ≠ I) :
    Walks prog w A I [I, a, tp] [I] es.size (fun i v => out[i]? = some v) (fun i h => SIt w h I tp a es ep t out i ∧ SetRaw h a es ep t) where
  sub := fun b hb => by simp at hb; simp [hb]
  frame := fun _ _ _ st hk => ⟨st.1.at (fun o e => hk I (by simp) o e) (fun o e => hk tp (by simp) o e), st.2.at fun o e => hk a (by simp) o e⟩
  item := fun i s Q E hi st hQ => by
    have hl : out.length = es.size := by rw [st.1.perm.length_eq]; simp
    refine set_next (v := out[i]) st.2 hf st.1 (by simp [hl, hi]) n1 n2 fun h' it' hs' => ?_
    exact hQ _ h' s.toks (by simp [hl, hi]) ⟨it', st.2.at fun o q => hs'.extBut a o n1 q⟩ fun b o hb q => hs'.extBut b o (fun h => hb (by simp [h])) q
  done := fun s Q E st hQ => set_end hh st.2 hf st.1 fun h' he' => hQ h' s.toks fun b o hb q => he' b o (fun h => hb (by simp [h])) q
  self := fun i s Q E st hQ => by
    refine wpAny_pyIter_slot st.1.typeIs seti_iter_slot (wpAny_call_entry seti_iter_slot st.1.typeIs seti_iter_entry ?_ (seti_iter_args _))
    show wpAny _ _ (ret (.ref I)) _ _ s
    exact wpAny_pure ⟨_, rfl, "set_iterator", _, st.1.typeIs, set_next_slot.lookup, hQ⟩
theorem set_hint {r : Addr} {Q : Bool → Shared → Prop} (hT : s.TypeIs (.ref r) "set") (h : Q false s) : wpAny (model prog w) A (Builtin.List.listLengthHint (.ref r)) Q E s := by
  unfold Builtin.List.listLengthHint
  refine wpAny_bind (wpAny_specialOf hT PySem.F.slot_set_len.lookup ?_)
  generalize hid : ("set.__len__" : String) = id0
  wp_delta
  rw [show splitId id0 = some ("set", "__len__") from by subst hid; decide +kernel]
  subst hid
  refine wpAny_bind (wpAny_isInstance (T := "set") (b := true) hT (by rw [isSubtype_type]; kernel_rfl) ?_)
  refine wpAny_ite_split (fun hab => absurd hab (by decide)) (fun _ => ?_)
  refine wpAny_ite_split (fun _ => ?_) (fun hab => absurd (by decide +kernel) hab)
  refine wpAny_bind (wpAny_typeOf hT ?_)
  exact wpAny_pure h
theorem items_out {out : List Value} {acc : Array Value} (hl : out.length = es.size) (h : ItemsOf (fun i v => out[i]? = some v) acc es.size) : acc.toList = out := by
  obtain ⟨h1, h2⟩ := h
  apply List.ext_getElem?
  intro i
  by_cases hi : i < acc.size
  · have := h2 i acc[i] (by simp [hi])
    rw [this]
    simp [hi]
  · rw [List.getElem?_eq_none (by simpa using Nat.le_of_not_lt hi), List.getElem?_eq_none (by omega)]
theorem set_collect {l : List Int} {R : List Value → Shared → Prop} (x : SetI prog w s.heap a l) (hh : A.handled = none)
    (h : ∀ (h' : Heap) (tk : Nat) (d : Drawn) (vs : List Value) (ms : List Int), IntsAre vs ms → ms.Perm l → (∀ b o, s.heap.get? b = some o → h'.get? b = some o) → s.heap.objs.size < h'.objs.size → R vs { s with heap := h', toks := tk, drawn := d }) :
    wpAny (model prog w) A (collect (.ref a)) R E s := by
  obtain ⟨o, es, ep, t, ms, ho, hex, hd, hel, hi, hp, hb, hf, hw⟩ := x
  have raw : SetRaw s.heap a es ep t := ⟨o, ho, hex, hd⟩
  have hz := fits_of_scanBound hb
  have hlt : a < s.heap.objs.size := Heap.lt_size ho
  unfold collect
  refine wpAny_bind (wpAny_runValue (codeAny_builtin entry_proto_collect' ?_))
  rw [Around.under_plainId PySem.F.plain_proto_collect _]
  show wpAny _ A.in1 (newList [] >>= fun l => again (.builtin "list.__iadd__" ⟨[l, .ref a], []⟩)) _ _ s
  refine wpAny_bind (wpAny_newObj_type ?_)
  refine wpAny_pure ⟨plainId_quiet PySem.F.plain_list_iadd _, codeAny_builtin entry_list_iadd' ?_⟩
  rw [Around.under_plainId PySem.F.plain_list_iadd _]
  have hS₁ : (s.heap.push { cls := .type "list", data := .seq ([] : List Value).toArray }).get? s.heap.objs.size = some { cls := .type "list", data := .seq #[] } := Heap.get?_push_size _ rfl
  show wpAny _ A.in1 (Builtin.List.listExtendWith (.ref s.heap.objs.size) (.ref a) (.ref s.heap.objs.size)) _ _ _
  have raw1 : SetRaw (s.heap.push { cls := .type "list", data := .seq ([] : List Value).toArray }) a es ep t := raw.at fun o e => Heap.get?_push_of_some _ e
  unfold Builtin.List.listExtendWith
  refine wpAny_bind (wpAny_typeOf (T := "set") (SetRaw.typeIs (s := { s with heap := s.heap.push { cls := .type "list", data := .seq ([] : List Value).toArray } }) raw1) ?_)
  have h1 : Builtin.List.listSameRef (.ref s.heap.objs.size) (.ref a) = false := by simp [Builtin.List.listSameRef, Nat.ne_of_gt hlt]
  simp only [h1, show (Value.type "set" == Value.type "list") = false by decide, show (Value.type "set" == Value.type "tuple") = false by decide, Bool.or_false, Bool.false_eq_true, if_false]
  refine wpAny_bind (set_iter (s := { s with heap := s.heap.push { cls := .type "list", data := .seq ([] : List Value).toArray } }) raw1 hf hz hw fun h2 d I tp out k2 gI gtp n2 ltI it => ?_)
  have sz1 : (s.heap.push { cls := .type "list", data := .seq ([] : List Value).toArray }).objs.size = s.heap.objs.size + 1 := size_push' _ _
  have gI' : s.heap.objs.size + 1 ≤ I := by rw [← sz1]; exact gI
  have gtp' : s.heap.objs.size + 1 ≤ tp := by rw [← sz1]; exact gtp
  have raw2 : SetRaw h2 a es ep t := raw1.at fun o e => k2 a o e
  have hS₂ := k2 _ _ hS₁
  have hSf : s.heap.objs.size ∉ [I, a, tp] := by
    simp only [List.mem_cons, List.not_mem_nil, or_false, not_or]
    exact ⟨Nat.ne_of_lt (Nat.lt_of_lt_of_le (Nat.lt_succ_self _) gI'), Nat.ne_of_gt hlt, Nat.ne_of_lt (Nat.lt_of_lt_of_le (Nat.lt_succ_self _) gtp')⟩
  have n1 : a ≠ I := Nat.ne_of_lt (Nat.lt_of_lt_of_le (Nat.lt_succ_of_lt hlt) gI')
  have hl : out.length = es.size := by rw [it.perm.length_eq]; simp
  obtain ⟨ms', i', p'⟩ := ints_perm it.perm hi
  have W := (set_walks (prog := prog) (w := w) (A := A.in1) (out := out) (ep := ep) hh hf n1 n2).toS
  have key : ∀ (h3 : Heap) (c₁ tk : Nat), SIt w h3 I tp a es ep t out 0 → SetRaw h3 a es ep t → (∀ b o, b ≠ s.heap.objs.size → h2.get? b = some o → h3.get? b = some o) → h3.get? s.heap.objs.size = some { cls := .type "list", data := .seq #[] c₁ } →
      codeAny (model prog w) A (.builtin "list.extend.loop" ⟨[.ref s.heap.objs.size, .ref I, .ref s.heap.objs.size], []⟩)
        (wants (fun v s' => v = .ref s.heap.objs.size ∧ ∃ h' tk' c', s' = { s with heap := h', toks := tk', drawn := d } ∧ (∀ b o, s.heap.get? b = some o → h'.get? b = some o) ∧ h'.get? s.heap.objs.size = some { cls := .type "list", dict := none, data := .seq out.toArray c', slots := #[] }) (fun _ _ => False))
        { s with heap := h3, toks := tk, drawn := d } := by
    intro h3 c₁ tk it3 raw3 k3 hS₃
    refine codeAny_extend_loopS W hz _ hSf _ es.size 0 _ #[] c₁ rfl (Nat.zero_le _) ⟨it3, raw3⟩ hS₃ (ItemsOf.nil _) fun s' acc' c' hm hS' hacc => ?_
    have ea : acc' = out.toArray := by rw [← items_out hl hacc]
    refine ⟨rfl, s'.heap, s'.toks, c', ?_, fun b o e => ?_, by rw [← ea]; exact hS'⟩
    · have := Moved.eq_with (wr := s.heap.objs.size :: [I]) hm
      rw [this]
    · have lb : b < s.heap.objs.size := Heap.lt_size e
      refine hm.heap b o ?_ (k3 b o (Nat.ne_of_lt lb) (k2 b o (Heap.get?_push_of_some _ e)))
      simp only [List.mem_cons, List.not_mem_nil, or_false, not_or]
      exact ⟨Nat.ne_of_lt lb, Nat.ne_of_lt (Nat.lt_of_lt_of_le (Nat.lt_succ_of_lt lb) gI')⟩
  refine wpAny_bind (wpAny_holding (set_hint (SetRaw.typeIs (s := { s with heap := h2, drawn := d }) raw2) ?_))
  have oth : ∀ (h3 : Heap) (g : Obj → Obj) b o, b ≠ s.heap.objs.size → h3.get? b = some o → (h3.update s.heap.objs.size g).get? b = some o := fun h3 g b o hb e => (Heap.get?_update_other _ _ (Ne.symm hb)).trans e
  refine wpAny_ite_split (fun _ => ?_) (fun _ => wpAny_pure ⟨plainId_quiet PySem.F.plain_extend_loop _, codeAny_mono (key h2 0 _ it raw2 (fun b o _ e => e) hS₂) ?_⟩)
  · refine wpAny_bind (wpAny_rule ?_)
    refine wpAny_bind ?_
    show wpAny _ _ (updateSeq s.heap.objs.size (·.push .none) >>= fun _ => updateSeq s.heap.objs.size (·.pop)) _ _ _
    refine wpAny_bind (wpAny_updateSeq hS₂ rfl ?_)
    have hS₃ := Heap.get?_update_self (Obj.mapSeq (·.push Value.none)) hS₂ rfl
    refine wpAny_updateSeq (hz := by seq_fits) hS₃ rfl ?_
    have hS₄ := Heap.get?_update_self (Obj.mapSeq (·.pop)) hS₃ rfl
    have k4 : ∀ b o, b ≠ s.heap.objs.size → h2.get? b = some o → ((h2.update s.heap.objs.size (Obj.mapSeq (·.push Value.none))).update s.heap.objs.size (Obj.mapSeq (·.pop))).get? b = some o := fun b o hb e => oth _ _ b o hb (oth _ _ b o hb e)
    have nI : I ≠ s.heap.objs.size := Nat.ne_of_gt (Nat.lt_of_lt_of_le (Nat.lt_succ_self _) gI')
    have ntp : tp ≠ s.heap.objs.size := Nat.ne_of_gt (Nat.lt_of_lt_of_le (Nat.lt_succ_self _) gtp')
    refine wpAny_pure ⟨plainId_quiet PySem.F.plain_extend_loop _, codeAny_mono (key _ _ _ (it.at (fun o e => k4 I o nI e) (fun o e => k4 tp o ntp e)) (raw2.at fun o e => k4 a o (Nat.ne_of_lt hlt) e) k4 hS₄) ?_⟩
    intro q s₂ y
    cases q with
    | error e => exact y.elim
    | ok fl =>
      cases fl with
      | ret v =>
        obtain ⟨rfl, h', tk', c', rfl, hk, hS'⟩ := y
        show wpAny _ A (load s.heap.objs.size >>= _) _ _ _
        refine wpAny_bind (wpAny_load hS' ?_)
        exact wpAny_pure (h h' tk' d out ms' i' (p'.trans hp) hk (Heap.lt_size hS'))
      | _ => exact y.elim
  · intro q s₂ y
    cases q with
    | error e => exact y.elim
    | ok fl =>
      cases fl with
      | ret v =>
        obtain ⟨rfl, h', tk', c', rfl, hk, hS'⟩ := y
        show wpAny _ A (load s.heap.objs.size >>= _) _ _ _
        refine wpAny_bind (wpAny_load hS' ?_)
        exact wpAny_pure (h h' tk' d out ms' i' (p'.trans hp) hk (Heap.lt_size hS'))
      | _ => exact y.elim
theorem sorted_set {l : List Int} {R : Value → Shared → Prop} (x : SetI prog w s.heap a l) (hh : A.handled = none) (h64 : l.length < 64)
    (h : ∀ (h' : Heap) (tk : Nat) (d : Drawn) (L : Addr) (c : Nat) (out : Array Value) (ns : List Int), IntsAre out.toList ns → ns.Perm l → ns.Pairwise (· ≤ ·) → (∀ b o, s.heap.get? b = some o → h'.get? b = some o) → s.heap.objs.size ≤ L →
      h'.get? L = some (seqObj "list" out c) → R (.ref L) { s with heap := h', toks := tk, drawn := d }) :
    wpAny (model prog w) A (call (.builtin "sorted") [.ref a]) R E s := by
  refine Calls.call_function_entry kind_sorted plain_sorted entry_sorted (args_sorted1 _) ?_
  unfold Builtin.«sorted»
  refine wpAny_bind (m := checkCount "sorted" 1 1 _) (wpAny_pure ?_)
  refine wpAny_bind (set_collect (A := A.in1) x hh fun h' tk d vs ms iv pm hk ge => ?_)
  have hl : vs.length < 64 := by rw [iv.length, pm.length_eq]; exact h64
  refine wpAny_bind (wpAny_newList ?_ (by rw [sizeLine_eq]; omega))
  have ho : (h'.push (seqObj "list" vs.toArray 0)).get? h'.objs.size = some (seqObj "list" vs.toArray 0) := Heap.get?_push_size _ rfl
  refine wpAny_bind (wpAny_holding (wpAny_call_entry slot_list_sort ⟨_, ho, rfl⟩ entry_list_sort (list_sort_tree (s := { s with heap := h'.push (seqObj "list" vs.toArray 0), toks := tk, drawn := d }) ho iv hl fun out ns i1 i2 i3 => ⟨_, rfl, ?_⟩) (args_list_sort _)))
  obtain ⟨e, he⟩ := sortedHeap_at (out := out) ho
  refine wpAny_pure ⟨_, rfl, h _ tk d _ e out ns i1 (i2.trans pm) i3 (fun b o q => ?_) (Nat.le_of_lt ge) he⟩
  have k1 : (h'.push (seqObj "list" vs.toArray 0)).get? b = some o := Heap.get?_push_of_some _ (hk b o q)
  rw [sortedHeap_old (Nat.ne_of_lt (Heap.lt_size (hk b o q))) (Heap.lt_size k1)]
  exact k1
end
end L2
namespace L2
open PySem PySem.W PySem.Spec PyProof.Rows
theorem fm_nodup (val : Nat → Int) : ∀ i, (firstMet val i).Nodup
  | 0 => by rw [firstMet_zero]; exact List.nodup_nil
  | i + 1 => by
    rw [firstMet_succ]
    unfold step_dedup
    have ih := fm_nodup val i
    split
    · exact ih
    · rename_i c
      refine List.nodup_append.mpr ⟨ih, by simp, fun a ha b hb e => ?_⟩
      have : b = val i := by simpa using hb
      subst this
      exact c (List.any_eq_true.mpr ⟨a, ha, by simp [e]⟩)
theorem range_getD (ns : List Int) : (List.range ns.length).map (fun i => ns.getD i 0) = ns := by
  apply List.ext_getElem
  · simp
  · intro i h1 h2
    simp [h2]
theorem fm_mem {ns : List Int} {z : Int} : z ∈ firstMet (fun i => ns.getD i 0) ns.length ↔ z ∈ ns := by
  have e := firstMet_any (fun i => ns.getD i 0) ns.length z
  rw [range_getD] at e
  constructor
  · intro h
    have a : (firstMet (fun i => ns.getD i 0) ns.length).any (· == z) = true := List.any_eq_true.mpr ⟨z, h, by simp⟩
    rw [e] at a
    obtain ⟨y, hy, ey⟩ := List.any_eq_true.mp a
    have : y = z := by simpa using ey
    exact this ▸ hy
  · intro h
    have a : ns.any (· == z) = true := List.any_eq_true.mpr ⟨z, h, by simp⟩
    rw [← e] at a
    obtain ⟨y, hy, ey⟩ := List.any_eq_true.mp a
    have : y = z := by simpa using ey
    exact this ▸ hy
theorem lt_of_le_nodup : ∀ {l : List Int}, l.Pairwise (· ≤ ·) → l.Nodup → l.Pairwise (· < ·)
  | [], _, _ => .nil
  | x :: l, h, n => by
    rw [List.pairwise_cons] at h ⊢
    rw [List.nodup_cons] at n
    exact ⟨fun y hy => by
      have a := h.1 y hy
      have b : x ≠ y := fun e => n.1 (e ▸ hy)
      omega, lt_of_le_nodup h.2 n.2⟩
section
variable {X : Cx} {e : Expr} {te : TE} {p p2 pos pos2 : Pos}
theorem Inv.draw {pins : List (Addr × Obj)} {σ : St} {H : Hp} {s : Shared} (I : Inv X pins σ H s) (d : Drawn) : Inv X pins σ H { s with drawn := d } :=
  ⟨I.ok, I.os, I.bare, I.base, I.loc, I.cell, I.free, I.freeC, I.pin, I.hok, I.len⟩
def tSortedSet (K : PySem.W.Frag) (te : TE) : TE := fun σ H Q => te σ H fun x H1 => ∃ (a : Addr) (ns : List Int), x = .ref a ∧ SqL K H1 a (ns.map V.int) ∧ ns.length < 64 ∧
  ∀ (l : Addr) (ms : List Int), ms.Pairwise (· < ·) → (∀ z, z ∈ ms ↔ z ∈ ns) → H1 l = none → Q (.ref l) (upd H1 l (.lst (ms.map V.int)))
theorem pe_sortedset (hc : X.calm = true) (hg : Gl X "sorted") (hm : X.mg "sorted" = none) (hg2 : Gl X "set") (hm2 : X.mg "set" = none) (he : PE X e te)
    (hs : starEach [e] X.env = [(false, eval e X.env)] := by rfl)
    (hs2 : starEach [(.Call (.Name "set" p2) [e] [] pos2 : Expr)] X.env = [(false, eval (.Call (.Name "set" p2) [e] [] pos2) X.env)] := by rfl) :
    PE X (.Call (.Name "sorted" p) [.Call (.Name "set" p2) [e] [] pos2] [] pos) (tSortedSet X.K te) := by
  intro pins s σ H Q I h
  refine wpAny_Call_Name_kw (ld_blt I hg hm boot_sorted ?_ (by decide) (by decide))
  refine callWith_builtin1 ?_ hs2 rfl
  rw [hs2]
  refine Calls.spliced_cons ?_
  refine wpAny_Call_Name_kw (ld_blt I hg2 hm2 boot_set ?_ (by decide) (by decide))
  refine callWith_type1 ?_ hs rfl
  rw [hs]
  refine Calls.spliced_cons (thn (he pins s σ H _ I h) fun u s1 ⟨x, H1, I1, r1, a, ns, hx, hq, h64, q⟩ => ?_)
  subst hx
  cases r1
  refine Calls.spliced_nil ?_
  obtain ⟨its, rv, pl, hz⟩ := I1.list hq
  have hi := intsAre_of rv
  have hlen : its.length = ns.length := hi.length
  refine set_of_list (items := its.toArray) (ns := ns) (I1.ok.hd hc) pl.isList (by simpa using hi) (by rw [List.size_toArray, hlen]; unfold scanBound; omega) fun h2 tk2 hS k2 => ?_
  refine Calls.spliced_nil ?_
  have ez : its.toArray.size = ns.length := by rw [List.size_toArray]; exact hlen
  rw [ez] at hS
  have l64 : (firstMet (fun i => ns.getD i 0) ns.length).length < 64 := by
    have := firstMet_length_le (fun i => ns.getD i 0) ns.length
    omega
  have lt2 : s1.heap.objs.size < h2.objs.size := by
    obtain ⟨o, _, _, _, _, ho, _⟩ := hS
    exact Heap.lt_size ho
  refine sorted_set (s := { s1 with heap := h2, toks := tk2 }) hS (I1.ok.hd hc) l64 fun h3 tk3 d L c out ms i1 i2 i3 k3 gL hL => ?_
  have kp : ∀ b o, s1.heap.get? b = some o → h3.get? b = some o := fun b o q => k3 b o (k2 b o (Heap.lt_size q) q)
  have ge : s1.heap.objs.size ≤ L := Nat.le_trans (Nat.le_of_lt lt2) gL
  refine ⟨.ref L, _, (I1.laid (t' := tk3) kp ge (show ObjOk X.prog X.w _ h3 _ (.lst (ms.map V.int)) from ⟨?_, out.toList, c, vals_ints i1, hL⟩)).draw d, rfl, q L ms (lt_of_le_nodup i3 (i2.nodup_iff.mpr (fm_nodup _ _))) (fun z => i2.mem_iff.trans fm_mem) (I1.hok.fresh ge)⟩
  rw [List.length_map, i2.length_eq, sizeLine_eq]
  omega
end
end L2
namespace L2
open PySem PySem.Spec PyProof.Rows
section
variable {X : Cx} {pins : List (Addr × Obj)} {σ : St} {H : Hp} {s : Shared} {h' : Heap}
theorem Inv.laidTurned {t' : Nat} {fp : List Addr} {a : Addr} {o : HO} (I : Inv X pins σ H s) (k : ∀ b u, b ∉ fp → s.heap.get? b = some u → h'.get? b = some u) (hf : ∀ b ∈ fp, FpOk X pins H b) (hp : s.heap.objs.size ≤ a)
    (new : ObjOk X.prog X.w (upd H a o) h' a o) : Inv X pins σ (upd H a o) { s with heap := h', toks := t' } := by
  have nin : ∀ b u, H b = some u → b ∉ fp := fun b u e z => by rw [(hf b z).1] at e; cases e
  have hn : H a = none := I.hok.fresh hp
  refine I.step (g' := s.gens) (d' := s.drawn) (ch := fp) (fun b hb => ?_) (fun b o _ _ hc e _ => k b o hc e) (fun b o _ _ hc e _ => ⟨o.slots, k b o hc e⟩)
    (fun b u _ q n => by rw [upd_ne (Nat.ne_of_lt (Nat.lt_of_lt_of_le (Heap.lt_size q) hp))]; exact n)
    (fun b o hc e => ⟨o, k b o hc e⟩) (fun b xs q => by rw [upd_ne (ne_of_none q hn)]; exact q) (fun b u xs q => by rw [upd_ne (ne_of_none q hn)]; exact q) (fun b ps q => ⟨#[], by rw [upd_ne (ne_of_none q hn), q]; simp⟩) (fun m hm => ?_) (fun b u e => ?_) I.bare
  · obtain ⟨_, f1, _, f3, f4, f5⟩ := hf b hb
    exact ⟨f3, f1, f4, f5⟩
  · obtain ⟨o, es, ep, ho, r⟩ := hm
    exact ⟨o, es, ep, k _ o (fun z => (hf _ z).2.1 rfl) ho, r⟩
  · by_cases hb : b = a
    · subst hb; rw [upd_same] at e; cases e; exact new
    · rw [upd_ne hb] at e
      refine (I.hok b u e).stay (fun c v hc q => k c v ?_ q) (fun c q => by rw [upd_ne (ne_of_none q hn)]; exact q) fun c xs q => by rw [upd_ne (ne_of_none q hn)]; exact q
      rcases hc with z | z
      · rw [z]; exact nin b u e
      · exact nin c _ z
end
def Ite (K : PySem.W.Frag) (a : Addr) : It :=
  ⟨fun i H => ∃ xs x, SqL K H a xs ∧ xs[i]? = some x, fun i H x H' => ∃ T y, x = .ref T ∧ H T = none ∧ H' = upd H T (.tup [.int (i : Int), y]) ∧ ∀ xs, SqL K H a xs → xs[i]? = some y, fun i H => ∃ xs, SqL K H a xs ∧ xs.length ≤ i⟩
theorem turn_enum {P : Program} {w : World} {K : PySem.W.Frag} {es : List Expr} {k : Nat} {pos : Pos} (a e it : Addr) (hne : e ≠ it) :
    Turn P w K (.Tuple es k pos) (Ite K a) [e, it] e (fun i h => (∃ old, IsEnum h e it (i : Nat) old) ∧ h.IsListIter it a i) where
  mem := by simp
  obj := fun i h st b hb => by
    obtain ⟨⟨old, he⟩, o, e1, c, d⟩ := st
    rcases List.mem_cons.mp hb with z | z
    · subst z
      exact ⟨_, he, fun v z => by cases (show Data.fields _ = Data.cell v from z)⟩
    · have z' : b = it := by simpa using z
      subst z'
      exact ⟨o, e1, fun v z => by rw [d] at z; cases z⟩
  keep := fun i h h' st kk => by
    obtain ⟨⟨old, he⟩, st⟩ := st
    exact ⟨⟨old, kk e (by simp) _ he⟩, st.at fun o q => kk it (by simp) o q⟩
  item := by
    intro X hP hw hK hc i pins s σ H E I hf st hg
    subst hP hw hK
    obtain ⟨xs, x, hq, hx⟩ := hg
    obtain ⟨its, rv, p, hz⟩ := I.list hq
    obtain ⟨u, hu, ru⟩ := rv.get hx
    obtain ⟨⟨old, he⟩, hit⟩ := st
    refine wpAny_pyNext_enum_item he hit p.isList (x := u) (by simpa using hu) hne fun h1 ho hit1 hT hsz hk => ⟨_, rfl, ?_⟩
    refine wpAny_letOwnedTupleGo_enum ho fun h2 he2 sb => ?_
    have fr : H s.heap.objs.size = none := I.hok.fresh (Nat.le_refl _)
    have lte : e < s.heap.objs.size := Heap.lt_size he
    have lti : it < s.heap.objs.size := by obtain ⟨o, q, _⟩ := id hit; exact Heap.lt_size q
    refine ⟨.ref s.heap.objs.size, upd H s.heap.objs.size (.tup [.int (i : Int), x]), ?_, rfl, ⟨_, x, rfl, fr, rfl, fun ys hy => by rw [I.list_inj hy hq]; exact hx⟩, ⟨⟨_, by simpa using he2⟩, hit1.at fun o q => (sb.2 it (Ne.symm hne)).trans q⟩, fun b hb => ?_⟩
    · refine I.laidTurned (fp := [e, it]) (t' := s.toks + 1) (fun b o hb q => (sb.2 b (fun z => hb (by simp [z]))).trans (hk b o (fun z => hb (by simp [z])) (fun z => hb (by simp [z])) q)) hf (Nat.le_refl _) ?_
      refine ⟨by show 2 ≤ sizeLine; decide, [.int i s.toks, u], .cons ⟨_, rfl⟩ (.cons ru .nil), ⟨_, (sb.2 _ (Nat.ne_of_gt lte)).trans hT, rfl, _, rfl⟩⟩
    · rw [upd_ne (fun z => ?_)]
      · exact (hf b hb).1
      · rcases List.mem_cons.mp hb with q | q
        · rw [q] at z; exact absurd lte (by rw [z]; exact Nat.lt_irrefl _)
        · have q' : b = it := by simpa using q
          rw [q'] at z; exact absurd lti (by rw [z]; exact Nat.lt_irrefl _)
  done := by
    intro X hP hw hK hc i pins s σ H E I hf st hg
    subst hP hw hK
    obtain ⟨xs, hq, hx⟩ := hg
    obtain ⟨its, rv, p, hz⟩ := I.list hq
    obtain ⟨f0, f1, f2, f3, f4, f5⟩ := hf it (by simp)
    obtain ⟨⟨old, he⟩, hit⟩ := st
    have hl := rv.length
    exact wpAny_pyNext_enum_end (I.ok.hd hc) he hit p.isList (by simp; omega) fun h' eb => ⟨rfl, I.turned (t' := s.toks) (fun b o hb e => eb b o hb e) f0 f1 f3 f4 f5⟩
  self := fun _ _ _ _ _ st h => by
    obtain ⟨⟨old, he⟩, _⟩ := st
    exact wpAny_pyIter_enum he h
section
variable {X : Cx}
def iEnum (K : PySem.W.Frag) (ta : TA) : TI := fun σ H R => ta σ H fun vs H1 => ∃ a, vs = [.ref a] ∧ (∃ xs, SqL K H1 a xs) ∧ R (Ite K a) H1
theorem pi_enum {l : Expr} {ta : TA} {p pos pt : Pos} {es : List Expr} {k : Nat} (hg : Gl X "enumerate") (hm : X.mg "enumerate" = none) (ha : PA X [l] ta) (hs : starEach [l] X.env = [(false, eval l X.env)] := by rfl) :
    PI X (.Tuple es k pt) (.Call (.Name "enumerate" p) [l] [] pos) (iEnum X.K ta) := by
  intro pins s σ H R I h
  refine Call_ (ld_blt I hg hm boot_enumerate (PyProof.Rows.callWith_type1 (thn (ha pos pins s σ H _ I h) fun us s1 ⟨vs, H1, I1, r1, q1⟩ => ?_) hs rfl))
  obtain ⟨a, e, ⟨xs, hq⟩, q⟩ := q1
  subst e
  cases r1 with
  | cons r rr =>
    cases rr
    cases r
    obtain ⟨its, rv, pl, hz⟩ := I1.list hq
    refine call_enumerate_list pl.isList fun h' he hit hsz hk => ?_
    refine wpAny_pyIter_enum (s := { s1 with heap := h' }) he ?_
    refine ⟨s1.heap.objs.size + 1, [s1.heap.objs.size + 1, s1.heap.objs.size], _, _, H1, rfl, I1.kept (t' := s1.toks) hk, turn_enum a _ _ (Nat.succ_ne_self _), ⟨⟨_, he⟩, hit⟩, fun b hb => ?_, q⟩
    have ge : s1.heap.objs.size ≤ b := by
      rcases List.mem_cons.mp hb with z | z
      · rw [z]; exact Nat.le_succ _
      · have z' : b = s1.heap.objs.size := by simpa using z
        rw [z']; exact Nat.le_refl _
    exact I1.fpOk ge (I1.hok.fresh ge)
end
theorem for_enum {K : PySem.W.Frag} {a : Addr} {xs : List V} {g : TG} {tb : TS} {D : Ends} {σ : St} {H : Hp} (Pv : Nat → St → Hp → Prop) (h0 : Pv 0 σ H) (hl : ∀ i σ H, i ≤ xs.length → Pv i σ H → SqL K H a xs)
    (hs : ∀ i x T σ H, xs[i]? = some x → Pv i σ H → H T = none → g (.ref T) σ (upd H T (.tup [.int (i : Int), x])) fun σ2 H2 => tb { D with nx := Pv (i + 1), ct := Pv (i + 1), bk := D.nx } σ2 H2) (hd : ∀ σ H, Pv xs.length σ H → D.nx σ H) :
    ∃ W : Nat → Nat → St → Hp → Prop, (∃ m, W 0 m σ H) ∧ ∀ i m σ H, W i m σ H →
      ((Ite K a).stop i H ∧ D.nx σ H) ∨ ((Ite K a).go i H ∧ ∃ N : St → Hp → Prop, (∀ σ' H', N σ' H' → ∃ m', m' < m ∧ W (i + 1) m' σ' H') ∧ ∀ x H', (Ite K a).yld i H x H' → g x σ H' fun σ2 H2 => tb { D with nx := N, ct := N, bk := D.nx } σ2 H2) := by
  refine ⟨fun i m σ H => m = xs.length - i ∧ i ≤ xs.length ∧ Pv i σ H, ⟨xs.length, by simp, Nat.zero_le _, h0⟩, ?_⟩
  rintro i m σ H ⟨rfl, hi, p⟩
  have q := hl i σ H hi p
  by_cases hlt : i < xs.length
  · refine .inr ⟨⟨xs, xs[i], q, by simp [hlt]⟩, Pv (i + 1), fun σ' H' p' => ⟨xs.length - (i + 1), by omega, rfl, hlt, p'⟩, fun x H' y => ?_⟩
    obtain ⟨T, y, rfl, hT, rfl, hy⟩ := y
    exact hs i y T σ H (hy xs q) p hT
  · have e : i = xs.length := by omega
    subst e
    exact .inl ⟨⟨xs, q, Nat.le_refl _⟩, hd σ H p⟩
section
variable {X : Cx}
theorem vals_bools : ∀ {bs : List Bool} {us : List Value}, Vals (bs.map V.bl) us → us = bs.map Value.bool
  | [], _, .nil => rfl
  | _ :: _, _, .cons r rr => by
    cases r
    rw [vals_bools rr]
    rfl
theorem all_range (bs : List Bool) : (List.range bs.length).all (fun i => bs.getD i false) = bs.all id := by
  rw [Bool.eq_iff_iff, List.all_eq_true, List.all_eq_true]
  constructor
  · intro h b hb
    obtain ⟨i, hi, rfl⟩ := List.mem_iff_getElem.mp hb
    have := h i (List.mem_range.mpr hi)
    simpa [List.getD_eq_getElem?_getD, hi] using this
  · intro h i hi
    have hi' := List.mem_range.mp hi
    have := h _ (List.getElem_mem hi')
    simpa [List.getD_eq_getElem?_getD, hi'] using this
theorem truth_bools {P : Program} {w : World} {A : Around} {bs : List Bool} : TruthOf P w A (fun i v => (bs.map Value.bool).toArray[i]? = some v) (fun i => bs.getD i false) := by
  intro i v s Q E hP hQ
  have hP' : (bs.map Value.bool)[i]? = some v := by simpa using hP
  rw [List.getElem?_map] at hP'
  cases e : bs[i]? with
  | none => rw [e] at hP'; cases hP'
  | some b =>
    rw [e] at hP'
    have : Value.bool b = v := Option.some.inj hP'
    subst this
    refine wpAny_truthy_bool ?_
    have e2 : bs.getD i false = b := by rw [List.getD_eq_getElem?_getD, e]; rfl
    dsimp only at hQ
    rw [e2] at hQ
    exact hQ
theorem call_all (hc : X.calm = true) {K : PySem.W.Frag} (hK : X.K = K := by rfl) : CallR X (.builtin "all") (fun xs H Q => ∃ (a : Addr) (bs : List Bool), xs = [.ref a] ∧ SqL K H a (bs.map V.bl) ∧ Q (.bl (bs.all id)) H) := by
  subst hK
  intro pins s σ H xs us Q I r h
  obtain ⟨a, bs, rfl, hq, q⟩ := h
  obtain ⟨u, rfl, rx⟩ := vals1 r
  cases rx
  obtain ⟨its, rv, pl, hz⟩ := I.list hq
  have ei := vals_bools rv
  subst ei
  have lt : a < s.heap.objs.size := by obtain ⟨o, q, _⟩ := pl.isList; exact Heap.lt_size q
  refine call_all_walk (wpAny_pyIter_list pl.isList ?_)
  refine ⟨_, _, _, _, _, _, _, rfl, Walks.list (A := X.A.in1) (I.ok.hd hc) s.heap.objs.size a (Nat.ne_of_lt lt) (bs.map Value.bool).toArray, ⟨⟨_, Heap.get?_push_size _ rfl, rfl, rfl⟩, pl.isList.at fun o q => Heap.get?_push_of_some _ q⟩, truth_bools, fun h' tk hk => ?_⟩
  rw [List.size_toArray, List.length_map, all_range]
  exact ⟨.bl _, H, I.kept (t' := tk) fun b o q => hk b o (by simpa using Nat.ne_of_lt (Heap.lt_size q)) (Heap.get?_push_of_some _ q), rfl, q⟩
end
end L2
namespace L2
open PySem PySem.Spec PyProof.Rows
section
variable {X : Cx} {elt iter : Expr} {xs : List Str} {tg : Expr} {g : TG} {pos : Pos} {ifs : List Expr} {sc fsc : Scope} {N Nc : List Str} {wi : TI} {tt : TT} {te : TE}
end
section
variable {X : Cx} {elt iter : Expr} {x1 x2 x3 : Str} {p1 p2 p3 pt pos : Pos} {k : Nat} {ifs : List Expr} {sc fsc : Scope} {N Nc : List Str} {wi : TI} {tt : TT} {te : TE}
end
end L2
namespace L2
open PySem PySem.Spec PyProof.Rows
section
variable {X : Cx}
end
section
variable {X : Cx}
theorem pe_bmK {o e : Expr} {es : List Expr} {to : TE} {t : TA} {name : Str} {apos cpos : Pos} {T id : String} {r : V → List V → Hp → VK → Prop} (K : PySem.W.Frag) (pa : PlainAttrs T) (slot : Slot T name id) (hty : typeOf (.builtin id) = pure (.type "method_descriptor")) (hm : MtR X id r) (ho : PE X o to) (ha : PA X (e :: es) t)
    (hK : X.K = K := by rfl) (hbase : attributeBase o name X.env (eval o X.env) = eval o X.env := by rfl)
    (hfew : ((backTo cpos (starEach (e :: es) X.env)).all (fun x => !x.1) && (backToKw cpos (keywordEach [] X.env)).all (fun x => x.1.isSome)
      && decide ((e :: es).length + ([] : List Keyword).length + (if ([] : List Keyword).isEmpty then 0 else 1) < 30)) = true := by rfl)
    (hline : (apos.endLine == cpos.line) = true := by rfl) (hs : starEach (e :: es) X.env = (false, eval e X.env) :: starEach es X.env := by rfl) (hplain : (backTo cpos (starEach es X.env)).any (·.1) = false := by rfl) :
    PE X (.Call (.Attribute o name apos) (e :: es) [] cpos) (tBM K T r to t) := by
  subst hK
  exact pe_bm pa slot hty hm ho ha hbase hfew hline hs hplain
theorem mt_index {K : PySem.W.Frag} (hK : X.K = K := by rfl) : MtR X "list.index" (fun x vs H Q => ∃ (a : Addr) (ns : List Int) (k : Int), x = .ref a ∧ vs = [.int k] ∧ SqL K H a (ns.map V.int) ∧ k ∈ ns ∧ Q (.int (ns.idxOf k : Nat)) H) := by
  subst hK
  intro pins s σ H x vs v us Q I rx rv h
  obtain ⟨a, ns, k, rfl, rfl, hq, hk, q⟩ := h
  cases rx
  obtain ⟨u, rfl, t, rfl⟩ := vals1 rv
  obtain ⟨its, rv, pl, hz⟩ := I.list hq
  have hi := intsAre_of rv
  have hl := hi.length
  have hj : ns.idxOf k < ns.length := List.idxOf_lt_length_iff.mpr hk
  have hb : ns.length ≤ sizeLine := by rw [List.length_map] at hz; exact hz
  rw [sizeLine_eq] at hb
  obtain ⟨⟨cls, dd, data, sl⟩, ho, hc, n, hd⟩ := pl.isList
  replace hc : cls = .type "list" := hc
  replace hd : data = .seq its.toArray n := hd
  subst hc hd
  refine call_meets PySem.F.slot_list_index ⟨_, ho, rfl⟩ PySem.F.entry_list_index (PySem.F.args_list_index_2 _ _) (PySem.SeqAt.list_indexAt a its.toArray n dd sl (.int k t) (isInt k) (ns.idxOf k) (by rw [List.size_toArray]; omega) (by omega) ?_ ?_) ⟨ho, fun y hy => (eq_isInt k t hi y (by simpa using hy)).at _ _, ?_⟩
  · have : isInt k its[ns.idxOf k] = true := by rw [isInt_at k hi _ (by omega) hj]; simpa using List.getElem_idxOf hj
    exact this
  · intro j hjs hlt
    have : isInt k its[j] = false := by rw [isInt_at k hi j (by simpa using hjs) (by omega)]; exact ne_of_lt_idxOf hlt _
    exact this
  · exact ⟨.int _, H, I.tok _, ⟨_, rfl⟩, q⟩
end
theorem eqv_ints : ∀ ns ms : List Int, PyData.eqvAll (ns.map .int) (ms.map .int) = decide (ns = ms)
  | [], [] => rfl
  | [], _ :: _ => rfl
  | _ :: _, [] => rfl
  | n :: ns, m :: ms => by
    show ((n == m) && PyData.eqvAll (ns.map .int) (ms.map .int)) = _
    rw [eqv_ints ns ms]
    by_cases h : n = m
    · by_cases k : ns = ms
      · subst h; subst k; simp
      · simp [h, k]
    · simp [h]
theorem lay_ints : ∀ ns : List Int, PyData.canLayAll0 (ns.map .int) = true ∧ PyData.depthAll (ns.map .int) ≤ 0
  | [] => ⟨rfl, Nat.le_refl _⟩
  | n :: ns => by
    obtain ⟨h1, h2⟩ := lay_ints ns
    refine ⟨?_, ?_⟩
    · show (true && PyData.canLayAll0 (ns.map .int)) = true
      rw [h1]; rfl
    · show max 0 (PyData.depthAll (ns.map .int)) ≤ 0
      omega
theorem shape_ints (ns : List Int) : SeqAt.shaped (.tuple (ns.map .int)) = true ∧ SeqAt.shaped (.list (ns.map .int)) = true := by
  obtain ⟨h1, h2⟩ := lay_ints ns
  constructor
  · unfold SeqAt.shaped
    rw [Bool.and_eq_true]
    refine ⟨h1, decide_eq_true ?_⟩
    show PyData.depthAll (ns.map .int) + 1 ≤ 64
    omega
  · unfold SeqAt.shaped
    rw [Bool.and_eq_true]
    refine ⟨h1, decide_eq_true ?_⟩
    show PyData.depthAll (ns.map .int) + 1 ≤ 64
    omega
section
variable {X : Cx}
theorem op_neT {K : PySem.W.Frag} (hu : X.A.units + 64 < cLine) (hK : X.K = K := by rfl) : OpR X (compareOp .NotEq) (fun x y H Q => ∃ (a b : Addr) (ns ms : List Int), x = .ref a ∧ y = .ref b ∧ SqT K H a (ns.map V.int) ∧ SqT K H b (ms.map V.int) ∧ Q (.bl (!decide (ns = ms))) H) := by
  intro pins s σ H x y v u Q I rx ry h
  obtain ⟨a, b, ns, ms, rfl, rfl, ha, hb, q⟩ := h
  refine op_neD hu hK pins s σ H _ _ v u Q I rx ry ⟨.tuple (ns.map .int), .tuple (ms.map .int), .tup ha (.ints ns), .tup hb (.ints ms), (shape_ints ns).1, (shape_ints ms).1, ?_⟩
  rw [show PyData.eqv (.tuple (ns.map .int)) (.tuple (ms.map .int)) = decide (ns = ms) from eqv_ints ns ms]
  exact q
end
end L2
namespace L2
open PySem PySem.Spec PyProof.Rows
namespace CutT
open HT
section
variable {prog : Program} {w : World} {A : Around} {E : Value → Shared → Prop} {s : Shared}
end
end CutT
end L2
namespace L2
open PySem PySem.Spec PyProof.Rows
section
variable {prog : Program} {w : World} {A : Around} {E : Value → Shared → Prop} {s : Shared}
theorem tn_item {j t : Addr} {i : Nat} {xs : Array Value} {x : Value} {Q : Value → Shared → Prop} (ji : s.heap.IsTupleIter j t i) (jt : s.heap.IsTuple t xs) (jx : xs[i]? = some x)
    (q : ∀ h', h'.IsTupleIter j t (i + 1) → Heap.SameBut j s.heap h' → Q x { s with heap := h' }) : wpAny (model prog w) A (Builtin.SmallTypes.nextOf (.ref j)) Q E s := by
  obtain ⟨o, jo, jc, jd⟩ := id ji
  obtain ⟨u, ju, _, n, je⟩ := jt
  unfold Builtin.SmallTypes.nextOf; refine wpAny_bind (wpAny_callSpecial?_slot (name := Str.ofString "__next__") ji.typeIs F.slot_tuple_iterator_next (wpAny_call_entry F.slot_tuple_iterator_next ji.typeIs F.entry_tuple_iterator_next ?_ (F.args_tuple_iterator_next_1 _)))
  refine wpAny_bind (m := field (.ref j) 0) (wpAny_field jo jd (x := .ref t) rfl ?_)
  show wpAny _ _ (if (Value.ref t == .none) = true then _ else _) _ _ s; rw [if_neg (show ¬ (Value.ref t == .none) = true from Bool.false_ne_true)]
  refine wpAny_bind (m := field (.ref j) 1) (wpAny_field jo jd (x := .int i 0) rfl ?_)
  refine wpAny_bind (m := seqItems? (.ref t)) (wpAny_seqItems ju je ?_)
  simp only [jx, Int.toNat_natCast]
  refine wpAny_bind (wpAny_setField jo jd (by simp) (wpAny_pure ⟨x, rfl, wpAny_pure (q _ ⟨_, Heap.get?_update_self _ jo (Obj.isFreed_of_fields (Obj.data_mapFields jd _)), (Obj.cls_mapFields ..).trans jc, ?_⟩ (Heap.SameBut.update ..))⟩))
  rw [Obj.data_mapFields jd]; simp [rawInt]
theorem tn_end {j t : Addr} {i : Nat} {xs : Array Value} {Q : Value → Shared → Prop} (hn : A.handled = none) (ji : s.heap.IsTupleIter j t i) (jt : s.heap.IsTuple t xs) (jx : xs[i]? = none)
    (q : ∀ h' e, Heap.ExtBut j s.heap h' → (∃ o, h'.get? e = some o ∧ o.cls = .type "StopIteration") → E (.ref e) { s with heap := h' }) : wpAny (model prog w) A (Builtin.SmallTypes.nextOf (.ref j)) Q E s := by
  obtain ⟨o, jo, jc, jd⟩ := id ji
  obtain ⟨u, ju, _, n, je⟩ := jt
  unfold Builtin.SmallTypes.nextOf; refine wpAny_bind (wpAny_callSpecial?_slot (name := Str.ofString "__next__") ji.typeIs F.slot_tuple_iterator_next (wpAny_call_entry F.slot_tuple_iterator_next ji.typeIs F.entry_tuple_iterator_next ?_ (F.args_tuple_iterator_next_1 _)))
  refine wpAny_bind (m := field (.ref j) 0) (wpAny_field jo jd (x := .ref t) rfl ?_)
  show wpAny _ _ (if (Value.ref t == .none) = true then _ else _) _ _ s; rw [if_neg (show ¬ (Value.ref t == .none) = true from Bool.false_ne_true)]
  refine wpAny_bind (m := field (.ref j) 1) (wpAny_field jo jd (x := .int i 0) rfl ?_)
  refine wpAny_bind (m := seqItems? (.ref t)) (wpAny_seqItems ju je ?_)
  simp only [jx, Int.toNat_natCast]
  refine wpAny_bind (wpAny_rule (wpAny_bind (wpAny_setField jo jd (by simp) (wpAny_bind (m := newExc (.type "StopIteration") []) ?_))))
  simp only [newExc, newTuple]; refine wpAny_bind (wpAny_newObj_type (wpAny_bind (m := firstArgMember _ _) (wpAny_of_eq (a := Value.none) (by first | rfl | (simp only [firstArgMember]; rfl)) (wpAny_newObj_type ?_ (by size_fits)))) (by size_fits))
  simp only [raiseNew]; refine wpAny_bind (wpAny_handled ?_)
  first | rw [show A.in1.handled = none from hn] | rw [hn]
  exact wpAny_bind (wpAny_pure (wpAny_throw (q _ _ (((Heap.SameBut.update ..).extBut.push _).push _) ⟨_, Heap.get?_push_size _ rfl, rfl⟩)))
theorem te_end {e j t : Addr} {i : Nat} {k : Int} {old : Value} {xs : Array Value} {Q : Option Value → Shared → Prop} (hn : A.handled = none) (je : IsEnum s.heap e j k old) (ji : s.heap.IsTupleIter j t i) (jt : s.heap.IsTuple t xs) (jx : xs[i]? = none)
    (q : ∀ h', Heap.ExtBut j s.heap h' → Q none { s with heap := h' }) : wpAny (model prog w) A (pyNext (.ref e)) Q E s := by
  have ty : s.TypeIs (.ref e) "enumerate" := ⟨_, je, rfl⟩
  unfold pyNext; refine wpAny_bind (wpAny_attempt (wpAny_callSpecial?_slot (name := Str.ofString "__next__") ty F.slot_enumerate_next (wpAny_call_entry F.slot_enumerate_next ty F.entry_enumerate_next ?_ (F.args_enumerate_next_1 _))))
  refine wpAny_bind (m := field (.ref e) 2) (wpAny_field je rfl (x := .ref j) rfl (wpAny_bind (tn_end (by simp [hn]) ji jt jx fun h' x y ⟨o, z, c⟩ => ?_)))
  exact wpAny_bind (wpAny_isInstance (T := "StopIteration") (b := true) ⟨o, z, c⟩ isSubtype_stop (wpAny_pure (q _ y)))
theorem tdraws (hn : A.handled = none) (j t : Addr) (hne : t ≠ j) (xs : Array Value) : Draws prog w A j [j, t] xs.size (fun i v => xs[i]? = some v) (fun i h => h.IsTupleIter j t i ∧ h.IsTuple t xs) where
  live := fun _ _ z => let ⟨o, e, _⟩ := z.1; ⟨o, e⟩
  frame := fun _ _ _ z k => ⟨let ⟨o, e, r⟩ := z.1; ⟨o, k j (by simp) o e, r⟩, let ⟨o, e, r⟩ := z.2; ⟨o, k t (by simp) o e, r⟩⟩
  item := fun i s Q E hi z q => tn_item z.1 z.2 (x := xs[i]) (by simp [hi]) fun h' a b => q _ h' s.toks (by simp [hi]) ⟨a, z.2.extBut b.extBut hne⟩ b
  done := fun s Q E z q => tn_end hn z.1 z.2 (by simp) q
theorem tup_enum (t : Addr) (xs : Array Value) (n : Nat) (dct : Option Addr) (sl : Array (Option Value)) :
    Meets (Builtin.«enumerate.__new__» ⟨[.type "enumerate", .ref t], []⟩) (fun _ R s => s.heap.get? t = some { cls := .type "tuple", dict := dct, data := .seq xs n, slots := sl } ∧
      R (.ok (.ret (.ref (s.heap.push { cls := .type "tuple_iterator", data := .fields #[.ref t, .int 0 0] }).objs.size)))
        { s with heap := (s.heap.push { cls := .type "tuple_iterator", data := .fields #[.ref t, .int 0 0] }).push { cls := .type "enumerate", data := .fields #[.none, .bool false, .ref s.heap.objs.size, rawInt 0, .none, .none] } }) :=
  .of_wp fun prog w A R s y => by
    obtain ⟨hp, g, d, tk, os⟩ := s
    obtain ⟨jl, y⟩ := y
    have fs := sub_enumerate
    have fL : Heap.IsTuple (Shared.heap ⟨hp, g, d, tk, os⟩) t xs := ⟨_, jl, rfl, n, rfl⟩
    wp_walk using AutoSeq1.wpAny_loadPart' jl
    refine wpAny_stack_any fun st => wpAny_pure ?_
    split
    · rename_i c _ _ _ _ _
      cases (c == Value.type "enumerate") <;> (wp_walk using AutoSeq1.wpAny_loadPart' jl, wpAny_pyIter_tuple fL; exact ⟨_, rfl, y⟩)
    · wp_walk using AutoSeq1.wpAny_loadPart' jl, wpAny_pyIter_tuple fL; exact ⟨_, rfl, y⟩
theorem call_enumT {t : Addr} {xs : Array Value} {Q : Value → Shared → Prop} (jt : s.heap.IsTuple t xs)
    (q : ∀ h', IsEnum h' (s.heap.objs.size + 1) s.heap.objs.size 0 .none → h'.IsTupleIter s.heap.objs.size t 0 → h'.objs.size = s.heap.objs.size + 2 → (∀ b o, s.heap.get? b = some o → h'.get? b = some o) → Q (.ref (s.heap.objs.size + 1)) { s with heap := h' }) :
    wpAny (model prog w) A (call (.type "enumerate") [.ref t]) Q E s := by
  obtain ⟨⟨c, dct, dt, sl⟩, jl, jc, n, jd⟩ := jt
  cases (show c = .type "tuple" from jc)
  cases (show dt = .seq xs n from jd)
  refine callType_new F.called_enumerate (by decide) (F.typeCall_enumerate_1 _) (F.newCall_enumerate_1 _) (fun o => F.args_object_init_2 o _) F.entry_enumerate_new (tup_enum t xs n dct sl) ⟨jl, ?_⟩
  have z1 : (s.heap.push { cls := .type "tuple_iterator", data := .fields #[.ref t, .int 0 0] }).objs.size = s.heap.objs.size + 1 := Heap.size_push ..
  generalize eh : s.heap.push { cls := .type "tuple_iterator", data := .fields #[.ref t, .int 0 0] } = g1 at z1 ⊢
  have e1 : IsEnum (g1.push { cls := .type "enumerate", data := .fields #[.none, .bool false, .ref s.heap.objs.size, rawInt 0, .none, .none] }) (s.heap.objs.size + 1) s.heap.objs.size 0 .none := by
    rw [← z1]; exact Heap.get?_push_size g1 rfl
  show _ ∧ _; rw [z1]
  refine ⟨⟨_, e1, rfl⟩, q _ e1 ⟨_, Heap.get?_push_of_some _ (by rw [← eh]; exact Heap.get?_push_size _ rfl), rfl, rfl⟩ (by rw [Heap.size_push, z1]) fun b o x => Heap.get?_push_of_some _ (by rw [← eh]; exact Heap.get?_push_of_some _ x)⟩
end
def IteT (K : PySem.W.Frag) (a : Addr) : It :=
  ⟨fun i H => ∃ xs x, SqT K H a xs ∧ xs[i]? = some x, fun i H x H' => ∃ T y, x = .ref T ∧ H T = none ∧ H' = upd H T (.tup [.int (i : Int), y]) ∧ ∀ xs, SqT K H a xs → xs[i]? = some y, fun i H => ∃ xs, SqT K H a xs ∧ xs.length ≤ i⟩
theorem turn_enumT {P : Program} {w : World} {K : PySem.W.Frag} {es : List Expr} {k : Nat} {pos : Pos} (a e it : Addr) (hne : e ≠ it) (hea : e ≠ a) (hia : a ≠ it) :
    Turn P w K (.Tuple es k pos) (IteT K a) [e, it] e (fun i h => (∃ old, IsEnum h e it (i : Nat) old) ∧ h.IsTupleIter it a i) where
  mem := by simp
  obj := fun i h st b hb => by
    obtain ⟨⟨old, he⟩, o, e1, c, d⟩ := st
    rcases List.mem_cons.mp hb with z | z
    · subst z
      exact ⟨_, he, fun v z => by cases (show Data.fields _ = Data.cell v from z)⟩
    · have z' : b = it := by simpa using z
      subst z'
      exact ⟨o, e1, fun v z => by rw [d] at z; cases z⟩
  keep := fun i h h' st kk => by
    obtain ⟨⟨old, he⟩, o, q, r⟩ := st
    exact ⟨⟨old, kk e (by simp) _ he⟩, o, kk it (by simp) o q, r⟩
  item := by
    intro X hP hw hK hc i pins s σ H E I hf st hg
    subst hP hw hK
    obtain ⟨xs, x, hq, hx⟩ := hg
    obtain ⟨its, rv, p, hz⟩ := I.tuple hq
    obtain ⟨u, hu, ru⟩ := rv.get hx
    obtain ⟨⟨old, he⟩, hit⟩ := st
    have pT : s.heap.IsTuple a its.toArray := p
    have hi : i < its.toArray.size := by
      have := (List.getElem?_eq_some_iff.mp hu).1
      simpa using this
    refine wpAny_pyNext_enum_itemD (tdraws (by simp [I.ok.hd hc]) it a hia its.toArray) he ⟨hit, pT⟩ hi hne (by simp [hne, hea]) fun x' h1 tk hPx ho hit1 hT hsz hk => ⟨_, rfl, ?_⟩
    have ex : x' = u := by
      have : its.toArray[i]? = some u := by simpa using hu
      rw [this] at hPx
      exact (Option.some.inj hPx).symm
    subst ex
    refine wpAny_letOwnedTupleGo_enum ho fun h2 he2 sb => ?_
    have fr : H s.heap.objs.size = none := I.hok.fresh (Nat.le_refl _)
    have lte : e < s.heap.objs.size := Heap.lt_size he
    have lti : it < s.heap.objs.size := by obtain ⟨o, q, _⟩ := id hit; exact Heap.lt_size q
    refine ⟨.ref s.heap.objs.size, upd H s.heap.objs.size (.tup [.int (i : Int), x]), ?_, rfl, ⟨_, x, rfl, fr, rfl, fun ys hy => by rw [I.tuple_inj hy hq]; exact hx⟩, ⟨⟨_, by simpa using he2⟩, ?_⟩, fun b hb => ?_⟩
    · refine I.laidTurned (fp := [e, it]) (t' := tk + 1) (fun b o hb q => (sb.2 b (fun z => hb (by simp [z]))).trans (hk b o (fun z => hb (by simp [z])) (fun z => hb (by simp [z])) q)) hf (Nat.le_refl _) ?_
      refine ⟨by show 2 ≤ sizeLine; decide, [.int i tk, x'], .cons ⟨_, rfl⟩ (.cons ru .nil), ⟨_, (sb.2 _ (Nat.ne_of_gt lte)).trans hT, rfl, _, rfl⟩⟩
    · obtain ⟨o, q, r⟩ := hit1.1
      exact ⟨o, (sb.2 it (Ne.symm hne)).trans q, r⟩
    · rw [upd_ne (fun z => ?_)]
      · exact (hf b hb).1
      · rcases List.mem_cons.mp hb with q | q
        · rw [q] at z; exact absurd lte (by rw [z]; exact Nat.lt_irrefl _)
        · have q' : b = it := by simpa using q
          rw [q'] at z; exact absurd lti (by rw [z]; exact Nat.lt_irrefl _)
  done := by
    intro X hP hw hK hc i pins s σ H E I hf st hg
    subst hP hw hK
    obtain ⟨xs, hq, hx⟩ := hg
    obtain ⟨its, rv, p, hz⟩ := I.tuple hq
    obtain ⟨f0, f1, f2, f3, f4, f5⟩ := hf it (by simp)
    obtain ⟨⟨old, he⟩, hit⟩ := st
    have hl := rv.length
    exact te_end (I.ok.hd hc) he hit (show s.heap.IsTuple a its.toArray from p) (by simp; omega) fun h' eb => ⟨rfl, I.turned (t' := s.toks) (fun b o hb e => eb b o hb e) f0 f1 f3 f4 f5⟩
  self := fun _ _ _ _ _ st h => by
    obtain ⟨⟨old, he⟩, _⟩ := st
    exact wpAny_pyIter_enum he h
section
variable {X : Cx}
def iEnumT (K : PySem.W.Frag) (ta : TA) : TI := fun σ H R => ta σ H fun vs H1 => ∃ a, vs = [.ref a] ∧ (∃ xs, SqT K H1 a xs) ∧ R (IteT K a) H1
theorem pi_enumT {l : Expr} {ta : TA} {p pos pt : Pos} {es : List Expr} {k : Nat} (hg : Gl X "enumerate") (hm : X.mg "enumerate" = none) (ha : PA X [l] ta) (hs : starEach [l] X.env = [(false, eval l X.env)] := by rfl) :
    PI X (.Tuple es k pt) (.Call (.Name "enumerate" p) [l] [] pos) (iEnumT X.K ta) := by
  intro pins s σ H R I h
  refine Call_ (ld_blt I hg hm boot_enumerate (PyProof.Rows.callWith_type1 (thn (ha pos pins s σ H _ I h) fun us s1 ⟨vs, H1, I1, r1, q1⟩ => ?_) hs rfl))
  obtain ⟨a, e, ⟨xs, hq⟩, q⟩ := q1
  subst e
  cases r1 with
  | cons r rr =>
    cases rr
    cases r
    obtain ⟨its, rv, pl, hz⟩ := I1.tuple hq
    have pT : s1.heap.IsTuple a its.toArray := pl
    have la : a < s1.heap.objs.size := by obtain ⟨o, z, _⟩ := id pT; exact Heap.lt_size z
    refine call_enumT pT fun h' he hit hsz hk => ?_
    refine wpAny_pyIter_enum (s := { s1 with heap := h' }) he ?_
    refine ⟨s1.heap.objs.size + 1, [s1.heap.objs.size + 1, s1.heap.objs.size], _, _, H1, rfl, I1.kept (t' := s1.toks) hk, turn_enumT a _ _ (Nat.succ_ne_self _) (Nat.ne_of_gt (Nat.lt_succ_of_lt la)) (Nat.ne_of_lt la), ⟨⟨_, he⟩, hit⟩, fun b hb => ?_, q⟩
    have ge : s1.heap.objs.size ≤ b := by
      rcases List.mem_cons.mp hb with z | z
      · rw [z]; exact Nat.le_succ _
      · have z' : b = s1.heap.objs.size := by simpa using z
        rw [z']; exact Nat.le_refl _
    exact I1.fpOk ge (I1.hok.fresh ge)
end
theorem for_enumT {K : PySem.W.Frag} {a : Addr} {xs : List V} {g : TG} {tb : TS} {D : Ends} {σ : St} {H : Hp} (Pv : Nat → St → Hp → Prop) (h0 : Pv 0 σ H) (hl : ∀ i σ H, i ≤ xs.length → Pv i σ H → SqT K H a xs)
    (hs : ∀ i x T σ H, xs[i]? = some x → Pv i σ H → H T = none → g (.ref T) σ (upd H T (.tup [.int (i : Int), x])) fun σ2 H2 => tb { D with nx := Pv (i + 1), ct := Pv (i + 1), bk := D.nx } σ2 H2) (hd : ∀ σ H, Pv xs.length σ H → D.nx σ H) :
    ∃ W : Nat → Nat → St → Hp → Prop, (∃ m, W 0 m σ H) ∧ ∀ i m σ H, W i m σ H →
      ((IteT K a).stop i H ∧ D.nx σ H) ∨ ((IteT K a).go i H ∧ ∃ N : St → Hp → Prop, (∀ σ' H', N σ' H' → ∃ m', m' < m ∧ W (i + 1) m' σ' H') ∧ ∀ x H', (IteT K a).yld i H x H' → g x σ H' fun σ2 H2 => tb { D with nx := N, ct := N, bk := D.nx } σ2 H2) := by
  refine ⟨fun i m σ H => m = xs.length - i ∧ i ≤ xs.length ∧ Pv i σ H, ⟨xs.length, by simp, Nat.zero_le _, h0⟩, ?_⟩
  rintro i m σ H ⟨rfl, hi, p⟩
  have q := hl i σ H hi p
  by_cases hlt : i < xs.length
  · refine .inr ⟨⟨xs, xs[i], q, by simp [hlt]⟩, Pv (i + 1), fun σ' H' p' => ⟨xs.length - (i + 1), by omega, rfl, hlt, p'⟩, fun x H' y => ?_⟩
    obtain ⟨T, y, rfl, hT, rfl, hy⟩ := y
    exact hs i y T σ H (hy xs q) p hT
  · have e : i = xs.length := by omega
    subst e
    exact .inl ⟨⟨xs, q, Nat.le_refl _⟩, hd σ H p⟩
end L2
namespace L2
open PySem PySem.Spec PyProof.Rows
section
variable {P : Program} {w : World} {K : PySem.W.Frag} {mg : Str → Option Value} {base : Heap}
end
section
variable {X : Cx} {k : Nat} {f : Addr} {fd : FuncData} {ps : List Str} {sp : Sp} {x : Str} {p pos : Pos} {e : Expr} {es : List Expr} {t : TA}
end
section
variable {X : Cx}
end
end L2
namespace L2
open PySem PySem.Spec PyProof.Rows
section
variable {prog : Program} {w : World} {A : Around} {E : Value → Shared → Prop} {s : Shared}
end
section
variable {X : Cx}
end
end L2
namespace L2
open PySem PySem.Spec PyProof.Rows
section
variable {P : Program} {w : World} {K : PySem.W.Frag} {mg : Str → Option Value} {base : Heap}
end
section
variable {X : Cx} {CX : CXT} {W : St → XK} {k : Nat} {f C : Addr} {fd : FuncData} {ps : List Str} {sp : Sp} {dvs : List V} {ds : List Value} {E : XK} {x m : Str} {p pos apos : Pos} {e o : Expr} {es : List Expr} {ta : TE} {t : TA}
end
end L2
namespace L2
open PySem PySem.Spec PyProof.Rows
section
variable {X : Cx} {elt iter : Expr} {x : Str} {px pos : Pos} {ifs : List Expr} {sc fsc : Scope} {N Nc : List Str} {wi : TI} {tt : TT} {te : TE}
end
section
variable {X : Cx} {elt iter : Expr} {x y : Str} {py pos : Pos} {ifs : List Expr} {sc sc2 fsc : Scope} {Nc Nd : List Str} {wi : TI} {tt : TT} {te : TE} {cl : List (Str × Addr)} {s : Shared} {H : Hp} {ex : List Addr}
end
end L2
namespace L2
open PySem PySem.W PySem.Spec PyProof.Rows
section
variable {X : Cx} {pins : List (Addr × Obj)} {σ : St} {H : Hp} {s : Shared} {c P : Addr} {pos : Pos} {params : Arguments} {body : Expr} {sc : Scope} {cl : List (Str × Addr)} {q : Str} {M : Model} {A : Around} {E : Value → Shared → Prop} {Q : Value → Shared → Prop}
end
section
variable {X : Cx} {pins : List (Addr × Obj)} {σ : St} {H : Hp} {s : Shared} {params : Arguments} {body : Expr} {sc fsc : Scope} {cl : List (Str × Addr)} {q x : Str} {A : Around} {N Nc : List Str} {f c' : Addr} {te : TE} {E : Value → Shared → Prop}
end
section
variable {X : Cx} {pins : List (Addr × Obj)} {σ : St} {H : Hp}
variable {xs : List V} {l f I S : Addr}
end
section
variable {M : Model} {A : Around} {E : Value → Shared → Prop} {s : Shared} {env : Env}
end
section
variable {X : Cx} {c P : Addr} {e body : Expr} {tl tb : TE} {sc fsc : Scope} {N Nc : List Str} {x : Str} {params : Arguments} {lpos kp p pos : Pos}
end
end L2
namespace L2
open PySem PySem.W PySem.Spec PyProof.Rows
def leaps (mask : Nat) : Nat → Nat → Nat → Nat × Nat
  | 0, i, p => (i, p)
  | m + 1, i, p => leaps mask m (SetTable.leap mask i p).1 (SetTable.leap mask i p).2
theorem leaps_add (mask : Nat) : ∀ (a b i p : Nat), leaps mask (a + b) i p = leaps mask b (leaps mask a i p).1 (leaps mask a i p).2
  | 0, b, i, p => by rw [Nat.zero_add]; rfl
  | a + 1, b, i, p => by
    rw [Nat.add_right_comm]
    exact leaps_add mask a b _ _
theorem leaps_p (mask : Nat) : ∀ (m i p : Nat), (leaps mask m i p).2 = p / 32 ^ m
  | 0, i, p => by show p = p / 1; rw [Nat.div_one]
  | m + 1, i, p => by
    show (leaps mask m _ (p / 32)).2 = _
    rw [leaps_p mask m, Nat.div_div_eq_div_mul, Nat.pow_succ, Nat.mul_comm 32]
theorem leaps_i (mask : Nat) : ∀ (m i p : Nat), i ≤ mask → (leaps mask m i p).1 ≤ mask
  | 0, i, p, h => h
  | m + 1, i, p, h => leaps_i mask m _ _ (Nat.le_of_lt_succ (Nat.mod_lt _ (Nat.succ_pos _)))
def orb (mask : Nat) : Nat → Nat → List Nat
  | 0, _ => []
  | n + 1, i => i :: orb mask n ((i * 5 + 1) % (mask + 1))
theorem orb_mem {mask j : Nat} : ∀ {n i : Nat}, j ∈ orb mask n i → ∃ m, m < n ∧ (leaps mask m i 0).1 = j
  | 0, i, h => by cases h
  | n + 1, i, h => by
    rcases List.mem_cons.mp h with e | h
    · exact ⟨0, Nat.succ_pos _, e.symm⟩
    · obtain ⟨m, h1, h2⟩ := orb_mem h
      exact ⟨m + 1, Nat.succ_lt_succ h1, h2⟩
def Cyc (mask : Nat) : Prop := ((List.range (mask + 1)).all fun i => (List.range (mask + 1)).all fun j => (orb mask (mask + 1) i).contains j) = true
theorem cyc7 : Cyc 7 := by unfold Cyc; decide +kernel
theorem cyc15 : Cyc 15 := by unfold Cyc; decide +kernel
theorem cyc31 : Cyc 31 := by unfold Cyc; decide +kernel
theorem Cyc.at {mask i j : Nat} (h : Cyc mask) (hi : i ≤ mask) (hj : j ≤ mask) : ∃ m, m ≤ mask ∧ (leaps mask m i 0).1 = j := by
  have a := List.all_eq_true.mp h i (List.mem_range.mpr (Nat.lt_succ_of_le hi))
  have b := List.all_eq_true.mp a j (List.mem_range.mpr (Nat.lt_succ_of_le hj))
  obtain ⟨m, h1, h2⟩ := orb_mem (List.contains_iff_mem.mp b)
  exact ⟨m, Nat.le_of_lt_succ h1, h2⟩
theorem fr_none {mask : Nat} {ow : Array (Option Nat)} : ∀ {f i p : Nat}, SetTable.layClean.free mask ow f i p = none → ∀ m, m < f → ow.getD (leaps mask m i p).1 (some 0) ≠ none
  | 0, i, p, _, m, hm => absurd hm (Nat.not_lt_zero _)
  | f + 1, i, p, h, m, hm => by
    unfold SetTable.layClean.free at h
    cases e : (List.range (SetTable.runEnd mask i + 1 - i)).find? (fun k => (ow.getD (i + k) (some 0)).isNone) with
    | some k => rw [e] at h; cases h
    | none =>
      rw [e] at h
      cases m with
      | zero =>
        have r : 0 ∈ List.range (SetTable.runEnd mask i + 1 - i) := List.mem_range.mpr (by unfold SetTable.runEnd; split <;> omega)
        have := List.find?_eq_none.mp e 0 r
        intro z
        apply this
        show (ow.getD (i + 0) (some 0)).isNone = true
        have z' : ow.getD i (some 0) = none := z
        rw [Nat.add_zero, z']
        rfl
      | succ m => exact fr_none (f := f) h m (Nat.lt_of_succ_lt_succ hm)
theorem fr_some {mask : Nat} {ow : Array (Option Nat)} {j : Nat} : ∀ {f i p : Nat}, SetTable.layClean.free mask ow f i p = some j → ow.toList[j]? = some none
  | 0, i, p, h => by cases h
  | f + 1, i, p, h => by
    unfold SetTable.layClean.free at h
    cases e : (List.range (SetTable.runEnd mask i + 1 - i)).find? (fun k => (ow.getD (i + k) (some 0)).isNone) with
    | some k =>
      rw [e] at h
      cases h
      have := List.find?_some e
      have z : ow.getD (i + k) (some 0) = none := by simpa using this
      by_cases c : i + k < ow.size
      · simp [Array.getD, c] at z
        simp [c, z]
      · simp [Array.getD, c] at z
    | none => rw [e] at h; exact fr_some (f := f) h
theorem fr_ok {mask : Nat} {ow : Array (Option Nat)} (hc : Cyc mask) {j i p : Nat} (hj : j ≤ mask) (hf : ow.getD j (some 0) = none) (hi : i ≤ mask) (hp : p < 2 ^ 64) : ∃ k, SetTable.layClean.free mask ow (SetTable.turns mask) i p = some k := by
  cases e : SetTable.layClean.free mask ow (SetTable.turns mask) i p with
  | some k => exact ⟨k, rfl⟩
  | none =>
    exfalso
    obtain ⟨m, h1, h2⟩ := hc.at (leaps_i mask 13 i p hi) hj
    have := fr_none e (13 + m) (by unfold SetTable.turns; omega)
    rw [leaps_add, leaps_p] at this
    have z : p / 32 ^ 13 = 0 := Nat.div_eq_of_lt (Nat.lt_trans hp (by decide))
    rw [z, h2] at this
    exact this hf
theorem set_perm {k : Nat} : ∀ {l : List (Option Nat)} {j : Nat}, l[j]? = some none → ((l.set j (some k)).filterMap id).Perm (k :: l.filterMap id)
  | [], j, h => by cases h
  | x :: l, 0, h => by
    cases Option.some.inj h
    simp
  | x :: l, j + 1, h => by
    have ih := set_perm (k := k) (l := l) (j := j) h
    cases x with
    | none => simpa using ih
    | some y =>
      have e1 : (((some y :: l).set (j + 1) (some k)).filterMap id) = y :: ((l.set j (some k)).filterMap id) := by simp
      have e2 : ((some y :: l).filterMap id) = y :: (l.filterMap id) := by simp
      rw [e1, e2]
      exact (ih.cons y).trans (.swap ..)
theorem full_len : ∀ {l : List (Option Nat)}, (∀ x ∈ l, x ≠ none) → (l.filterMap id).length = l.length
  | [], _ => rfl
  | none :: l, h => absurd rfl (h none (List.mem_cons_self ..))
  | some y :: l, h => by
    have := full_len (l := l) fun x m => h x (List.mem_cons_of_mem _ m)
    simpa using this
def layStep (mask : Nat) (acc : Option (Array (Option Nat) × Nat)) (h : Int) : Option (Array (Option Nat) × Nat) := do
  let (owner, k) ← acc
  let j ← SetTable.layClean.free mask owner (SetTable.turns mask) (SetTable.bits h % (mask + 1)) (SetTable.bits h)
  pure (owner.setIfInBounds j (some k), k + 1)
theorem lay_fold {mask : Nat} (hc : Cyc mask) : ∀ (hs : List Int) (ow : Array (Option Nat)) (k : Nat), ow.size = mask + 1 → (ow.toList.filterMap id).Perm (List.range k) → k + hs.length ≤ mask →
    ∃ ow' : Array (Option Nat), hs.foldl (layStep mask) (some (ow, k)) = some (ow', k + hs.length) ∧ ow'.size = mask + 1 ∧ (ow'.toList.filterMap id).Perm (List.range (k + hs.length))
  | [], ow, k, h1, h2, _ => ⟨ow, rfl, h1, h2⟩
  | h :: hs, ow, k, h1, h2, h3 => by
    have h3' : k + (hs.length + 1) ≤ mask := h3
    obtain ⟨j, hj, hn⟩ : ∃ j, j ≤ mask ∧ ow.getD j (some 0) = none := by
      apply Classical.byContradiction
      intro no
      have all : ∀ x ∈ ow.toList, x ≠ none := fun x m z => by
        obtain ⟨j, hj, e⟩ := List.getElem_of_mem m
        have hj' : j < ow.size := by simpa using hj
        refine no ⟨j, by omega, ?_⟩
        rw [z] at e
        simp [Array.getD, hj'] at e ⊢
        exact e
      have a := full_len all
      have b := h2.length_eq
      rw [a, List.length_range, Array.length_toList] at b
      omega
    have hb : SetTable.bits h < 2 ^ 64 := by unfold SetTable.bits; omega
    obtain ⟨f, hf⟩ := fr_ok hc (i := SetTable.bits h % (mask + 1)) (p := SetTable.bits h) hj hn (Nat.le_of_lt_succ (Nat.mod_lt _ (Nat.succ_pos _))) hb
    have fs := fr_some hf
    have e : layStep mask (some (ow, k)) h = some (ow.setIfInBounds f (some k), k + 1) := by
      show (SetTable.layClean.free mask ow (SetTable.turns mask) (SetTable.bits h % (mask + 1)) (SetTable.bits h) >>= fun j => some (ow.setIfInBounds j (some k), k + 1)) = _
      rw [hf]
      rfl
    have p1 : ((ow.setIfInBounds f (some k)).toList.filterMap id).Perm (List.range (k + 1)) := by
      rw [Array.toList_setIfInBounds, List.range_succ]
      exact ((set_perm fs).trans (h2.cons k)).trans (List.perm_append_comm (l₁ := [k]))
    obtain ⟨ow', g1, g2, g3⟩ := lay_fold hc hs _ (k + 1) (by rw [Array.size_setIfInBounds]; exact h1) p1 (by omega)
    have ek : k + (hs.length + 1) = k + 1 + hs.length := by omega
    refine ⟨ow', ?_, g2, ?_⟩
    · show hs.foldl (layStep mask) (layStep mask (some (ow, k)) h) = some (ow', k + (hs.length + 1))
      rw [e, g1, ek]
    · show (ow'.toList.filterMap id).Perm (List.range (k + (hs.length + 1)))
      rw [ek]
      exact g3
theorem none_fm : ∀ n : Nat, (List.replicate n (none : Option Nat)).filterMap id = []
  | 0 => rfl
  | n + 1 => by rw [List.replicate_succ]; exact none_fm n
theorem laid_all {mask : Nat} (hc : Cyc mask) (fi mo : Nat) (led plain : Bool) {hs : Array Int} (hn : hs.size ≤ mask) :
    ∃ (t : SetTable) (order : Array Nat), SetTable.laid mask fi mo led plain hs = some (t, order) ∧ order.toList.Perm (List.range hs.size) ∧ t.mask = mask ∧ t.dummies = #[] ∧ t.place.size = hs.size ∧ t.led = led ∧ Ris t.place := by
  obtain ⟨ow, g1, g2, g3⟩ := lay_fold hc hs.toList (Array.replicate (mask + 1) none) 0 (by simp) (by rw [Array.toList_replicate, none_fm]; exact .refl _) (by rw [Array.length_toList]; omega)
  rw [Nat.zero_add, Array.length_toList] at g1 g3
  have lc : SetTable.layClean mask hs = some ow := by
    unfold SetTable.layClean
    rw [← Array.foldl_toList]
    show (hs.toList.foldl (layStep mask) (some (Array.replicate (mask + 1) none, 0))).map (·.1) = some ow
    rw [g1]
    rfl
  have el : SetTable.laid mask fi mo led plain hs = some ({ mask, place := (((List.range (mask + 1)).filterMap fun j => (ow.getD j none).map (j, ·)).map (·.1)).toArray, dummies := #[], finger := fi, led, moves := mo, plain }, (((List.range (mask + 1)).filterMap fun j => (ow.getD j none).map (j, ·)).map (·.2)).toArray) := by
    unfold SetTable.laid
    rw [lc]
    rfl
  have es : ((List.range (mask + 1)).filterMap fun j => (ow.getD j none).map (j, ·)).map (·.2) = ow.toList.filterMap id := by
    rw [List.map_filterMap]
    have e1 : (fun j => Option.map (·.2) ((ow.getD j none).map (fun x : Nat => (j, x)))) = fun j => id (ow.getD j none) := by
      funext j
      cases ow.getD j none <;> rfl
    rw [e1, ← g2]
    have e2 : ow.toList = (List.range ow.size).map fun j => ow.getD j none := by
      apply List.ext_getElem
      · simp
      · intro i h1 h2
        have hi : i < ow.size := by simpa using h1
        simp [Array.getD, hi]
    conv => rhs; rw [e2]
    rw [List.filterMap_map]
    rfl
  have pm : (((List.range (mask + 1)).filterMap fun j => (ow.getD j none).map (j, ·)).map (·.2)).Perm (List.range hs.size) := by rw [es]; exact g3
  obtain ⟨r1, r2⟩ := laid_ok el
  refine ⟨_, _, el, ?_, rfl, rfl, ?_, r2, r1⟩
  · rw [List.toList_toArray]
    exact pm
  · rw [List.size_toArray, List.length_map]
    have := pm.length_eq
    rw [List.length_map, List.length_range] at this
    exact this
theorem order_perm {α : Type} {es : Array α} {order : Array Nat} (h : order.toList.Perm (List.range es.size)) : (order.filterMap (es[·]?)).toList.Perm es.toList := by
  rw [Array.toList_filterMap]
  refine (h.filterMap _).trans (.of_eq ?_)
  have e : es.toList = (List.range es.size).filterMap (es[·]?) := by
    have aux : ∀ (n : Nat) (l : List α), n ≤ l.length → (List.range n).filterMap (fun i => l[i]?) = l.take n := fun n l => by
      induction n with
      | zero => intro _; rfl
      | succ n ih =>
        intro hn
        have e : l[n]? = some l[n] := List.getElem?_eq_getElem hn
        rw [List.range_succ, List.filterMap_append, ih (by omega), List.take_succ, e]
        simp [e]
    have := aux es.size es.toList (by simp)
    rw [show es.toList.take es.size = es.toList from List.take_of_length_le (by simp)] at this
    simpa using this.symm
  exact e.symm
theorem above_is : ∀ w : Nat, w ≤ 26 → (SetTable.sizeAbove w - 1 = 7 ∨ SetTable.sizeAbove w - 1 = 15 ∨ SetTable.sizeAbove w - 1 = 31) ∧ w ≤ SetTable.sizeAbove w - 1 ∧ SetTable.sizeAbove w ≤ 32 := by
  have h : ∀ w, w < 27 → (SetTable.sizeAbove w - 1 = 7 ∨ SetTable.sizeAbove w - 1 = 15 ∨ SetTable.sizeAbove w - 1 = 31) ∧ w ≤ SetTable.sizeAbove w - 1 ∧ SetTable.sizeAbove w ≤ 32 := by decide +kernel
  exact fun w hw => h w (Nat.lt_succ_of_le hw)
theorem above_cyc {w : Nat} (h : w ≤ 26) : Cyc (SetTable.sizeAbove w - 1) := by
  rcases (above_is w h).1 with e | e | e <;> rw [e]
  · exact cyc7
  · exact cyc15
  · exact cyc31
section
variable {prog : Program} {w : World} {A : Around} {E : Value → Shared → Prop} {s : Shared}
theorem relay_raw {a : Addr} {o : Obj} {es : Array (Int × Value)} {ep : Nat} {t : SetTable} (ho : s.heap.get? a = some o) (hd : o.data = .set es ep t) (hf : t.fits es.size = true) {wanted : Nat} (hw : wanted ≤ 26) (hn : es.size ≤ wanted) {Q : Unit → Shared → Prop}
    (h : ∀ (es' : Array (Int × Value)) (t' : SetTable), es'.toList.Perm es.toList → t'.dummies = #[] → t'.mask = SetTable.sizeAbove wanted - 1 → t'.place.size = es'.size → t'.led = t.led → Ris t'.place → Q () { s with heap := s.heap.update a (Obj.putSet es' t') }) :
    wpAny (model prog w) A (setRelay a wanted) Q E s := by
  have ab := above_is wanted hw
  obtain ⟨t', order, g1, g2, g3, g4, g5, g6, g7⟩ := laid_all (above_cyc hw) t.finger (t.movedTo (SetTable.sizeAbove wanted - 1)) t.led t.plain (hs := es.map (·.1)) (by rw [Array.size_map]; omega)
  rw [Array.size_map] at g2 g5
  have pr := order_perm g2
  have ez : (order.filterMap (es[·]?)).size = es.size := by rw [← Array.length_toList, pr.length_eq, Array.length_toList]
  have er : t.relaid (es.map (·.1)) wanted = some (t', order) := g1
  have sl : (32 : Nat) ≤ sizeLine := by rw [sizeLine_eq]; decide
  unfold setRelay
  refine wpAny_bind (wpAny_setState_of ho hd hf ?_)
  dsimp only
  rw [if_neg (by omega), er]
  refine wpAny_bind ?_
  refine wpAny_of_eq (a := (order.filterMap (es[·]?), t')) ?_ ?_
  · show (if ((order.filterMap (es[·]?)).size != es.size) = true then _ else _) = _
    rw [if_neg (by rw [ez]; simp)]
  refine wpAny_storeSet_of ho hd ?_ (by show (order.filterMap (es[·]?)).size ≤ sizeLine; omega)
  exact h _ _ pr g4 g3 (by rw [g5, ez]) g6 g7
theorem room_new {a : Addr} {n : Nat} (hn : n ≤ 12) (ho : s.heap.get? a = some (newSetObj w)) {Q : Unit → Shared → Prop}
    (h : ∀ (h' : Heap) (o : Obj) (ep : Nat) (t : SetTable), Heap.SameBut a s.heap h' → h'.get? a = some o → o.ExactSet → o.data = .set #[] ep t → t.place.size = 0 → t.dummies = #[] → Cyc t.mask → n ≤ t.mask → (byText w = true ∨ t.led = true) → Q () { s with heap := h' }) :
    wpAny (model prog w) A (setRoomFor a n) Q E s := by
  have led : byText w = true ∨ (!byText w) = true := by cases byText w <;> simp
  unfold setRoomFor
  refine wpAny_bind (wpAny_setState_of ho rfl rfl ?_)
  dsimp only
  by_cases c : (0 + n) * 5 ≥ 7 * 3
  · have er : (SetTable.fresh 0 0 (!byText w)).roomFor n = some ((0 + n) * 2) := if_pos c
    rw [er]
    dsimp only
    refine relay_raw ho rfl rfl (by omega) (by show 0 ≤ _; omega) fun es' t' p d m z l r => ?_
    have e0 : es' = #[] := by
      have := p.length_eq
      rw [Array.length_toList] at this
      exact Array.eq_empty_of_size_eq_zero this
    subst e0
    refine h _ _ _ t' (Heap.SameBut.update s.heap a _) (store_get ho rfl _ _) ⟨rfl, rfl, rfl⟩ rfl z d ?_ ?_ ?_
    · rw [m]; exact above_cyc (by omega)
    · rw [m]; have := (above_is ((0 + n) * 2) (by omega)).2.1; omega
    · rw [l]; exact led
  · have er : (SetTable.fresh 0 0 (!byText w)).roomFor n = none := if_neg c
    rw [er]
    refine wpAny_pure ?_
    exact h s.heap _ 0 _ (Heap.SameBut.refl a s.heap) ho ⟨rfl, rfl, rfl⟩ rfl rfl rfl cyc7 (by show n ≤ 7; omega) led
theorem merge_new {a b : Addr} {l : List Int} {each : Sem Unit} (ho : s.heap.get? a = some (newSetObj w)) (hne : a ≠ b) (hS : SetI prog w s.heap b l) (hl : l.length ≤ 12) {Q : Unit → Shared → Prop}
    (h : ∀ h', Heap.SameBut a s.heap h' → SetI prog w h' a l → Q () { s with heap := h' }) :
    wpAny (model prog w) A (setMerge a b each) Q E s := by
  obtain ⟨o, es, ep, t, ms, hb0, hex, hd, hel, hi, hp, hb, hf, hw⟩ := hS
  have hlen : es.size = l.length := by
    have := hi.length
    rw [List.length_map, Array.length_toList] at this
    rw [this, hp.length_eq]
  unfold setMerge
  rw [if_neg (by simpa using hne)]
  refine wpAny_bind (wpAny_setState_of hb0 hd hf ?_)
  dsimp only
  by_cases ec : es.isEmpty = true
  · rw [if_pos ec]
    refine wpAny_pure (h s.heap (Heap.SameBut.refl a s.heap) ?_)
    have e0 : l = [] := by
      have : es.size = 0 := by simpa using ec
      exact List.length_eq_zero_iff.mp (by omega)
    rw [e0]
    exact fresh_set ho
  rw [if_neg ec]
  refine wpAny_bind (room_new (by omega) ho fun h1 o1 ep1 ts sb g1 g2 g3 g4 g5 g6 g7 g8 => ?_)
  have ft : ts.fill = 0 := by unfold SetTable.fill; rw [g4, g5]; rfl
  refine wpAny_bind (wpAny_setState_of g1 g3 (by unfold SetTable.fits; rw [ft, g4]; simp) ?_)
  dsimp only
  have sl : (32 : Nat) ≤ sizeLine := by rw [sizeLine_eq]; decide
  cases er : ts.road t with
  | oneByOne =>
    exfalso
    unfold SetTable.road at er
    rw [if_neg (by rw [ft]; simp)] at er
    split at er <;> cases er
  | slotForSlot =>
    dsimp only
    refine wpAny_storeSet_of g1 g3 ?_ (by omega)
    refine h _ (sb.trans (Heap.SameBut.update _ a _)) ⟨_, es, _, _, ms, store_get g1 g3 _ _, g2, rfl, hel, hi, hp, hb, hf, ?_⟩
    rcases hw with hw | hw
    · exact .inl hw
    · rcases g8 with g8 | g8
      · exact .inl g8
      · exact .inr ⟨hw.1, by show (ts.led && t.led) = true; rw [g8, hw.2]; rfl⟩
  | clean =>
    dsimp only
    obtain ⟨t', order, k1, k2, k3, k4, k5, k6, k7⟩ := laid_all g6 ts.finger ts.moves (ts.led && t.led) (ts.plain && t.plain) (hs := es.map (·.1)) (by rw [Array.size_map]; exact g7)
    rw [Array.size_map] at k2 k5
    have pr := order_perm k2
    have ez : (order.filterMap (es[·]?)).size = es.size := by rw [← Array.length_toList, pr.length_eq, Array.length_toList]
    rw [k1]
    refine wpAny_bind ?_
    refine wpAny_of_eq (a := (order.filterMap (es[·]?), t')) ?_ ?_
    · show (if ((order.filterMap (es[·]?)).size != es.size) = true then _ else _) = _
      rw [if_neg (by rw [ez]; simp)]
    dsimp only
    refine wpAny_storeSet_of g1 g3 ?_ (by omega)
    obtain ⟨ms2, i2, p2⟩ := ints_perm (pr.map (·.2)) hi
    refine h _ (sb.trans (Heap.SameBut.update _ a _)) ⟨_, _, _, t', ms2, store_get g1 g3 _ _, g2, rfl, hel.perm pr, i2, p2.trans hp, by rw [ez]; exact hb, ?_, ?_⟩
    · unfold SetTable.fits SetTable.fill
      rw [k5, k4, k3, ez]
      simp
      exact g7
    · rcases hw with hw | hw
      · exact .inl hw
      · rcases g8 with g8 | g8
        · exact .inl g8
        · exact .inr ⟨k7, by rw [k6, g8, hw.2]; rfl⟩
theorem room_any {a : Addr} {l : List Int} {n : Nat} (hl : l.length + n ≤ 13) (hS : SetI prog w s.heap a l) {Q : Unit → Shared → Prop}
    (h : ∀ h', Heap.SameBut a s.heap h' → SetI prog w h' a l → Q () { s with heap := h' }) :
    wpAny (model prog w) A (setRoomFor a n) Q E s := by
  obtain ⟨o, es, ep, t, ms, ho, hex, hd, hel, hi, hp, hb, hf, hw⟩ := id hS
  have hlen : es.size = l.length := by
    have := hi.length
    rw [List.length_map, Array.length_toList] at this
    rw [this, hp.length_eq]
  have hpl : t.place.size = es.size := by
    unfold SetTable.fits at hf
    simp at hf
    exact hf.1
  unfold setRoomFor
  refine wpAny_bind (wpAny_setState_of ho hd hf ?_)
  dsimp only
  by_cases c : (t.fill + n) * 5 ≥ t.mask * 3
  · have er : t.roomFor n = some ((t.place.size + n) * 2) := if_pos c
    rw [er]
    dsimp only
    refine relay_raw ho hd hf (by omega) (by omega) fun es' t' pr d m z l' r => ?_
    obtain ⟨ms2, i2, p2⟩ := ints_perm (pr.map (·.2)) hi
    have ez : es'.size = es.size := by rw [← Array.length_toList, pr.length_eq, Array.length_toList]
    refine h _ (Heap.SameBut.update s.heap a _) ⟨_, es', _, t', ms2, store_get ho hd _ _, hex, rfl, hel.perm pr, i2, p2.trans hp, by rw [ez]; exact hb, ?_, ?_⟩
    · unfold SetTable.fits SetTable.fill
      have := (above_is ((t.place.size + n) * 2) (by omega)).2.1
      rw [z, d, m]
      simp
      omega
    · exact hw.imp id fun x => ⟨r, l'.trans x.2⟩
  · have er : t.roomFor n = none := if_neg c
    rw [er]
    exact wpAny_pure (h s.heap (Heap.SameBut.refl a s.heap) hS)
end
section
variable {prog : Program} {w : World} {A : Around} {E : Value → Shared → Prop} {s : Shared}
theorem walk_one {b : Addr} {o : Obj} {e : Int × Value} {ep : Nat} {t : SetTable} {x : List Addr} {y : Option Addr} (ho : s.heap.get? b = some o) (hd : o.data = .set #[e] ep t) (hf : t.fits 1 = true) {Q : Array (Int × Value) → Shared → Prop} (h : Q #[e] s) :
    wpAny (model prog w) A (setWalkUnseen b x y) Q E s := by
  unfold setWalkUnseen
  refine wpAny_bind (wpAny_setState_of ho hd hf ?_)
  dsimp only
  refine wpAny_bind ?_
  unfold setsByText
  refine wpAny_bind (wpAny_askSetting (wpAny_pure ?_))
  rw [if_pos (by simp)]
  unfold setWalk
  refine wpAny_bind (wpAny_setState_of ho hd hf ?_)
  dsimp only
  refine wpAny_bind ?_
  unfold setsByText
  refine wpAny_bind (wpAny_askSetting (wpAny_pure ?_))
  split
  · refine wpAny_bind (wpAny_askSetting (wpAny_pure ?_))
    have := (pick_perm ((model prog w).w.params.setOrder b ep) #[e])
    have e1 : (pickOrder ((model prog w).w.params.setOrder b ep) #[e]).toList = [e] := List.perm_singleton.mp this
    have e2 : pickOrder ((model prog w).w.params.setOrder b ep) #[e] = #[e] := by
      rw [← Array.toArray_toList (xs := pickOrder ((model prog w).w.params.setOrder b ep) #[e]), e1]
    show Q (pickOrder ((model prog w).w.params.setOrder b ep) #[e]) s
    rw [e2]
    exact h
  · have n1 : ¬ (!t.plain && decide ((#[e] : Array (Int × Value)).size > 1)) = true := by simp
    have n2 : ¬ (!t.led && decide ((#[e] : Array (Int × Value)).size > 1)) = true := by simp
    refine (show wpAny (model prog w) A (if (!t.plain && decide ((#[e] : Array (Int × Value)).size > 1)) = true then _ else _) Q E s from ?_)
    rw [if_neg n1]
    refine wpAny_bind (wpAny_of_eq (a := ()) ?_ ?_)
    · show (if (!t.led && decide ((#[e] : Array (Int × Value)).size > 1)) = true then _ else _) = _
      rw [if_neg n2]
    · exact wpAny_pure h
theorem merge_one {a b : Addr} {l : List Int} {c : Int} {each : Sem Unit} (hne : a ≠ b) (hA : SetI prog w s.heap a l) (l0 : l ≠ []) (hl : l.length ≤ 12) (hB : SetI prog w s.heap b [c])
    (he : ∀ (s' : Shared) (Q' : Unit → Shared → Prop), (∀ o, s.heap.get? b = some o → s'.heap.get? b = some o) → Q' () s' → wpAny (model prog w) A each Q' E s') {Q : Unit → Shared → Prop}
    (h : ∀ h', Heap.SameBut a s.heap h' → SetI prog w h' a (step_dedup l c) → Q () { s with heap := h' }) :
    wpAny (model prog w) A (setMerge a b each) Q E s := by
  obtain ⟨o, es, ep, t, ms, hb0, hex, hd, hel, hi, hp, hb, hf, hw⟩ := id hB
  have em : ms = [c] := List.perm_singleton.mp hp
  subst em
  obtain ⟨hv, tk, ee⟩ : ∃ hv tk, es = #[(hv, Value.int c tk)] := by
    have hl := hi.length
    rw [List.length_map, Array.length_toList] at hl
    have e1 : es.toList.length = 1 := by rw [Array.length_toList]; exact hl
    obtain ⟨x, hx⟩ := List.length_eq_one_iff.mp e1
    rw [hx] at hi
    obtain ⟨hv, v⟩ := x
    cases hi with
    | cons n t h => exact ⟨hv, t, by rw [← Array.toArray_toList (xs := es), hx]⟩
  subst ee
  have eh : hv = (intKind prog w).hash c := by
    obtain ⟨⟨k, k1, k2⟩, _⟩ := hel _ (List.mem_singleton.mpr rfl)
    obtain ⟨t', e⟩ := Value.isInt_shape (show Value.isInt k (Value.int c tk) = true from k1)
    cases e
    exact k2
  subst eh
  unfold setMerge
  rw [if_neg (by simpa using hne)]
  refine wpAny_bind (wpAny_setState_of hb0 hd hf ?_)
  dsimp only
  rw [if_neg (by simp)]
  refine wpAny_bind (room_any (n := 1) (by omega) hA fun h1 sb1 hA1 => ?_)
  have hb1 : h1.get? b = some o := by rw [sb1.2 b (Ne.symm hne)]; exact hb0
  obtain ⟨o2, es2, ep2, t2, ms2, ho2, hex2, hd2, hel2, hi2, hp2, hbb2, hf2, hw2⟩ := id hA1
  refine wpAny_bind (wpAny_setState_of ho2 hd2 hf2 ?_)
  dsimp only
  have fl : t2.fill ≠ 0 := by
    have n2 : es2.size = l.length := by
      have := hi2.length
      rw [List.length_map, Array.length_toList] at this
      rw [this, hp2.length_eq]
    have pl : t2.place.size = es2.size := by
      unfold SetTable.fits at hf2
      simp at hf2
      exact hf2.1
    have : l.length ≠ 0 := fun z => l0 (List.length_eq_zero_iff.mp z)
    unfold SetTable.fill
    omega
  have rd : t2.road t = .oneByOne := by
    unfold SetTable.road
    rw [if_pos (by simpa using fl)]
  rw [rd]
  dsimp only
  refine wpAny_bind (walk_one hb1 hd hf ?_)
  refine wpAny_bind ?_
  rw [← Array.forIn_toList]
  simp only [List.forIn_cons, List.forIn_nil, bind_assoc]
  refine wpAny_bind (wpAny_holding ?_)
  refine add_int (s := { s with heap := h1 }) hA1 (by have : l.length + 1 < scanBound := by unfold scanBound; omega
                                                      exact this) fun h2 bb sb2 hA2 => ?_
  have hb2 : h2.get? b = some o := by rw [sb2.2 b (Ne.symm hne)]; exact hb1
  refine wpAny_bind (he _ _ (fun o' e => by rw [hb0] at e; cases e; exact hb2) ?_)
  refine wpAny_bind (wpAny_setState_of hb2 hd hf ?_)
  dsimp only
  refine wpAny_bind ?_
  rw [if_neg (by simp)]
  refine wpAny_pure ?_
  dsimp only
  exact wpAny_pure (wpAny_pure (h h2 (sb1.trans sb2) hA2))
theorem SetI.typeIs {a : Addr} {l : List Int} (x : SetI prog w s.heap a l) : s.TypeIs (.ref a) "set" := by
  obtain ⟨o, es, ep, t, ms, ho, hex, _⟩ := x
  exact ⟨o, ho, hex.1⟩
theorem any_set {a : Addr} (x : s.TypeIs (.ref a) "set") {Q : Bool → Shared → Prop} (h : Q true s) : wpAny (model prog w) A (Builtin.Frozenset.isAnySet (.ref a)) Q E s := by
  unfold Builtin.Frozenset.isAnySet
  refine wpAny_bind (m := isInstance (.ref a) (.type "set")) (wpAny_isInstance x sub_set_self ?_)
  exact wpAny_pure h
theorem epoch_any {b : Addr} {o : Obj} {es : Array (Int × Value)} {ep : Nat} {t : SetTable} (ho : s.heap.get? b = some o) (hd : o.data = .set es ep t) (hf : t.fits es.size = true) {Q : Nat → Shared → Prop} (h : Q ep s) : wpAny (model prog w) A (setEpoch b) Q E s := by
  unfold setEpoch
  exact wpAny_bind (wpAny_setState_of ho hd hf (wpAny_pure h))
theorem or_sets {a b : Addr} {l : List Int} {c : Int} (hne : a ≠ b) (hA : SetI prog w s.heap a l) (l0 : l ≠ []) (hl : l.length ≤ 12) (hB : SetI prog w s.heap b [c]) {Q : Value → Shared → Prop}
    (h : ∀ h', (∀ x o, s.heap.get? x = some o → h'.get? x = some o) → SetI prog w h' s.heap.objs.size (step_dedup l c) → Q (.ref s.heap.objs.size) { s with heap := h' }) :
    wpAny (model prog w) A (binaryOp .BitOr (.ref a) (.ref b)) Q E s := by
  have en : entryFor table "set.__or__" = some Builtin.«frozenset.__or__» :=
    entryFor_alias (id' := "frozenset.__or__") (by kernel_rfl) (by first | rfl | decide +kernel | (unfold String.splitOn; simp +decide [String.splitOnAux])) (by decide +kernel) (by kernel_rfl)
  refine wpAny_binaryOp_same (op := .BitOr) (T := "set") hA.typeIs hB.typeIs PySem.F.fills_set_or PySem.F.slot_set_or (wpAny_call_entry PySem.F.slot_set_or hA.typeIs en ?_ (PySem.F.args_set_or_2 _ _))
  unfold Builtin.«frozenset.__or__»
  refine wpAny_bind (m := Builtin.Frozenset.slot1 "__or__" ⟨[.ref a, .ref b], []⟩) (wpAny_of_eq (a := (.ref a, .ref b)) rfl ?_)
  dsimp only
  refine wpAny_bind ?_
  refine wpAny_bind (m := Builtin.Frozenset.isAnySet (.ref a)) ?_
  refine any_set hA.typeIs ?_
  refine (show wpAny (model prog w) A.in1 (Builtin.Frozenset.isAnySet (.ref b)) _ E s from ?_)
  refine any_set hB.typeIs ?_
  rw [if_neg (by decide)]
  refine wpAny_bind (m := Builtin.Frozenset.addrOf (.ref a)) (wpAny_of_eq (a := a) rfl ?_)
  refine wpAny_bind ?_
  refine wpAny_bind (m := Builtin.Frozenset.copyOf a) ?_
  unfold Builtin.Frozenset.copyOf
  refine wpAny_bind ?_
  unfold Builtin.Frozenset.baseOf
  refine wpAny_bind (wpAny_isInstance hA.typeIs sub_set_self ?_)
  refine wpAny_pure ?_
  refine wpAny_bind ?_
  unfold newSet
  refine wpAny_bind ?_
  unfold setsByText
  refine wpAny_bind (wpAny_askSetting (wpAny_pure ?_))
  dsimp only
  refine wpAny_newObj_type ?_
  refine wpAny_bind (m := Builtin.Frozenset.addrOf (.ref s.heap.objs.size)) (wpAny_of_eq (a := s.heap.objs.size) rfl ?_)
  have e0 : (s.heap.push (newSetObj w)).get? s.heap.objs.size = some (newSetObj w) := Heap.get?_push_size _ rfl
  have k0 : ∀ x o, s.heap.get? x = some o → (s.heap.push (newSetObj w)).get? x = some o := fun x o e => Heap.get?_push_of_some _ e
  have ltA : a < s.heap.objs.size := by
    obtain ⟨o, _, _, _, _, ho, _⟩ := hA
    exact Heap.lt_size ho
  have ltB : b < s.heap.objs.size := by
    obtain ⟨o, _, _, _, _, ho, _⟩ := hB
    exact Heap.lt_size ho
  refine wpAny_bind ?_
  refine merge_new (s := { s with heap := s.heap.push (newSetObj w) }) e0 (Nat.ne_of_gt ltA) (hA.at fun o e => k0 a o e) hl fun h1 sb1 hS1 => ?_
  refine wpAny_pure ?_
  have hB1 : SetI prog w h1 b [c] := hB.at fun o e => by rw [sb1.2 b (Nat.ne_of_lt ltB)]; exact k0 b o e
  rw [if_pos (by simpa using Ne.symm hne)]
  refine wpAny_bind (m := Builtin.Frozenset.addrOf (.ref s.heap.objs.size)) (wpAny_of_eq (a := s.heap.objs.size) rfl ?_)
  refine wpAny_bind (wpAny_holding ?_)
  unfold Builtin.Frozenset.updateFrom
  refine wpAny_bind (m := Builtin.Frozenset.isAnySet (.ref b)) (any_set hB1.typeIs ?_)
  rw [if_pos rfl]
  refine wpAny_bind (m := Builtin.Frozenset.addrOf (.ref b)) (wpAny_of_eq (a := b) rfl ?_)
  unfold Builtin.Frozenset.merge
  obtain ⟨o2, es2, ep2, t2, ms2, ho2, hex2, hd2, hel2, hi2, hp2, hbb2, hf2, hw2⟩ := id hB1
  refine wpAny_bind (epoch_any ho2 hd2 hf2 ?_)
  refine merge_one (s := { s with heap := h1 }) (Nat.ne_of_gt ltB) hS1 l0 hl hB1 (fun s' Q' k q => ?_) fun h2 sb2 hS2 => ?_
  · unfold Builtin.Frozenset.unchanged
    refine wpAny_bind (epoch_any (k _ ho2) hd2 hf2 ?_)
    rw [if_neg (by simp)]
    exact wpAny_pure q
  refine wpAny_pure (wpAny_pure ⟨_, rfl, (fun z => nomatch z), ?_⟩)
  refine h h2 (fun x o e => ?_) hS2
  have lx : x < s.heap.objs.size := Heap.lt_size e
  rw [sb2.2 x (Nat.ne_of_lt lx)]
  show h1.get? x = some o
  rw [sb1.2 x (Nat.ne_of_lt lx)]
  exact k0 x o e
end
theorem dd_nodup {l : List Int} {c : Int} (h : l.Nodup) : (step_dedup l c).Nodup := by
  unfold step_dedup
  split
  · exact h
  · rename_i n
    refine List.nodup_append.mpr ⟨h, by simp, fun a ha b hb e => ?_⟩
    have : b = c := by simpa using hb
    subst this
    exact n (List.any_eq_true.mpr ⟨a, ha, by simp [e]⟩)
theorem dd_mem {l : List Int} {c z : Int} : z ∈ step_dedup l c ↔ z ∈ l ∨ z = c := by
  unfold step_dedup
  split
  · rename_i n
    obtain ⟨y, hy, ey⟩ := List.any_eq_true.mp n
    have : y = c := by simpa using ey
    subst this
    exact ⟨.inl, fun h => h.elim id fun e => e ▸ hy⟩
  · simp
theorem dd_len {l : List Int} {c : Int} : (step_dedup l c).length ≤ l.length + 1 := by
  unfold step_dedup
  split
  · omega
  · simp
section
variable {X : Cx} {e e2 : Expr} {te te2 : TE} {p p2 p3 pos pos2 pos3 pos4 : Pos}
def tSortedOr (K : PySem.W.Frag) (te te2 : TE) : TE := fun σ H Q => te σ H fun x H1 => ∃ (a : Addr) (ns : List Int), x = .ref a ∧ SqL K H1 a (ns.map V.int) ∧ 0 < ns.length ∧ ns.length ≤ 12 ∧
  te2 σ H1 fun y H2 => ∃ (b : Addr) (c : Int), y = .ref b ∧ SqL K H2 b ([c].map V.int) ∧
    ∀ (l : Addr) (ms : List Int), ms.Pairwise (· < ·) → (∀ z, z ∈ ms ↔ z ∈ ns ∨ z = c) → H2 l = none → Q (.ref l) (upd H2 l (.lst (ms.map V.int)))
theorem set_call (hc : X.calm = true) (hg2 : Gl X "set") (hm2 : X.mg "set" = none) (he : PE X e te) (hs : starEach [e] X.env = [(false, eval e X.env)]) {pins : List (Addr × Obj)} {s : Shared} {σ : St} {H : Hp} (I : Inv X pins σ H s) {R : List Int → Hp → Prop}
    {F : VK} (h : te σ H F) (hF : ∀ x H1, F x H1 → ∃ (a : Addr) (ns : List Int), x = .ref a ∧ SqL X.K H1 a (ns.map V.int) ∧ ns.length ≤ 12 ∧ R ns H1) {Q : Value → Shared → Prop}
    (q : ∀ (S : Addr) (ns : List Int) (H1 : Hp) (s1 : Shared) (o : Obj), ns.length ≤ 12 → R ns H1 → (∀ p ∈ pins, p.1 ≠ S) → s1.heap.get? S = some o → SetI X.prog X.w s1.heap S (firstMet (fun i => ns.getD i 0) ns.length) → Inv X (pins ++ pinsAt [S] s1.heap) σ H1 s1 → Q (.ref S) s1) :
    wpAny (model X.prog X.w) X.A (eval (.Call (.Name "set" p2) [e] [] pos2) X.env) Q X.xe s := by
  refine wpAny_Call_Name_kw (ld_blt I hg2 hm2 boot_set ?_ (by decide) (by decide))
  refine callWith_type1 ?_ hs rfl
  rw [hs]
  refine Calls.spliced_cons (thn (he pins s σ H _ I h) fun u s1 ⟨x, H1, I1, r1, z⟩ => ?_)
  obtain ⟨a, ns, hx, hq, h12, rr⟩ := hF x H1 z
  subst hx
  cases r1
  refine Calls.spliced_nil ?_
  obtain ⟨its, rv, pl, hz⟩ := I1.list hq
  have hi := intsAre_of rv
  have hlen : its.length = ns.length := hi.length
  refine set_of_list (items := its.toArray) (ns := ns) (I1.ok.hd hc) pl.isList (by simpa using hi) (by rw [List.size_toArray, hlen]; unfold scanBound; omega) fun h2 tk2 hS k2 => ?_
  have ez : its.toArray.size = ns.length := by rw [List.size_toArray]; exact hlen
  rw [ez] at hS
  have kp : ∀ b o, s1.heap.get? b = some o → h2.get? b = some o := fun b o z => k2 b o (Heap.lt_size z) z
  have I2 : Inv X pins σ H1 { s1 with heap := h2, toks := tk2 } := I1.kept kp
  obtain ⟨o, es, ep, t, ms, ho, hex, hd, r⟩ := id hS
  have nc : ∀ v, o.data ≠ .cell v := fun v z => by rw [hd] at z; cases z
  refine q s1.heap.objs.size ns H1 _ o h12 rr (fun p hp => (I1.fpOk (Nat.le_refl _) I1.fresh).2.2.2.2.2 p (List.mem_append_right _ hp)) ho hS (I2.pinned (fun b hb => ?_) (fun b hb => ?_))
  · rw [List.mem_singleton.mp hb]
    exact I1.fpOk (Nat.le_refl _) I1.fresh
  · rw [List.mem_singleton.mp hb]
    exact ⟨o, ho, nc⟩
theorem pe_sortedor (hc : X.calm = true) (hg : Gl X "sorted") (hm : X.mg "sorted" = none) (hg2 : Gl X "set") (hm2 : X.mg "set" = none) (he : PE X e te) (he2 : PE X e2 te2)
    (hs : starEach [e] X.env = [(false, eval e X.env)] := by rfl) (hs2 : starEach [e2] X.env = [(false, eval e2 X.env)] := by rfl)
    (hs3 : starEach [(.BinOp (.Call (.Name "set" p2) [e] [] pos2) .BitOr (.Call (.Name "set" p3) [e2] [] pos3) pos4 : Expr)] X.env = [(false, eval (.BinOp (.Call (.Name "set" p2) [e] [] pos2) .BitOr (.Call (.Name "set" p3) [e2] [] pos3) pos4) X.env)] := by rfl) :
    PE X (.Call (.Name "sorted" p) [.BinOp (.Call (.Name "set" p2) [e] [] pos2) .BitOr (.Call (.Name "set" p3) [e2] [] pos3) pos4] [] pos) (tSortedOr X.K te te2) := by
  intro pins s σ H Q I h
  refine wpAny_Call_Name_kw (ld_blt I hg hm boot_sorted ?_ (by decide) (by decide))
  refine callWith_builtin1 ?_ hs3 rfl
  rw [hs3]
  refine Calls.spliced_cons ?_
  refine wpAny_BinOp ?_
  refine set_call hc hg2 hm2 he hs I (R := fun ns H1 => 0 < ns.length ∧ te2 σ H1 fun y H2 => ∃ (b : Addr) (c : Int), y = .ref b ∧ SqL X.K H2 b ([c].map V.int) ∧ ∀ (l : Addr) (ms : List Int), ms.Pairwise (· < ·) → (∀ z, z ∈ ms ↔ z ∈ ns ∨ z = c) → H2 l = none → Q (.ref l) (upd H2 l (.lst (ms.map V.int)))) h (fun x H1 ⟨a, ns, h1, h2, h3, h4, h5⟩ => ⟨a, ns, h1, h2, h4, h3, h5⟩) fun S ns H1 s1 o n12 ⟨n0, q1⟩ nc ho hS I1 => ?_
  refine set_call hc hg2 hm2 he2 hs2 I1 (R := fun cs H2 => ∃ c, cs = [c] ∧ ∀ (l : Addr) (ms : List Int), ms.Pairwise (· < ·) → (∀ z, z ∈ ms ↔ z ∈ ns ∨ z = c) → H2 l = none → Q (.ref l) (upd H2 l (.lst (ms.map V.int)))) q1 (fun x H2 ⟨b, c, h1, h2, h3⟩ => ⟨b, [c], h1, h2, by show 1 ≤ 12; decide, c, rfl, h3⟩) fun S2 cs H2 s2 o2 _ ⟨c, ec, q2⟩ nc2 ho2 hS2 I2 => ?_
  subst ec
  have I3 := I2.unpinned
  have hA : s2.heap.get? S = some o := (I3.pin (S, o) (List.mem_append_right _ (List.mem_append_right _ (mem_pinsAt (List.mem_singleton.mpr rfl) ho)))).1
  have hS' : SetI X.prog X.w s2.heap S (firstMet (fun i => ns.getD i 0) ns.length) := hS.at fun o' e => by rw [ho] at e; cases e; exact hA
  have I4 := I3.unpinned
  have lf := firstMet_length_le (fun i => ns.getD i 0) ns.length
  have ne0 : firstMet (fun i => ns.getD i 0) ns.length ≠ [] := fun z => by
    have m : ns[0] ∈ firstMet (fun i => ns.getD i 0) ns.length := fm_mem.mpr (List.getElem_mem n0)
    rw [z] at m
    cases m
  have neq : S ≠ S2 := nc2 (S, o) (List.mem_append_right _ (mem_pinsAt (List.mem_singleton.mpr rfl) ho))
  have hS3 : SetI X.prog X.w s2.heap S2 [c] := hS2
  refine or_sets neq hS' ne0 (by omega) hS3 fun h3 k3 hU => ?_
  refine Calls.spliced_nil ?_
  have dl := dd_len (l := firstMet (fun i => ns.getD i 0) ns.length) (c := c)
  refine sorted_set (s := { s2 with heap := h3 }) hU (I4.ok.hd hc) (by omega) fun h4 tk4 d L cap out ms i1 i2 i3 k4 gL hL => ?_
  have kp : ∀ b u, s2.heap.get? b = some u → h4.get? b = some u := fun b u z => k4 b u (k3 b u z)
  have ge : s2.heap.objs.size ≤ L := by
    obtain ⟨o', _, _, _, _, ho', _⟩ := hU
    exact Nat.le_trans (Nat.le_of_lt (Heap.lt_size ho')) gL
  refine ⟨.ref L, _, (I4.laid (t' := tk4) kp ge (show ObjOk X.prog X.w _ h4 _ (.lst (ms.map V.int)) from ⟨?_, out.toList, cap, vals_ints i1, hL⟩)).draw d, rfl, q2 L ms (lt_of_le_nodup i3 (i2.nodup_iff.mpr (dd_nodup (fm_nodup _ _)))) (fun z => (i2.mem_iff.trans dd_mem).trans (or_congr fm_mem Iff.rfl)) (I4.hok.fresh ge)⟩
  rw [List.length_map, i2.length_eq, sizeLine_eq]
  omega
end
end L2
set_option maxHeartbeats 4000000
namespace Law
open PySem L2
def spLaw (K : PySem.W.Frag) : Sp := fun vs H Q _ => ∃ (p : Addr) (ns : List Int), vs = [.ref p] ∧ SqL K H p (ns.map V.int) ∧ ns.length ≤ 63 ∧ ∀ H', Q (.bl true) H'
def spWhole : Sp := fun vs H Q _ => ∃ c : Int, vs = [.int c] ∧ Q (.bl true) H
theorem same_new {H : Hp} {p : Addr} (h : H p = none) (o : HO) : Same H (upd H p o) := fun b u q => by rw [upd_ne (ne_of_none q h)]; exact q
theorem fmod_in (x : Int) {y : Int} (h : 0 < y) : 0 ≤ x.fmod y ∧ x.fmod y < y := ⟨Int.fmod_nonneg_of_pos x h, Int.fmod_lt_of_pos x h⟩
theorem sz_fmod (x : Int) {y : Int} {n : Nat} (h : 0 < y) (k : Sz n y) : Sz n (x.fmod y) := by
  have e := fmod_in x h
  unfold Sz at k ⊢
  omega
def bit (m : Int) (i : Nat) : Bool := decide (m / 2 ^ i % 2 = 1)
def msum : Nat → (Nat → Bool) → Int
  | 0, _ => 0
  | n + 1, f => (if f 0 = true then 1 else 0) + 2 * msum n (fun i => f (i + 1))
theorem bit_half (s : Int) (i : Nat) : bit (s / 2) i = bit s (i + 1) := by
  unfold bit
  rw [Int.ediv_ediv_of_nonneg (by decide : (0 : Int) ≤ 2)]
  have e : (2 : Int) * 2 ^ i = 2 ^ (i + 1) := by rw [Int.pow_succ, Int.mul_comm]
  rw [e]
theorem bit_zero (s : Int) : bit s 0 = decide (s % 2 = 1) := by
  unfold bit
  rw [Int.pow_zero, Int.ediv_one]
theorem msum_nonneg : ∀ n f, 0 ≤ msum n f
  | 0, _ => Int.le_refl _
  | n + 1, f => by
    have := msum_nonneg n (fun i => f (i + 1))
    show 0 ≤ (if f 0 = true then (1 : Int) else 0) + 2 * msum n (fun i => f (i + 1))
    split <;> omega
theorem msum_lt : ∀ n f, msum n f < 2 ^ n
  | 0, _ => by show (0 : Int) < 1; decide
  | n + 1, f => by
    have := msum_lt n (fun i => f (i + 1))
    show (if f 0 = true then (1 : Int) else 0) + 2 * msum n (fun i => f (i + 1)) < 2 ^ (n + 1)
    rw [Int.pow_succ]
    split <;> omega
theorem msum_half (n f) : msum (n + 1) f / 2 = msum n (fun i => f (i + 1)) := by
  show ((if f 0 = true then (1 : Int) else 0) + 2 * msum n (fun i => f (i + 1))) / 2 = _
  split <;> omega
theorem msum_odd (n f) : (msum (n + 1) f % 2 = 1) ↔ f 0 = true := by
  show (((if f 0 = true then (1 : Int) else 0) + 2 * msum n (fun i => f (i + 1))) % 2 = 1) ↔ _
  split <;> rename_i h
  · exact ⟨fun _ => h, fun _ => by omega⟩
  · exact ⟨fun e => by omega, fun e => absurd e h⟩
theorem msum_congr : ∀ n {f g : Nat → Bool}, (∀ i, i < n → f i = g i) → msum n f = msum n g
  | 0, _, _, _ => rfl
  | n + 1, f, g, h => by
    show (if f 0 = true then (1 : Int) else 0) + 2 * msum n (fun i => f (i + 1)) = (if g 0 = true then (1 : Int) else 0) + 2 * msum n (fun i => g (i + 1))
    rw [h 0 (by omega), msum_congr n (f := fun i => f (i + 1)) (g := fun i => g (i + 1)) fun i hi => h (i + 1) (by omega)]
theorem msum_succ : ∀ n f, msum (n + 1) f = msum n f + (if f n = true then 2 ^ n else 0)
  | 0, f => by
    show (if f 0 = true then (1 : Int) else 0) + 2 * 0 = 0 + (if f 0 = true then (1 : Int) else 0)
    split <;> decide
  | n + 1, f => by
    show (if f 0 = true then (1 : Int) else 0) + 2 * msum (n + 1) (fun i => f (i + 1)) = (if f 0 = true then (1 : Int) else 0) + 2 * msum n (fun i => f (i + 1)) + (if f (n + 1) = true then 2 ^ (n + 1) else 0)
    rw [msum_succ n (fun i => f (i + 1)), Int.pow_succ]
    split <;> split <;> omega
theorem bit_msum : ∀ n f i, bit (msum n f) i = (decide (i < n) && f i)
  | 0, f, i => by
    unfold bit
    show decide ((0 : Int) / 2 ^ i % 2 = 1) = _
    rw [Int.zero_ediv]
    rfl
  | n + 1, f, 0 => by
    rw [bit_zero]
    by_cases h : f 0 = true
    · rw [decide_eq_true ((msum_odd n f).mpr h), h]; rfl
    · rw [decide_eq_false (fun e => h ((msum_odd n f).mp e)), Bool.eq_false_iff.mpr h]; rfl
  | n + 1, f, i + 1 => by
    rw [← bit_half, msum_half, bit_msum n]
    have : decide (i < n) = decide (i + 1 < n + 1) := by
      by_cases h : i < n
      · rw [decide_eq_true h, decide_eq_true (by omega)]
      · rw [decide_eq_false h, decide_eq_false (by omega)]
    rw [this]
def hands (n : Nat) (f : Nat → Bool) : List Int := ((List.range n).filter f).map fun i : Nat => (i : Int)
theorem hands_succ (n : Nat) (f : Nat → Bool) : hands (n + 1) f = if f n = true then hands n f ++ [(n : Int)] else hands n f := by
  unfold hands
  rw [List.range_succ, List.filter_append, List.map_append]
  by_cases h : f n = true
  · rw [if_pos h]; simp [h]
  · rw [if_neg h]
    have h' : f n = false := by simpa using h
    simp [h']
theorem hands_len (n : Nat) (f : Nat → Bool) : (hands n f).length ≤ n := by
  unfold hands
  rw [List.length_map]
  exact Nat.le_trans (List.length_filter_le _ _) (by simp)
theorem hands_mem {n : Nat} {f : Nat → Bool} {z : Int} : z ∈ hands n f ↔ ∃ i : Nat, i < n ∧ f i = true ∧ z = (i : Int) := by
  unfold hands
  rw [List.mem_map]
  constructor
  · rintro ⟨i, hi, rfl⟩
    obtain ⟨h1, h2⟩ := List.mem_filter.mp hi
    exact ⟨i, List.mem_range.mp h1, h2, rfl⟩
  · rintro ⟨i, h1, h2, rfl⟩
    exact ⟨i, List.mem_filter.mpr ⟨List.mem_range.mpr h1, h2⟩, rfl⟩
def bsum (hs : List Int) : Int := (hs.map fun h => (1 : Int) * 2 ^ h.toNat).sum
theorem bsum_hands : ∀ n f, bsum (hands n f) = msum n f
  | 0, f => rfl
  | n + 1, f => by
    rw [hands_succ, msum_succ]
    by_cases h : f n = true
    · rw [if_pos h, if_pos h]
      unfold bsum
      rw [List.map_append, List.sum_append]
      have := bsum_hands n f
      unfold bsum at this
      rw [this]
      simp
    · rw [if_neg h, if_neg h, bsum_hands n f]
      omega
def ins (x : Int) : List Int → List Int
  | [] => [x]
  | y :: r => if x < y then x :: y :: r else if x = y then y :: r else y :: ins x r
def sset : List Int → List Int
  | [] => []
  | x :: r => ins x (sset r)
theorem ins_mem {x z : Int} : ∀ {l : List Int}, z ∈ ins x l ↔ z = x ∨ z ∈ l
  | [] => by unfold ins; simp
  | y :: r => by
    unfold ins
    split
    · simp
    · split
      · rename_i h; subst h; simp
      · rw [List.mem_cons, ins_mem (l := r), List.mem_cons]
        constructor
        · rintro (h | h | h)
          · exact .inr (.inl h)
          · exact .inl h
          · exact .inr (.inr h)
        · rintro (h | h | h)
          · exact .inr (.inl h)
          · exact .inl h
          · exact .inr (.inr h)
theorem ins_rise {x : Int} : ∀ {l : List Int}, l.Pairwise (· < ·) → (ins x l).Pairwise (· < ·)
  | [], _ => by unfold ins; simp
  | y :: r, h => by
    unfold ins
    rw [List.pairwise_cons] at h
    split
    · rename_i c
      rw [List.pairwise_cons]
      refine ⟨fun z hz => ?_, List.pairwise_cons.mpr h⟩
      rcases List.mem_cons.mp hz with e | e
      · omega
      · have := h.1 z e; omega
    · split
      · exact List.pairwise_cons.mpr h
      · rename_i c d
        rw [List.pairwise_cons]
        refine ⟨fun z hz => ?_, ins_rise h.2⟩
        rcases ins_mem.mp hz with e | e
        · omega
        · exact h.1 z e
theorem sset_mem {z : Int} : ∀ {l : List Int}, z ∈ sset l ↔ z ∈ l
  | [] => Iff.rfl
  | x :: r => by
    show z ∈ ins x (sset r) ↔ _
    rw [ins_mem, sset_mem, List.mem_cons]
theorem sset_rise : ∀ l : List Int, (sset l).Pairwise (· < ·)
  | [] => .nil
  | x :: r => ins_rise (sset_rise r)
theorem rise_uniq : ∀ {a b : List Int}, a.Pairwise (· < ·) → b.Pairwise (· < ·) → (∀ z, z ∈ a ↔ z ∈ b) → a = b
  | [], [], _, _, _ => rfl
  | [], y :: b, _, _, h => nomatch (h y).mpr (List.mem_cons_self ..)
  | x :: a, [], _, _, h => nomatch (h x).mp (List.mem_cons_self ..)
  | x :: a, y :: b, ha, hb, h => by
    rw [List.pairwise_cons] at ha hb
    have e : x = y := by
      rcases List.mem_cons.mp ((h x).mp (List.mem_cons_self ..)) with e | e
      · exact e
      · rcases List.mem_cons.mp ((h y).mpr (List.mem_cons_self ..)) with f | f
        · exact f.symm
        · have := ha.1 y f
          have := hb.1 x e
          omega
    subst e
    rw [rise_uniq ha.2 hb.2 fun z => ?_]
    constructor
    · intro hz
      rcases List.mem_cons.mp ((h z).mp (List.mem_cons_of_mem _ hz)) with e | e
      · have := ha.1 z hz; omega
      · exact e
    · intro hz
      rcases List.mem_cons.mp ((h z).mpr (List.mem_cons_of_mem _ hz)) with e | e
      · have := hb.1 z hz; omega
      · exact e
theorem sset_of {ms ns : List Int} (h : ms.Pairwise (· < ·)) (m : ∀ z, z ∈ ms ↔ z ∈ ns) : ms = sset ns := rise_uniq h (sset_rise ns) fun z => (m z).trans sset_mem.symm
theorem sset_len : ∀ l : List Int, (sset l).length ≤ l.length
  | [] => Nat.le_refl _
  | x :: r => by
    have ih := sset_len r
    have : ∀ l : List Int, (ins x l).length ≤ l.length + 1 := by
      intro l
      induction l with
      | nil => exact Nat.le_refl _
      | cons y l ihl =>
        unfold ins
        split
        · exact Nat.le_refl _
        · split
          · exact Nat.le_succ _
          · exact Nat.succ_le_succ ihl
    exact Nat.le_trans (this (sset r)) (Nat.succ_le_succ ih)
def isR (rs : List Int) (r : Int) (i : Nat) : Bool := decide (rs[i]? = some r)
def tierOf (rs : List Int) (r : Int) : Int := msum rs.length (isR rs r)
def tiersOf (rs : List Int) : List Int := ((sset rs).filter fun r => decide (0 < r)).map (tierOf rs)
def spC40 (K : PySem.W.Frag) : Sp := fun vs H Q _ => ∃ (p : Addr) (ns : List Int) (k : Int), vs = [.ref p, .int k] ∧ SqL K H p (ns.map V.int) ∧ ns.length ≤ 63 ∧ 0 ≤ k ∧ k ≤ 1000 ∧ ∀ z : Int, 0 ≤ z → z < 10 ^ 40 → Q (.int z) H
def spMixed : Sp := fun vs H Q _ => ∃ c b : Int, vs = [.int c, .int b] ∧ Sz 200 c ∧ Sz 64 b ∧ ∀ z : Int, 0 ≤ z → z < 10 ^ 18 → Q (.int z) H
theorem sz40 {c : Int} (h0 : 0 ≤ c) (h : c < 10 ^ 40) : Sz 200 c := sz_of (by omega) (by omega)
theorem mix_end (x : Int) : 0 ≤ (x.fmod ((10 : Int) ^ (18 : Int).toNat + 3)).fdiv 7 ∧ (x.fmod ((10 : Int) ^ (18 : Int).toNat + 3)).fdiv 7 < 10 ^ 18 := by
  have h := fmod_in x (show (0 : Int) < (10 : Int) ^ (18 : Int).toNat + 3 by decide)
  generalize x.fmod ((10 : Int) ^ (18 : Int).toNat + 3) = y at h ⊢
  rw [Int.fdiv_eq_ediv_of_nonneg y (by decide)]
  have e : (10 : Int) ^ (18 : Int).toNat = 1000000000000000000 := by decide
  rw [e] at h
  omega
theorem same_upd {H H' : Hp} {l : Addr} {o : HO} (s : Same H H') (n : H l = none) : Same H (upd H' l o) := fun b u e => by
  rw [upd_ne (ne_of_none e n)]
  exact s b u e
theorem ifT {c : Bool} {A B : Prop} (e : c = true) (h : A) : if c = true then A else B := by rw [if_pos e]; exact h
theorem ifF {c : Bool} {A B : Prop} (e : c = false) (h : B) : if c = true then A else B := by rw [if_neg (by rw [e]; decide)]; exact h
theorem eq_t {a b : Int} (h : a = b) : decide (V.int a = V.int b) = true := by rw [h]; exact decide_eq_true rfl
theorem eq_f {a b : Int} (h : a ≠ b) : decide (V.int a = V.int b) = false := decide_eq_false fun e => h (V.int.inj e)
theorem int_at {ns : List Int} {i : Nat} {x : V} (h : (ns.map V.int)[i]? = some x) : ∃ z, ns[i]? = some z ∧ x = .int z := by
  rw [List.getElem?_map] at h
  cases e : ns[i]? with
  | none => rw [e] at h; cases h
  | some z => rw [e] at h; exact ⟨z, rfl, (Option.some.inj h).symm⟩
theorem atN {ns : List Int} {i : Nat} {z : Int} (h : ns[i]? = some z) : atI (ns.map V.int) (i : Int) = some (.int z) := atI_nat (by rw [List.getElem?_map, h]; rfl)
def spRanks (K : PySem.W.Frag) : Sp := fun vs H Q _ => ∃ (p : Addr) (ns : List Int) (k h : Int), vs = [.ref p, .int k, .int h] ∧ SqL K H p (ns.map V.int) ∧ ns.length ≤ 63 ∧ 0 ≤ k ∧ k ≤ 900 ∧ 1 ≤ h ∧ h ≤ 12 ∧
  ∀ (l : Addr) (rs : List Int) (H' : Hp), H l = none → Same H H' → H' l = some (.lst (rs.map V.int)) → (rs.length : Int) = h → (∀ r ∈ rs, 0 ≤ r ∧ r ≤ 1000000000) → Q (.ref l) H'
def spTier (K : PySem.W.Frag) : Sp := fun vs H Q _ => ∃ (p : Addr) (rs : List Int) (r : Int), vs = [.ref p, .int r] ∧ SqL K H p (rs.map V.int) ∧ rs.length ≤ 12 ∧ ∀ H' : Hp, Same H H' → Q (.int (tierOf rs r)) H'
def spSlip (K : PySem.W.Frag) : Sp := fun vs H Q _ => ∃ (p : Addr) (rs : List Int), vs = [.ref p] ∧ SqL K H p (rs.map V.int) ∧ rs.length ≤ 12 ∧
  ∀ (t : Addr) (H' : Hp), H t = none → Same H H' → H' t = some (.tup ((tiersOf rs).map V.int)) → Q (.ref t) H'
theorem pow_small {h : Nat} (hh : h < 64) : CPow 1 (h : Int) := ⟨by omega, by omega, by decide⟩
theorem and1 (x : Int) : Builtin.bitAnd x 1 = x % 2 := PySem.W.kbt_mask x 1
theorem holds_bit (m : Int) (h : Int) : decide (V.int (Builtin.bitAnd (m / 2 ^ h.toNat) 1) = V.int 1) = bit m h.toNat := by
  unfold bit
  rw [and1]
  by_cases c : m / 2 ^ h.toNat % 2 = 1
  · rw [decide_eq_true c, decide_eq_true (congrArg V.int c)]
  · rw [decide_eq_false c, decide_eq_false fun e => c (V.int.inj e)]
theorem mod_bit (m : Int) (i : Nat) : m / 2 ^ i % 2 = if bit m i = true then 1 else 0 := by
  have e : m / 2 ^ i % 2 = 0 ∨ m / 2 ^ i % 2 = 1 := by omega
  unfold bit
  rcases e with e | e
  · rw [e]; rfl
  · rw [e]; rfl
theorem more_is (m : Int) (h : Nat) : Builtin.bitOr m (1 * 2 ^ h) = m + 2 ^ h * (if (!bit m h) = true then 1 else 0) := by
  rw [Int.one_mul, PyProof.Rows.bitOr_and, PySem.W.kbt_bit, mod_bit]
  cases bit m h <;> simp
theorem or_msum (n : Nat) (f : Nat → Bool) : Builtin.bitOr (msum n f) (1 * 2 ^ n) = msum n f + 2 ^ n := by
  rw [more_is, bit_msum, decide_eq_false (Nat.lt_irrefl n)]
  simp
def spWith : Sp := fun vs H Q _ => ∃ m h : Int, vs = [.int m, .int h] ∧ 0 ≤ h ∧ h < 12 ∧ Q (.int (Builtin.bitOr m (1 * 2 ^ h.toNat))) H
def spMembers : Sp := fun vs H Q _ => ∃ m : Int, vs = [.int m] ∧ 0 ≤ m ∧ m < 4096 ∧ ∀ (p : Addr) (H' : Hp), H p = none → Same H H' → H' p = some (.lst ((hands 12 (bit m)).map V.int)) → Q (.ref p) H'
def spRank : Sp := fun vs H Q _ => ∃ r : Int, vs = [.int r] ∧ 0 ≤ r ∧ r ≤ 1000000000 ∧ Q (.bl true) H
def spAre (K : PySem.W.Frag) : Sp := fun vs H Q _ => ∃ (p : Addr) (rs : List Int), vs = [.ref p, .int (rs.length : Nat)] ∧ H p = some (.lst (rs.map V.int)) ∧ rs.length ≤ 12 ∧ (∀ r ∈ rs, 0 ≤ r ∧ r ≤ 1000000000) ∧ ∀ H' : Hp, Same H H' → Q (.bl true) H'
def spSlipOf (K : PySem.W.Frag) : Sp := fun vs H Q _ => ∃ (p : Addr) (rs : List Int), vs = [.ref p, .int (rs.length : Nat)] ∧ H p = some (.lst (rs.map V.int)) ∧ rs.length ≤ 12 ∧ (∀ r ∈ rs, 0 ≤ r ∧ r ≤ 1000000000) ∧
  ∀ (t : Addr) (H' : Hp), H t = none → Same H H' → H' t = some (.tup ((tiersOf rs).map V.int)) → Q (.ref t) H'
def spSameSlip : Sp := fun vs H Q _ => ∃ (a b : Addr) (ts : List Int), vs = [.ref a, .ref b] ∧ H a = some (.tup (ts.map V.int)) ∧ H b = some (.tup (ts.map V.int)) ∧ Q (.bl true) H
theorem bit_high {m : Int} {i : Nat} (h0 : 0 ≤ m) (h : m < 2 ^ i) : bit m i = false := by
  unfold bit
  rw [Int.ediv_eq_zero_of_lt h0 h]
  decide
theorem hands_more {m : Int} {k : Nat} (h0 : 0 ≤ m) (h : m < 2 ^ k) : ∀ d : Nat, hands (k + d) (bit m) = hands k (bit m)
  | 0 => rfl
  | d + 1 => by
    have p : (2 : Int) ^ k ≤ 2 ^ (k + d) := by
      have q : 2 ^ k ≤ 2 ^ (k + d) := Nat.pow_le_pow_right (by decide) (by omega)
      have e1 : ((2 ^ k : Nat) : Int) = (2 : Int) ^ k := by simp
      have e2 : ((2 ^ (k + d) : Nat) : Int) = (2 : Int) ^ (k + d) := by simp
      omega
    show hands ((k + d) + 1) (bit m) = hands k (bit m)
    rw [hands_succ, bit_high h0 (by omega), if_neg (by decide), hands_more h0 h d]
theorem bits_all {m : Int} (h0 : 0 ≤ m) (h : m < 4096) : hands (Builtin.Int.intBits m) (bit m) = hands 12 (bit m) := by
  have b : Builtin.Int.intBits m ≤ 12 := intBits_le_iff.mpr (by show m.natAbs < 4096; omega)
  have l : m.natAbs < 2 ^ Builtin.Int.intBits m := intBits_le_iff.mp (Nat.le_refl _)
  have l' : m < (2 : Int) ^ Builtin.Int.intBits m := by
    have e : ((2 ^ Builtin.Int.intBits m : Nat) : Int) = (2 : Int) ^ Builtin.Int.intBits m := by simp
    omega
  obtain ⟨d, hd⟩ : ∃ d, 12 = Builtin.Int.intBits m + d := ⟨12 - Builtin.Int.intBits m, by omega⟩
  rw [hd, hands_more h0 l' d]
theorem none_of' {H H' : Hp} {a : Addr} (s : Same H H') (h : H' a = none) : H a = none := by
  cases e : H a with
  | none => rfl
  | some u => rw [s _ _ e] at h; cases h
def rk (ts : List Int) (h : Nat) : Nat → Int
  | 0 => 0
  | i + 1 => if bit (ts.getD i 0) h = true then (i : Int) + 1 else rk ts h i
def ranksOf (ts : List Int) (n : Nat) : List Int := (List.range n).map fun h => rk ts h ts.length
theorem ixN_nat {n i : Nat} (h : i < n) : ixN n (i : Int) = some i := by
  unfold ixN
  rw [if_pos (by omega)]
  simp [h]
theorem set_range {n k : Nat} (f : Nat → Int) (v : Int) (hk : k < n) : ((List.range n).map f).set k v = (List.range n).map fun h => if h = k then v else f h := by
  apply List.ext_getElem
  · simp
  · intro i h1 h2
    rw [List.getElem_set]
    by_cases c : k = i
    · subst c; simp
    · rw [if_neg c]; simp [Ne.symm c]
theorem bit_tier {rs : List Int} {h : Nat} {c : Int} (u : Int) (e : rs[h]? = some c) : bit (tierOf rs u) h = decide (c = u) := by
  obtain ⟨hi, _⟩ := List.getElem?_eq_some_iff.mp e
  unfold tierOf
  rw [bit_msum, decide_eq_true hi, Bool.true_and]
  unfold isR
  rw [e]
  by_cases z : c = u
  · rw [decide_eq_true z, decide_eq_true (by rw [z])]
  · rw [decide_eq_false z, decide_eq_false (fun y => z (Option.some.inj y))]
theorem idx_get : ∀ {us : List Int} {i : Nat} {c : Int}, us.Nodup → us[i]? = some c → us.idxOf c = i
  | [], i, c, _, h => by cases h
  | u :: us, 0, c, _, h => by
    cases Option.some.inj h
    exact List.idxOf_cons_self
  | u :: us, i + 1, c, nd, h => by
    rw [List.nodup_cons] at nd
    have h' : us[i]? = some c := h
    have ne : u ≠ c := fun e => nd.1 (e ▸ List.mem_of_getElem? h')
    rw [List.idxOf_cons, show (u == c) = false from by simpa using ne, idx_get nd.2 h']
    rfl
theorem rk_us {rs us : List Int} {h : Nat} {c : Int} (nd : us.Nodup) (e : rs[h]? = some c) : ∀ i, i ≤ us.length → rk (us.map (tierOf rs)) h i = if c ∈ us.take i then (us.idxOf c : Int) + 1 else 0
  | 0, _ => rfl
  | i + 1, hi => by
    obtain ⟨u, hu⟩ : ∃ u, us[i]? = some u := ⟨_, List.getElem?_eq_getElem (by omega)⟩
    have et : us.take (i + 1) = us.take i ++ [u] := by rw [List.take_succ, hu]; rfl
    have ig := idx_get nd hu
    show (if bit ((us.map (tierOf rs)).getD i 0) h = true then (i : Int) + 1 else rk (us.map (tierOf rs)) h i) = _
    rw [List.getD_eq_getElem?_getD, List.getElem?_map, hu, Option.map_some, Option.getD_some, bit_tier u e, rk_us nd e i (by omega), et]
    by_cases z : c = u
    · rw [if_pos (decide_eq_true z), if_pos (by simp [z]), z, ig]
    · rw [if_neg (by simpa using z)]
      by_cases m : c ∈ us.take i
      · rw [if_pos m, if_pos (List.mem_append_left _ m)]
      · rw [if_neg m, if_neg (by simp [m, z])]
def pos' (rs : List Int) : List Int := (sset rs).filter fun r => decide (0 < r)
theorem pos_nodup (rs : List Int) : (pos' rs).Nodup := ((sset_rise rs).filter _).imp fun h e => by rw [e] at h; exact Int.lt_irrefl _ h
theorem ranks_is (rs : List Int) {h : Nat} {c : Int} (e : rs[h]? = some c) : rk (tiersOf rs) h (tiersOf rs).length = if c ∈ pos' rs then ((pos' rs).idxOf c : Int) + 1 else 0 := by
  have := rk_us (pos_nodup rs) e (pos' rs).length (Nat.le_refl _)
  rw [List.take_of_length_le (Nat.le_refl _)] at this
  have l : (tiersOf rs).length = (pos' rs).length := List.length_map ..
  rw [l]
  exact this
structure Gapless (rs : List Int) (m : Nat) : Prop where
  low : ∀ r ∈ rs, 0 ≤ r
  all : ∀ z : Int, 0 < z → (z ∈ rs ↔ z ≤ m)
theorem rise_range (m : Nat) : ((List.range m).map fun j : Nat => (j : Int) + 1).Pairwise (· < ·) := by
  rw [List.pairwise_map]
  exact List.pairwise_lt_range.imp fun h => by omega
theorem Gapless.pos {rs : List Int} {m : Nat} (g : Gapless rs m) : pos' rs = (List.range m).map fun j : Nat => (j : Int) + 1 := by
  refine rise_uniq ((sset_rise rs).filter _) (rise_range m) fun z => ?_
  unfold pos'
  rw [List.mem_filter, sset_mem, decide_eq_true_eq, List.mem_map]
  constructor
  · rintro ⟨h1, h2⟩
    have := (g.all z h2).mp h1
    exact ⟨(z - 1).toNat, List.mem_range.mpr (by omega), by omega⟩
  · rintro ⟨j, hj, rfl⟩
    have := List.mem_range.mp hj
    exact ⟨(g.all _ (by omega)).mpr (by omega), by omega⟩
theorem Gapless.tiers {rs : List Int} {m : Nat} (g : Gapless rs m) : tiersOf rs = (List.range m).map fun j : Nat => tierOf rs ((j : Int) + 1) := by
  show (pos' rs).map (tierOf rs) = _
  rw [g.pos, List.map_map]
  rfl
theorem tiers_in {rs : List Int} : ∀ t ∈ tiersOf rs, 0 ≤ t ∧ t < 2 ^ rs.length := fun t m => by
  obtain ⟨r, _, rfl⟩ := List.mem_map.mp m
  exact ⟨msum_nonneg _ _, msum_lt _ _⟩
def spRanksOf : Sp := fun vs H Q _ => ∃ (t : Addr) (ts : List Int) (n : Nat), vs = [.ref t, .int (n : Int)] ∧ H t = some (.tup (ts.map V.int)) ∧ n ≤ 12 ∧ (∀ x ∈ ts, 0 ≤ x ∧ x < 2 ^ n) ∧
  ∀ (l : Addr) (H' : Hp), H l = none → Same H H' → H' l = some (.lst ((ranksOf ts n).map V.int)) → Q (.ref l) H'
theorem gap_idx {raw us : List Int} (ri : us.Pairwise (· < ·)) (me : ∀ z, z ∈ us ↔ z ∈ raw ++ [0]) (pos : ∀ r ∈ raw, 0 ≤ r) : Gapless (raw.map fun r => ((us.idxOf r : Nat) : Int)) (us.length - 1) := by
  have nd : us.Nodup := ri.imp fun h e => by rw [e] at h; exact Int.lt_irrefl _ h
  have z0 : us[0]? = some 0 := by
    have m0 : (0 : Int) ∈ us := (me 0).mpr (by simp)
    cases us with
    | nil => cases m0
    | cons u t =>
      have hu := (me u).mp (List.mem_cons_self ..)
      have u0 : 0 ≤ u := by
        rcases List.mem_append.mp hu with h | h
        · exact pos u h
        · rw [List.mem_singleton.mp h]; exact Int.le_refl _
      rcases List.mem_cons.mp m0 with e | e
      · rw [← e]; rfl
      · have := (List.pairwise_cons.mp ri).1 0 e
        omega
  refine ⟨fun r m => ?_, fun z zp => ⟨fun m => ?_, fun h => ?_⟩⟩
  · obtain ⟨h, _, rfl⟩ := List.mem_map.mp m
    omega
  · obtain ⟨h, hh, rfl⟩ := List.mem_map.mp m
    have := List.idxOf_lt_length_iff.mpr ((me h).mpr (List.mem_append_left _ hh))
    omega
  · have hz : z.toNat < us.length := by omega
    have e : us[z.toNat]? = some us[z.toNat] := List.getElem?_eq_getElem hz
    generalize us[z.toNat] = u at e
    have ix := idx_get nd e
    have ne : u ≠ 0 := fun c => by
      have := idx_get nd z0
      rw [c] at ix
      omega
    refine List.mem_map.mpr ⟨u, ?_, by rw [ix]; omega⟩
    rcases List.mem_append.mp ((me u).mp (List.mem_of_getElem? e)) with k | k
    · exact k
    · exact absurd (List.mem_singleton.mp k) ne
def clo (rs : List Int) : List Int := sset (rs ++ [0])
def closedOf (rs : List Int) : List Int := rs.map fun r => (((clo rs).idxOf r : Nat) : Int)
theorem clo_pos {rs : List Int} (h : ∀ r ∈ rs, 0 ≤ r) : clo rs = 0 :: pos' rs := by
  refine rise_uniq (sset_rise _) (List.pairwise_cons.mpr ⟨fun z m => ?_, (sset_rise rs).filter _⟩) fun z => ?_
  · unfold pos' at m
    rw [List.mem_filter, decide_eq_true_eq] at m
    exact m.2
  · unfold pos' clo
    rw [sset_mem, List.mem_cons, List.mem_filter, decide_eq_true_eq, sset_mem, List.mem_append, List.mem_singleton]
    constructor
    · rintro (m | m)
      · have := h z m
        by_cases c : z = 0
        · exact .inl c
        · exact .inr ⟨m, by omega⟩
      · exact .inl m
    · rintro (m | m)
      · exact .inr m
      · exact .inl m.1
theorem clo_len (rs : List Int) : (clo rs).length ≤ rs.length + 1 := by
  have := sset_len (rs ++ [0])
  rw [List.length_append] at this
  exact this
theorem closed_len (rs : List Int) : (closedOf rs).length = rs.length := List.length_map _
theorem closed_in {rs : List Int} (hl : rs.length ≤ 12) : ∀ r ∈ closedOf rs, 0 ≤ r ∧ r ≤ 1000000000 := fun r m => by
  obtain ⟨c, hc, rfl⟩ := List.mem_map.mp m
  have a : (clo rs).idxOf c < (clo rs).length := List.idxOf_lt_length_iff.mpr (sset_mem.mpr (List.mem_append_left _ hc))
  have b := clo_len rs
  omega
theorem idx_tail {ps : List Int} {c : Int} (h : c ≠ 0) : ((0 : Int) :: ps).idxOf c = ps.idxOf c + 1 := by
  rw [List.idxOf_cons, show ((0 : Int) == c) = false from by simpa using Ne.symm h]
  rfl
theorem idx_inj : ∀ {l : List Int} {a b : Int}, a ∈ l → l.idxOf a = l.idxOf b → a = b
  | [], a, b, m, _ => by cases m
  | x :: l, a, b, m, h => by
    rw [List.idxOf_cons, List.idxOf_cons] at h
    by_cases c : x = a
    · by_cases e : x = b
      · rw [← c, e]
      · rw [show (x == a) = true from by simpa using c, show (x == b) = false from by simpa using e] at h
        simp at h
    · by_cases e : x = b
      · rw [show (x == a) = false from by simpa using c, show (x == b) = true from by simpa using e] at h
        simp at h
      · rw [show (x == a) = false from by simpa using c, show (x == b) = false from by simpa using e] at h
        rcases List.mem_cons.mp m with m | m
        · exact absurd m.symm c
        · exact idx_inj m (by simpa using h)
theorem ranks_closed {rs : List Int} (h : ∀ r ∈ rs, 0 ≤ r) : ranksOf (tiersOf rs) rs.length = closedOf rs := by
  apply List.ext_getElem
  · rw [closed_len]; unfold ranksOf; rw [List.length_map, List.length_range]
  · intro i h1 h2
    have hi : i < rs.length := by rw [closed_len] at h2; exact h2
    have e : rs[i]? = some rs[i] := List.getElem?_eq_getElem hi
    have hg : (ranksOf (tiersOf rs) rs.length)[i] = rk (tiersOf rs) i (tiersOf rs).length := by simp [ranksOf]
    have hc : (closedOf rs)[i] = (((clo rs).idxOf rs[i] : Nat) : Int) := by simp [closedOf]
    rw [hg, hc, ranks_is rs e, clo_pos h]
    have c0 := h _ (List.getElem_mem hi)
    have cm := List.getElem_mem hi
    generalize rs[i] = c at c0 cm ⊢
    have mp : c ∈ pos' rs ↔ 0 < c := by
      unfold pos'
      rw [List.mem_filter, decide_eq_true_eq, sset_mem]
      exact ⟨fun z => z.2, fun z => ⟨cm, z⟩⟩
    by_cases z : c = 0
    · rw [if_neg (by rw [mp]; omega), z, List.idxOf_cons_self]
      rfl
    · rw [if_pos (mp.mpr (by omega)), idx_tail z]
      omega
theorem tiers_closed {rs : List Int} (h : ∀ r ∈ rs, 0 ≤ r) : tiersOf (closedOf rs) = tiersOf rs := by
  have g : Gapless (closedOf rs) ((clo rs).length - 1) := gap_idx (sset_rise _) (fun z => sset_mem) h
  have cp := clo_pos h
  rw [g.tiers, cp]
  show (List.range (pos' rs).length).map _ = (pos' rs).map (tierOf rs)
  apply List.ext_getElem
  · simp
  · intro j h1 h2
    have hj : j < (pos' rs).length := by simpa using h2
    rw [List.getElem_map, List.getElem_map, List.getElem_range]
    unfold tierOf
    rw [closed_len]
    apply msum_congr
    intro i hi
    have e : rs[i]? = some rs[i] := List.getElem?_eq_getElem hi
    have ec : (closedOf rs)[i]? = some (((clo rs).idxOf rs[i] : Nat) : Int) := by unfold closedOf; rw [List.getElem?_map, e]; rfl
    unfold isR
    rw [ec, e, cp]
    have nd := pos_nodup rs
    have ej : (pos' rs)[j]? = some (pos' rs)[j] := List.getElem?_eq_getElem hj
    have ig := idx_get nd ej
    have pj : (pos' rs)[j] ∈ pos' rs := List.getElem_mem hj
    have pp : 0 < (pos' rs)[j] := by
      have := pj
      unfold pos' at this
      rw [List.mem_filter, decide_eq_true_eq] at this
      exact this.2
    have c0 := h _ (List.getElem_mem hi)
    have cm := List.getElem_mem hi
    generalize (pos' rs)[j] = u at ig pj pp ⊢
    generalize rs[i] = c at c0 cm ⊢
    by_cases z : c = u
    · rw [z, idx_tail (by omega), ig]
      simp
    · rw [decide_eq_false (fun y => z (Option.some.inj y)), decide_eq_false]
      intro y
      have y' := Option.some.inj y
      by_cases c0' : c = 0
      · rw [c0', List.idxOf_cons_self] at y'
        omega
      · rw [idx_tail c0'] at y'
        have ij : (pos' rs).idxOf c = j := by omega
        have cmem : c ∈ pos' rs := by
          unfold pos'
          rw [List.mem_filter, decide_eq_true_eq, sset_mem]
          exact ⟨cm, by omega⟩
        exact z (idx_inj cmem (by rw [ij, ig]))
theorem alike_iff {rs ss : List Int} (hr : ∀ r ∈ rs, 0 ≤ r) (hs : ∀ r ∈ ss, 0 ≤ r) (hl : ss.length = rs.length) : decide (tiersOf ss = tiersOf rs) = decide (closedOf ss = closedOf rs) := by
  by_cases c : closedOf ss = closedOf rs
  · rw [decide_eq_true c, decide_eq_true (by rw [← tiers_closed hr, ← tiers_closed hs, c])]
  · rw [decide_eq_false c, decide_eq_false fun z => c (by rw [← ranks_closed hr, ← ranks_closed hs, z, hl])]
def spClosed (K : PySem.W.Frag) : Sp := fun vs H Q _ => ∃ (p : Addr) (rs : List Int), vs = [.ref p] ∧ H p = some (.lst (rs.map V.int)) ∧ 0 < rs.length ∧ rs.length ≤ 12 ∧
  ∀ (l : Addr) (H' : Hp), H l = none → Same H H' → H' l = some (.lst ((closedOf rs).map V.int)) → Q (.ref l) H'
def spTold (K : PySem.W.Frag) : Sp := fun vs H Q _ => ∃ (t d : Addr) (rs : List Int), vs = [.ref t, .int (rs.length : Nat), .ref d] ∧ H t = some (.tup ((tiersOf rs).map V.int)) ∧ H d = some (.lst ((closedOf rs).map V.int)) ∧ 0 < rs.length ∧ rs.length ≤ 12 ∧ (∀ r ∈ rs, 0 ≤ r) ∧
  ∀ H' : Hp, Same H H' → Q (.bl true) H'
def spOthers (K : PySem.W.Frag) : Sp := fun vs H Q _ => ∃ (p : Addr) (rs : List Int) (c : Int), vs = [.ref p, .int c] ∧ H p = some (.lst (rs.map V.int)) ∧ 0 < rs.length ∧ rs.length ≤ 12 ∧ (∀ r ∈ rs, 0 ≤ r ∧ r ≤ 1000000000) ∧ 0 ≤ c ∧ c < 10 ^ 40 ∧
  ∀ (l : Addr) (ss : List Int) (H' : Hp), H l = none → Same H H' → H' l = some (.lst (ss.map V.int)) → ss.length = rs.length → (∀ r ∈ ss, 0 ≤ r ∧ r ≤ 1000000000) → Q (.ref l) H'
def top (i : Nat) : Stmt := PySem.Challenge.pw_pollproof_k23_there_and_back.main.body.getD i (.Pass ⟨0, 0, 0, 0⟩)
abbrev s_with_one : Stmt := top 4
abbrev s_members : Stmt := top 5
abbrev s_is_whole : Stmt := top 7
abbrev s_law_whole : Stmt := top 16
abbrev s_law_cell : Stmt := top 17
abbrev s_law_mixed : Stmt := top 18
abbrev s_law_tier : Stmt := top 20
abbrev s_law_closed : Stmt := top 23
abbrev s_law_others : Stmt := top 25
abbrev s_is_rank : Stmt := top 10
abbrev s_tier_at : Stmt := top 12
abbrev s_ranks_of : Stmt := top 14
abbrev s_law_ranks : Stmt := top 19
abbrev s_law_slip : Stmt := top 21
abbrev s_law_same_slip : Stmt := top 22
abbrev s_are_ranks : Stmt := top 11
abbrev s_slip_of : Stmt := top 13
abbrev s_law_told : Stmt := top 24
abbrev s_law : Stmt := top 26
theorem sc_with_one : FnScope ["mask", "hand"] ["mask", "hand"] (defScope s_with_one) := ⟨rfl, rfl, rfl, by decide +kernel, rfl, by decide +kernel, by decide +kernel⟩
theorem sc_members : FnScope ["mask"] ["mask"] (defScope s_members) := ⟨rfl, rfl, rfl, by decide +kernel, rfl, by decide +kernel, by decide +kernel⟩
theorem sc_is_whole : FnScope ["thing"] ["thing"] (defScope s_is_whole) := ⟨rfl, rfl, rfl, by decide +kernel, rfl, by decide +kernel, by decide +kernel⟩
theorem sc_law_whole : FnScope ["_law_found"] ["_law_found"] (defScope s_law_whole) := ⟨rfl, rfl, rfl, by decide +kernel, rfl, by decide +kernel, by decide +kernel⟩
theorem sc_law_cell : FnScope ["_law_script", "_law_k"] ["_law_script", "_law_k"] (defScope s_law_cell) := ⟨rfl, rfl, rfl, by decide +kernel, rfl, by decide +kernel, by decide +kernel⟩
theorem sc_law_mixed : FnScope ["_law_cell_here", "_law_by", "_law_number"] ["_law_cell_here", "_law_by"] (defScope s_law_mixed) := ⟨rfl, rfl, rfl, by decide +kernel, rfl, by decide +kernel, by decide +kernel⟩
theorem sc_law_tier : FnScope ["_law_ranks_here", "_law_rank"] ["_law_ranks_here", "_law_rank"] (defScope s_law_tier) := ⟨rfl, rfl, rfl, by decide +kernel, rfl, by decide +kernel, by decide +kernel⟩
theorem sc_law_closed : FnScope ["_law_ranks_here", "_law_values"] ["_law_ranks_here"] (defScope s_law_closed) := ⟨rfl, rfl, rfl, by decide +kernel, rfl, by decide +kernel, by decide +kernel⟩
theorem sc_law_others : FnScope ["_law_ranks_here", "_law_cell_here", "_law_values", "_law_some"] ["_law_ranks_here", "_law_cell_here"] (defScope s_law_others) := ⟨rfl, rfl, rfl, by decide +kernel, rfl, by decide +kernel, by decide +kernel⟩
theorem sc_is_rank : FnScope ["thing"] ["thing"] (defScope s_is_rank) := ⟨rfl, rfl, rfl, by decide +kernel, rfl, by decide +kernel, by decide +kernel⟩
theorem sc_tier_at : FnScope ["ranks", "wanted", "tier", "hand", "rank"] ["ranks", "wanted"] (defScope s_tier_at) := ⟨rfl, rfl, rfl, by decide +kernel, rfl, by decide +kernel, by decide +kernel⟩
theorem sc_ranks_of : FnScope ["slip", "hands", "ranks", "place", "tier", "hand"] ["slip", "hands"] (defScope s_ranks_of) := ⟨rfl, rfl, rfl, by decide +kernel, rfl, by decide +kernel, by decide +kernel⟩
theorem sc_law_ranks : FnScope ["_law_script", "_law_at", "_law_hands", "_law_head", "_law_spread", "_law_base", "_law_gap", "_law_ranks_here", "_law_hand", "_law_number", "_law_most"] ["_law_script", "_law_at", "_law_hands"] (defScope s_law_ranks) := ⟨rfl, rfl, rfl, by decide +kernel, rfl, by decide +kernel, by decide +kernel⟩
theorem sc_law_slip : FnScope ["_law_ranks_here"] ["_law_ranks_here"] (defScope s_law_slip) := ⟨rfl, rfl, rfl, by decide +kernel, rfl, by decide +kernel, by decide +kernel⟩
theorem sc_law_same_slip : FnScope ["_law_found", "_law_due", "_law_tier_here"] ["_law_found", "_law_due"] (defScope s_law_same_slip) := ⟨rfl, rfl, rfl, by decide +kernel, rfl, by decide +kernel, by decide +kernel⟩
theorem sc_are_ranks : FnScope ["thing", "hands"] ["thing", "hands"] (defScope s_are_ranks) := ⟨rfl, rfl, rfl, by decide +kernel, rfl, by decide +kernel, by decide +kernel⟩
theorem sc_slip_of : FnScope ["ranks", "hands"] ["ranks", "hands"] (defScope s_slip_of) := ⟨rfl, rfl, rfl, by decide +kernel, rfl, by decide +kernel, by decide +kernel⟩
theorem sc_law_told : FnScope ["_law_slip_here", "_law_hands", "_law_due", "_law_found", "_law_rank", "_law_again"] ["_law_slip_here", "_law_hands", "_law_due"] (defScope s_law_told) := ⟨rfl, rfl, rfl, by decide +kernel, rfl, by decide +kernel, by decide +kernel⟩
theorem sc_law : FnScope ["_law_script", "_law_hands", "_law_ranks_here", "_law_beside", "_law_others_here", "_law_k", "_law_some", "_law_alike"] ["_law_script"] (defScope s_law) := ⟨rfl, rfl, rfl, by decide +kernel, rfl, by decide +kernel, by decide +kernel⟩
structure Ads where
  f_with_one : Addr
  d_with_one : FuncData
  f_members : Addr
  d_members : FuncData
  f_is_whole : Addr
  d_is_whole : FuncData
  f_law_whole : Addr
  d_law_whole : FuncData
  f_law_cell : Addr
  d_law_cell : FuncData
  f_law_mixed : Addr
  d_law_mixed : FuncData
  f_law_tier : Addr
  d_law_tier : FuncData
  f_law_closed : Addr
  d_law_closed : FuncData
  f_law_others : Addr
  d_law_others : FuncData
  f_is_rank : Addr
  d_is_rank : FuncData
  f_tier_at : Addr
  d_tier_at : FuncData
  f_ranks_of : Addr
  d_ranks_of : FuncData
  f_law_ranks : Addr
  d_law_ranks : FuncData
  f_law_slip : Addr
  d_law_slip : FuncData
  f_law_same_slip : Addr
  d_law_same_slip : FuncData
  f_are_ranks : Addr
  d_are_ranks : FuncData
  f_slip_of : Addr
  d_slip_of : FuncData
  f_law_told : Addr
  d_law_told : FuncData
  f_law : Addr
  d_law : FuncData
  t_MOST_RANK : Tok
structure Tx (K : PySem.W.Frag) (mg : Str → Option Value) (a : Ads) : Prop where
  F_with_one : Fun K "with_one" "with_one" s_with_one a.f_with_one a.d_with_one
  b_with_one : Binds K a.d_with_one ["mask", "hand"] []
  m_with_one : mg "with_one" = some (.ref a.f_with_one)
  F_members : Fun K "members" "members" s_members a.f_members a.d_members
  b_members : Binds K a.d_members ["mask"] []
  m_members : mg "members" = some (.ref a.f_members)
  F_is_whole : Fun K "is_whole" "is_whole" s_is_whole a.f_is_whole a.d_is_whole
  b_is_whole : Binds K a.d_is_whole ["thing"] []
  m_is_whole : mg "is_whole" = some (.ref a.f_is_whole)
  F_law_whole : Fun K "_law_whole" "_law_whole" s_law_whole a.f_law_whole a.d_law_whole
  b_law_whole : Binds K a.d_law_whole ["_law_found"] []
  m_law_whole : mg "_law_whole" = some (.ref a.f_law_whole)
  F_law_cell : Fun K "_law_cell" "_law_cell" s_law_cell a.f_law_cell a.d_law_cell
  b_law_cell : Binds K a.d_law_cell ["_law_script", "_law_k"] []
  m_law_cell : mg "_law_cell" = some (.ref a.f_law_cell)
  F_law_mixed : Fun K "_law_mixed" "_law_mixed" s_law_mixed a.f_law_mixed a.d_law_mixed
  b_law_mixed : Binds K a.d_law_mixed ["_law_cell_here", "_law_by"] []
  m_law_mixed : mg "_law_mixed" = some (.ref a.f_law_mixed)
  F_law_tier : Fun K "_law_tier" "_law_tier" s_law_tier a.f_law_tier a.d_law_tier
  b_law_tier : Binds K a.d_law_tier ["_law_ranks_here", "_law_rank"] []
  m_law_tier : mg "_law_tier" = some (.ref a.f_law_tier)
  F_law_closed : Fun K "_law_closed" "_law_closed" s_law_closed a.f_law_closed a.d_law_closed
  b_law_closed : Binds K a.d_law_closed ["_law_ranks_here"] []
  m_law_closed : mg "_law_closed" = some (.ref a.f_law_closed)
  F_law_others : Fun K "_law_others" "_law_others" s_law_others a.f_law_others a.d_law_others
  b_law_others : Binds K a.d_law_others ["_law_ranks_here", "_law_cell_here"] []
  m_law_others : mg "_law_others" = some (.ref a.f_law_others)
  F_is_rank : Fun K "is_rank" "is_rank" s_is_rank a.f_is_rank a.d_is_rank
  b_is_rank : Binds K a.d_is_rank ["thing"] []
  m_is_rank : mg "is_rank" = some (.ref a.f_is_rank)
  F_tier_at : Fun K "tier_at" "tier_at" s_tier_at a.f_tier_at a.d_tier_at
  b_tier_at : Binds K a.d_tier_at ["ranks", "wanted"] []
  m_tier_at : mg "tier_at" = some (.ref a.f_tier_at)
  F_ranks_of : Fun K "ranks_of" "ranks_of" s_ranks_of a.f_ranks_of a.d_ranks_of
  b_ranks_of : Binds K a.d_ranks_of ["slip", "hands"] []
  m_ranks_of : mg "ranks_of" = some (.ref a.f_ranks_of)
  F_law_ranks : Fun K "_law_ranks" "_law_ranks" s_law_ranks a.f_law_ranks a.d_law_ranks
  b_law_ranks : Binds K a.d_law_ranks ["_law_script", "_law_at", "_law_hands"] []
  m_law_ranks : mg "_law_ranks" = some (.ref a.f_law_ranks)
  F_law_slip : Fun K "_law_slip" "_law_slip" s_law_slip a.f_law_slip a.d_law_slip
  b_law_slip : Binds K a.d_law_slip ["_law_ranks_here"] []
  m_law_slip : mg "_law_slip" = some (.ref a.f_law_slip)
  F_law_same_slip : Fun K "_law_same_slip" "_law_same_slip" s_law_same_slip a.f_law_same_slip a.d_law_same_slip
  b_law_same_slip : Binds K a.d_law_same_slip ["_law_found", "_law_due"] []
  m_law_same_slip : mg "_law_same_slip" = some (.ref a.f_law_same_slip)
  F_are_ranks : Fun K "are_ranks" "are_ranks" s_are_ranks a.f_are_ranks a.d_are_ranks
  b_are_ranks : Binds K a.d_are_ranks ["thing", "hands"] []
  m_are_ranks : mg "are_ranks" = some (.ref a.f_are_ranks)
  F_slip_of : Fun K "slip_of" "slip_of" s_slip_of a.f_slip_of a.d_slip_of
  b_slip_of : Binds K a.d_slip_of ["ranks", "hands"] []
  m_slip_of : mg "slip_of" = some (.ref a.f_slip_of)
  F_law_told : Fun K "_law_told" "_law_told" s_law_told a.f_law_told a.d_law_told
  b_law_told : Binds K a.d_law_told ["_law_slip_here", "_law_hands", "_law_due"] []
  m_law_told : mg "_law_told" = some (.ref a.f_law_told)
  F_law : Fun K "law" "law" s_law a.f_law a.d_law
  b_law : Binds K a.d_law ["_law_script"] []
  m_law : mg "law" = some (.ref a.f_law)
  z_all : mg "all" = none
  z_bool : mg "bool" = none
  z_enumerate : mg "enumerate" = none
  z_int : mg "int" = none
  z_isinstance : mg "isinstance" = none
  z_len : mg "len" = none
  z_list : mg "list" = none
  z_max : mg "max" = none
  z_min : mg "min" = none
  z_range : mg "range" = none
  z_set : mg "set" = none
  z_sorted : mg "sorted" = none
  z_sum : mg "sum" = none
  z_tuple : mg "tuple" = none
  k_MOST_RANK : mg "MOST_RANK" = some (.int 1000000000 a.t_MOST_RANK)
local macro_rules | `(tactic| trivial) => `(tactic| refine Sz.neg (by trivial))
local macro_rules | `(tactic| trivial) => `(tactic| refine Sz.fdiv (by trivial))
local macro_rules | `(tactic| trivial) => `(tactic| refine Sz.sub (by trivial) (by trivial))
local macro_rules | `(tactic| trivial) => `(tactic| refine Sz.add (by trivial) (by trivial))
local macro_rules | `(tactic| trivial) => `(tactic| refine Sz.mul (by trivial) (by trivial))
local macro_rules | `(tactic| trivial) => `(tactic| exact sz_fmod _ (by first | decide | decide +kernel) (szd 200))
local macro_rules | `(tactic| trivial) => `(tactic| first | assumption | exact szd 64 | exact szd 200 | exact szd 1000)
section
variable {P : Program} {w : World} {K : PySem.W.Frag} {mg : Str → Option Value} {base : Heap} {ad : Ads}
theorem ok_with_one (T : Tx K mg ad) : FnOk P w K mg base CX0 1 ad.f_with_one ad.d_with_one ["mask", "hand"] spWith := by
  refine T.F_with_one.ok sc_with_one (fun vs H Q E h => ?_) (fun cdv A outer s H vs Q E hr h => ?_)
  · obtain ⟨m, h, rfl, _⟩ := h
    rfl
  obtain ⟨m, h, rfl, h0, h1, q⟩ := h
  refine ⟨_, (@pss_one _ _ _ (@ps_ret _ _ _ _ (@pe_op _ _ _ _ _ _ _ _ op_or (pv 0) (@pe_op _ _ _ _ _ _ _ _ op_shl pe_int (pv 1))))), ?_⟩
  exact ⟨_, rfl, _, rfl, _, _, rfl, rfl, ⟨h0, by omega, by decide⟩, _, _, rfl, rfl, q⟩
theorem ok_members (T : Tx K mg ad) : FnOk P w K mg base CX0 1 ad.f_members ad.d_members ["mask"] spMembers := by
  refine T.F_members.ok sc_members (fun vs H Q E h => ?_) (fun cdv A outer s H vs Q E hr h => ?_)
  · obtain ⟨m, rfl, _⟩ := h
    rfl
  obtain ⟨m, rfl, m0, m1, q⟩ := h
  refine ⟨_, (@pss_one _ _ _ (@ps_ret _ _ _ _ (pe_comp (fsc := defScope s_members) (N := ["mask"]) (Nc := ["mask", "hand"]) rfl rfl ⟨rfl, by decide +kernel, by decide +kernel, rfl, by decide +kernel, rfl, by decide +kernel, rfl, by decide +kernel⟩ rfl (pi_range1 rfl T.z_range (@pa_cons _ _ _ _ _ (pe_bm0 PySem.F.plainAttrs_int PySem.F.slot_int_bit_length PySem.F.type_int_bit_length mt_bits (pv 0)) pa_nil (by rfl))) (fun _ _ _ _ => (pif_one (@pt_cmpR _ _ _ _ _ _ _ _ op_eq (@pe_op _ _ _ _ _ _ _ _ op_and (@pe_op _ _ _ _ _ _ _ _ op_shr (pv 0) (pv 1)) pe_int) pe_int (nomark _)))) (fun _ _ _ _ => (pv 1))))), ?_⟩
  have hb : (Builtin.Int.intBits m) ≤ 12 := intBits_le_iff.mpr (by show m.natAbs < 4096; omega)
  refine ⟨_, rfl, rfl, m, rfl, rfl, _, rfl, by omega, by omega, ?_⟩
  have en : ((Builtin.Int.intBits m : Nat) : Int).toNat = Builtin.Int.intBits m := by omega
  rw [en]
  refine comp_range (small63 (by omega)) (fun D i ys H' => ys = (hands i (bit m)).map V.int ∧ H' = upd H D (.lst ys)) (fun D hD => ⟨rfl, rfl⟩) (fun D i ys H' ⟨e1, e2⟩ => by rw [e2, e1]; exact ⟨upd_same, by rw [List.length_map]; exact hands_len i (bit m)⟩) ?_ ?_
  · rintro D i ys H' K1 K2 hD hi ⟨e1, rfl⟩ k1 k2
    have ei : (0 + (i : Int)).toNat = i := by omega
    refine ⟨_, rfl, _, rfl, _, _, rfl, rfl, (by show (0 : Int) ≤ 0 + (i : Int); omega), _, _, rfl, rfl, rfl, _, rfl, ?_⟩
    dsimp only
    rw [show decide (V.int (Builtin.bitAnd (m / 2 ^ (0 + (i : Int)).toNat) 1) = V.int 1) = bit m i from by rw [holds_bit, ei]]
    have ms := hands_succ i (bit m)
    cases e : bit m i with
    | true =>
      rw [e, if_pos rfl] at ms
      refine iteT ⟨_, rfl, ?_⟩
      refine k1 _ _ upd_same ⟨?_, by rw [upd_upd]⟩
      rw [ms, List.map_append, e1, Int.zero_add]
      rfl
    | false =>
      rw [e, if_neg (by decide)] at ms
      refine iteF ?_
      exact k2 _ ⟨by rw [ms]; exact e1, rfl⟩
  · rintro D ys H' hD ⟨rfl, rfl⟩
    refine q D _ hD (same_new hD _) ?_
    rw [upd_same, bits_all m0 m1]
theorem ok_is_whole (T : Tx K mg ad) : FnOk P w K mg base CX0 1 ad.f_is_whole ad.d_is_whole ["thing"] spWhole := by
  refine T.F_is_whole.ok sc_is_whole (fun vs H Q E h => ?_) (fun cdv A outer s H vs Q E hr h => ?_)
  · obtain ⟨c, rfl, _⟩ := h
    rfl
  obtain ⟨c, rfl, q⟩ := h
  refine ⟨_, (@pss_one _ _ _ (@ps_ret _ _ _ _ (@pe_and _ _ _ _ _ _ _ (@pe_callB _ _ _ _ _ _ _ _ _ call_isi (by rfl) T.z_isinstance PyProof.Rows.boot_isinstance (@pa_cons _ _ _ _ _ (pv 0) (@pa_cons _ _ _ _ _ (pe_bltn (v := .ty "int") rfl T.z_int PyProof.Rows.boot_int rfl) pa_nil (by rfl)) (by rfl)) (by decide) (by decide) (by rfl) (by rfl)) (@pe_one _ _ _ _ _ (@pe_not _ _ _ _ (@pe_callB _ _ _ _ _ _ _ _ _ call_isi (by rfl) T.z_isinstance PyProof.Rows.boot_isinstance (@pa_cons _ _ _ _ _ (pv 0) (@pa_cons _ _ _ _ _ (pe_bltn (v := .ty "bool") rfl T.z_bool PyProof.Rows.boot_bool rfl) pa_nil (by rfl)) (by rfl)) (by decide) (by decide) (by rfl) (by rfl))))))), ?_⟩
  refine ⟨_, rfl, _, _, _, _, rfl, TyOf.int c, kit_int_int, _, rfl, ?_⟩
  refine iteT ?_
  exact ⟨_, rfl, _, _, _, _, rfl, TyOf.int c, kit_int_bool, _, rfl, q⟩
theorem ok_law_whole (T : Tx K mg ad) : FnOk P w K mg base CX0 1 ad.f_law_whole ad.d_law_whole ["_law_found"] spWhole := by
  refine T.F_law_whole.ok sc_law_whole (fun vs H Q E h => ?_) (fun cdv A outer s H vs Q E hr h => ?_)
  · obtain ⟨c, rfl, _⟩ := h
    rfl
  obtain ⟨c, rfl, q⟩ := h
  refine ⟨_, (@pss_one _ _ _ (@ps_ret _ _ _ _ (@pe_and _ _ _ _ _ _ _ (@pe_callB _ _ _ _ _ _ _ _ _ call_isi (by rfl) T.z_isinstance PyProof.Rows.boot_isinstance (@pa_cons _ _ _ _ _ (pv 0) (@pa_cons _ _ _ _ _ (pe_bltn (v := .ty "int") rfl T.z_int PyProof.Rows.boot_int rfl) pa_nil (by rfl)) (by rfl)) (by decide) (by decide) (by rfl) (by rfl)) (@pe_one _ _ _ _ _ (@pe_not _ _ _ _ (@pe_callB _ _ _ _ _ _ _ _ _ call_isi (by rfl) T.z_isinstance PyProof.Rows.boot_isinstance (@pa_cons _ _ _ _ _ (pv 0) (@pa_cons _ _ _ _ _ (pe_bltn (v := .ty "bool") rfl T.z_bool PyProof.Rows.boot_bool rfl) pa_nil (by rfl)) (by rfl)) (by decide) (by decide) (by rfl) (by rfl))))))), ?_⟩
  refine ⟨_, rfl, _, _, _, _, rfl, TyOf.int c, kit_int_int, _, rfl, ?_⟩
  refine iteT ?_
  exact ⟨_, rfl, _, _, _, _, rfl, TyOf.int c, kit_int_bool, _, rfl, q⟩
theorem ok_law_cell (T : Tx K mg ad) : FnOk P w K mg base CX0 1 ad.f_law_cell ad.d_law_cell ["_law_script", "_law_k"] (spC40 K) := by
  refine T.F_law_cell.ok sc_law_cell (fun vs H Q E h => ?_) (fun cdv A outer s H vs Q E hr h => ?_)
  · obtain ⟨p, ns, k, rfl, _⟩ := h
    rfl
  obtain ⟨p, ns, k, rfl, hS, h63, k0, k1, q⟩ := h
  refine ⟨_, (@pss_cons _ _ _ _ _ (@ps_if _ _ _ _ _ _ _ _ (@pt_cmpR _ _ _ _ _ _ _ _ op_lt (pv 1) (@pe_callB _ _ _ _ _ _ _ _ _ call_len_seq (by rfl) T.z_len PySem.boot_len (@pa_cons _ _ _ _ _ (pv 0) pa_nil (by rfl)) (by decide) (by decide) (by rfl) (by rfl)) (nomark _)) (@pss_one _ _ _ (@ps_ret _ _ _ _ (@pe_op _ _ _ _ _ _ _ _ op_modN (@pe_ix _ _ _ _ _ _ _ ix_list (pv 0) (pv 1) (fun _ _ => rfl)) (@pe_op _ _ _ _ _ _ _ _ op_pow pe_int pe_int)))) pss_nil) (@pss_one _ _ _ (@ps_ret _ _ _ _ (@pe_op _ _ _ _ _ _ _ _ op_modN (@pe_op _ _ _ _ _ _ _ _ op_mulB (@pe_op _ _ _ _ _ _ _ _ op_add (@pe_op _ _ _ _ _ _ _ _ op_mulB (pv 1) (pv 1)) pe_int) pe_int) pe_int)))), ?_⟩
  have hl : (ns.map V.int).length = ns.length := List.length_map _
  have szk : Sz 64 k := sz_of (by omega) (by omega)
  have p40 : (0 : Int) < 10 ^ (40 : Int).toNat := by decide +kernel
  refine ⟨_, rfl, _, rfl, p, _, rfl, .inl hS, _, _, rfl, rfl, _, rfl, ?_⟩
  refine ite2 (fun c => ?_) (fun c => ?_)
  · have c' : k < (((ns.map V.int).length : Nat) : Int) := of_decide_eq_true c
    rw [hl] at c'
    obtain ⟨v, hv⟩ := item_at k0 c'
    refine ⟨_, rfl, _, rfl, p, _, _, _, rfl, rfl, hS, hv, _, _, rfl, rfl, cpow40, _, _, rfl, rfl, (Int.ne_of_gt p40), ?_⟩
    exact q _ (fmod_in v p40).1 (fmod_in v p40).2
  · (repeat (first | refine ⟨_, rfl, ?_⟩ | refine ⟨_, _, rfl, rfl, ?_⟩ | refine ⟨rfl, ?_⟩ | refine ⟨(by show (_ : Int) ≠ 0; first | decide | decide +kernel), ?_⟩ | refine ⟨⟨(by show (_ : Int) ≠ 0; decide), szd 9000⟩, ?_⟩ | refine ⟨(by show CPow _ _; exact ⟨by decide, by decide, by decide⟩), ?_⟩ | refine ⟨(by show CMulB _ _; refine ⟨_, _, (by trivial), (by trivial), ?_⟩; decide +kernel), ?_⟩ | refine ⟨_, _, _, _, rfl, rfl, SqL.of (by assumption), (by rfl), ?_⟩ | refine ⟨_, _, _, _, rfl, rfl, SqT.of (by assumption), (by rfl), ?_⟩ | refine ⟨_, _, rfl, .inl (SqL.of (by assumption)), ?_⟩ | refine ⟨_, _, rfl, .inr (SqT.of (by assumption)), ?_⟩))
    have m := fmod_in ((k * k + 7) * 48271) (show (0 : Int) < 1009 by decide)
    exact q _ m.1 (Int.lt_trans m.2 (by decide))
theorem ok_law_mixed (T : Tx K mg ad) : FnOk P w K mg base CX0 1 ad.f_law_mixed ad.d_law_mixed ["_law_cell_here", "_law_by"] spMixed := by
  refine T.F_law_mixed.ok sc_law_mixed (fun vs H Q E h => ?_) (fun cdv A outer s H vs Q E hr h => ?_)
  · obtain ⟨c, b, rfl, _⟩ := h
    rfl
  obtain ⟨c, b, rfl, szc, szb, q⟩ := h
  refine ⟨_, (@pss_cons _ _ _ _ _ (@ps_set _ _ (2) _ _ _ _ sc_law_mixed.nd rfl (Or.inl rfl) (@pe_op _ _ _ _ _ _ _ _ op_add (@pe_op _ _ _ _ _ _ _ _ op_mulB (pv 0) pe_int) (@pe_op _ _ _ _ _ _ _ _ op_mulB (pv 1) pe_int)) (by rfl) (by first | exact .inl rfl | exact .inr rfl | assumption)) (@pss_cons _ _ _ _ _ (@ps_set _ _ (2) _ _ _ _ sc_law_mixed.nd rfl (Or.inl rfl) (@pe_op _ _ _ _ _ _ _ _ op_modN (@pe_op _ _ _ _ _ _ _ _ op_add (pv 2) pe_int) (@pe_op _ _ _ _ _ _ _ _ op_add (@pe_op _ _ _ _ _ _ _ _ op_pow pe_int pe_int) pe_int)) (by rfl) (by first | exact .inl rfl | exact .inr rfl | assumption)) (@pss_one _ _ _ (@ps_ret _ _ _ _ (@pe_op _ _ _ _ _ _ _ _ op_fdivB (@pe_op _ _ _ _ _ _ _ _ op_modN (@pe_op _ _ _ _ _ _ _ _ op_mulB (pv 2) (pv 2)) (@pe_op _ _ _ _ _ _ _ _ op_add (@pe_op _ _ _ _ _ _ _ _ op_pow pe_int pe_int) pe_int)) pe_int))))), ?_⟩
  (repeat (first | refine ⟨_, rfl, ?_⟩ | refine ⟨_, _, rfl, rfl, ?_⟩ | refine ⟨rfl, ?_⟩ | refine ⟨(by show (_ : Int) ≠ 0; first | decide | decide +kernel), ?_⟩ | refine ⟨⟨(by show (_ : Int) ≠ 0; decide), szd 9000⟩, ?_⟩ | refine ⟨(by show CPow _ _; exact ⟨by decide, by decide, by decide⟩), ?_⟩ | refine ⟨(by show CMulB _ _; refine ⟨_, _, (by trivial), (by trivial), ?_⟩; decide +kernel), ?_⟩ | refine ⟨_, _, _, _, rfl, rfl, SqL.of (by assumption), (by rfl), ?_⟩ | refine ⟨_, _, _, _, rfl, rfl, SqT.of (by assumption), (by rfl), ?_⟩ | refine ⟨_, _, rfl, .inl (SqL.of (by assumption)), ?_⟩ | refine ⟨_, _, rfl, .inr (SqT.of (by assumption)), ?_⟩))
  exact q _ (mix_end _).1 (mix_end _).2
theorem ok_law_tier (T : Tx K mg ad) : FnOk P w K mg base CX0 1 ad.f_law_tier ad.d_law_tier ["_law_ranks_here", "_law_rank"] (spTier K) := by
  refine T.F_law_tier.ok sc_law_tier (fun vs H Q E h => ?_) (fun cdv A outer s H vs Q E hr h => ?_)
  · obtain ⟨p, rs, r, rfl, _⟩ := h
    rfl
  obtain ⟨p, rs, r, rfl, hS, h12, q⟩ := h
  refine ⟨_, (@pss_one _ _ _ (@ps_ret _ _ _ _ (@pe_callB _ _ _ _ _ _ _ _ _ (call_sum rfl) (by rfl) T.z_sum PyProof.Rows.boot_sum (@pa_cons _ _ _ _ _ (pe_comp (fsc := defScope s_law_tier) (N := ["_law_ranks_here", "_law_rank"]) (Nc := ["_law_ranks_here", "_law_rank", "_law_hand"]) rfl rfl ⟨rfl, by decide +kernel, by decide +kernel, rfl, by decide +kernel, rfl, by decide +kernel, rfl, by decide +kernel⟩ rfl (pi_range1 rfl T.z_range (@pa_cons _ _ _ _ _ (@pe_callB _ _ _ _ _ _ _ _ _ call_len_seq (by rfl) T.z_len PySem.boot_len (@pa_cons _ _ _ _ _ (pv 0) pa_nil (by rfl)) (by decide) (by decide) (by rfl) (by rfl)) pa_nil (by rfl))) (fun _ _ _ _ => (pif_one (@pt_cmpR _ _ _ _ _ _ _ _ op_eq (@pe_ix _ _ _ _ _ _ _ (ix_listK K) (pv 0) (pv 2) (fun _ _ => rfl)) (pv 1) (nomark _)))) (fun _ _ _ _ => (@pe_op _ _ _ _ _ _ _ _ op_shl pe_int (pv 2)))) pa_nil (by rfl)) (by decide) (by decide) (by rfl) (by rfl)))), ?_⟩
  have hl : (rs.map V.int).length = rs.length := List.length_map _
  refine ⟨_, rfl, p, _, rfl, .inl hS, _, rfl, by omega, by omega, ?_⟩
  have en : (((rs.map V.int).length : Nat) : Int).toNat = rs.length := by omega
  rw [en]
  refine comp_range (small63 (by omega)) (fun D i ys H' => ys = ((hands i (isR rs r)).map fun h => (1 : Int) * 2 ^ h.toNat).map V.int ∧ H' = upd H D (.lst ys)) (fun D hD => ⟨rfl, rfl⟩) (fun D i ys H' ⟨e1, e2⟩ => ⟨by rw [e2]; exact upd_same, by rw [e1, List.length_map, List.length_map]; exact hands_len _ _⟩) ?_ ?_
  · rintro D i ys H' K1 K2 hD hi ⟨e1, rfl⟩ k1 k2
    obtain ⟨z, hz⟩ : ∃ z, rs[i]? = some z := ⟨_, List.getElem?_eq_getElem hi⟩
    have s1 := same_new hD (.lst ys)
    have ms := hands_succ i (isR rs r)
    have e0 : (0 : Int) + (i : Int) = (i : Int) := Int.zero_add _
    refine ⟨_, rfl, _, rfl, p, _, _, _, rfl, rfl, s1.seq hS, (by rw [e0]; exact atN hz), _, rfl, rfl, _, rfl, ?_⟩
    have eb : decide (V.int z = V.int r) = isR rs r i := by
      unfold isR
      rw [hz]
      by_cases c : z = r
      · rw [decide_eq_true (by rw [c]), decide_eq_true (by rw [c])]
      · rw [decide_eq_false (fun e => c (V.int.inj e)), decide_eq_false (fun e => c (Option.some.inj e))]
    rw [eb]
    cases e : isR rs r i with
    | true =>
      rw [e, if_pos rfl] at ms
      refine iteT ?_
      refine ⟨_, rfl, _, _, rfl, rfl, (by rw [e0]; exact pow_small (by omega)), ?_⟩
      refine k1 _ _ upd_same ⟨?_, by rw [upd_upd]⟩
      rw [ms, List.map_append, List.map_append, e1]
      show _ = _ ++ [V.int (1 * 2 ^ (i : Int).toNat)]
      rw [e0]
    | false =>
      rw [e, if_neg (by decide)] at ms
      refine iteF ?_
      exact k2 _ ⟨by rw [ms]; exact e1, rfl⟩
  · rintro D ys H' hD ⟨rfl, rfl⟩
    refine ⟨D, _, rfl, SqL.of upd_same, ?_⟩
    have : ((hands rs.length (isR rs r)).map fun h => (1 : Int) * 2 ^ h.toNat).sum = tierOf rs r := bsum_hands _ _
    rw [this]
    exact q _ (same_new hD _)
theorem ok_law_closed (T : Tx K mg ad) : FnOk P w K mg base CX0 1 ad.f_law_closed ad.d_law_closed ["_law_ranks_here"] (spClosed K) := by
  refine T.F_law_closed.ok sc_law_closed (fun vs H Q E h => ?_) (fun cdv A outer s H vs Q E hr h => ?_)
  · obtain ⟨p, rs, rfl, _⟩ := h
    rfl
  obtain ⟨p, rs, rfl, hp, r0, r12, q⟩ := h
  refine ⟨_, (@pss_cons _ _ _ _ _ (@ps_set _ _ (1) _ _ _ _ sc_law_closed.nd rfl (Or.inr rfl) (pe_sortedor rfl (by rfl) T.z_sorted (by rfl) T.z_set (pv 0) (@pe_lst _ _ _ _ (@pa_cons _ _ _ _ _ pe_int pa_nil (by rfl)))) (by rfl) (by first | exact .inl rfl | exact .inr rfl | assumption)) (@pss_one _ _ _ (@ps_ret _ _ _ _ (pe_comp (fsc := defScope s_law_closed) (N := ["_law_ranks_here", "_law_values"]) (Nc := ["_law_ranks_here", "_law_values", "_law_rank"]) rfl rfl ⟨rfl, by decide +kernel, by decide +kernel, rfl, by decide +kernel, rfl, by decide +kernel, rfl, by decide +kernel⟩ rfl (pi_list (pv 0)) (fun _ _ _ _ => pif_nil) (fun _ _ _ _ => (@pe_bmK _ _ _ _ _ _ _ _ _ _ _ _ K PySem.F.plainAttrs_list PySem.F.slot_list_index PySem.F.type_list_index (mt_index (K := K)) (pv 1) (@pa_cons _ _ _ _ _ (pv 2) pa_nil (by rfl)) (by rfl) (by rfl) (by rfl) (by rfl) (by rfl) (by rfl))))))), ?_⟩
  refine ⟨_, rfl, p, rs, rfl, SqL.of hp, r0, r12, ?_⟩
  refine ⟨(by show 1 ≤ sizeLine; decide), fun b hb => ?_⟩
  have s1 := same_new hb (.lst [V.int 0])
  have eb : (upd H b (.lst [V.int 0])) b = some (.lst [V.int 0]) := upd_same
  generalize upd H b (.lst [V.int 0]) = H1 at s1 eb ⊢
  refine ⟨b, 0, rfl, SqL.of eb, fun l ms m1 m2 hl => ?_⟩
  obtain rfl : ms = clo rs := sset_of m1 (fun z => by rw [m2, List.mem_append, List.mem_singleton])
  have s2 := same_new hl (.lst ((clo rs).map V.int))
  have el : (upd H1 l (.lst ((clo rs).map V.int))) l = some (.lst ((clo rs).map V.int)) := upd_same
  generalize upd H1 l (.lst ((clo rs).map V.int)) = H2 at s2 el ⊢
  have hp2 := (s1.trans s2) _ _ hp
  refine ⟨_, rfl, p, rfl, ⟨_, SqL.of hp2⟩, ?_⟩
  refine comp_list (xs := rs.map V.int) (by rw [List.length_map]; exact small63 (by omega)) (fun D4 i ys H' => ys = ((rs.take i).map fun r => (((clo rs).idxOf r : Nat) : Int)).map V.int ∧ H' D4 = some (.lst ys) ∧ Same H2 H') (fun D4 hD4 => ⟨rfl, upd_same, same_new hD4 _⟩) (fun D4 i ys H' ⟨g1, g2, _⟩ => ⟨g2, by rw [g1, List.length_map, List.length_map]; exact List.length_take_le _ _⟩) (fun D4 i ys H' hD4 ⟨_, _, g3⟩ => SqL.of (g3 _ _ hp2)) ?_ ?_
  · rintro D4 i x ys H' K1 K2 hD4 hx ⟨k3, k4, k5⟩ k1 k2
    obtain ⟨z, hz, rfl⟩ := int_at hx
    have et : rs.take (i + 1) = rs.take i ++ [z] := by rw [List.take_succ, hz]; rfl
    refine yes (ifT rfl ?_)
    refine ⟨_, rfl, .inl ⟨rfl, _, SqL.of (k5 _ _ el)⟩, _, rfl, l, clo rs, z, rfl, rfl, SqL.of (k5 _ _ el), sset_mem.mpr (List.mem_append_left _ (List.mem_of_getElem? hz)), ?_⟩
    refine k1 _ _ k4 ⟨?_, upd_same, same_upd k5 hD4⟩
    rw [et, List.map_append, List.map_append, k3]
    rfl
  rintro D4 ys H6 hD4 ⟨k3, k4, k5⟩
  rw [List.length_map, List.take_of_length_le (Nat.le_refl _)] at k3
  subst k3
  exact q D4 H6 (none_of' (s1.trans s2) hD4) ((s1.trans s2).trans k5) k4
theorem ok_law_others (T : Tx K mg ad) : FnOk P w K mg base CX0 1 ad.f_law_others ad.d_law_others ["_law_ranks_here", "_law_cell_here"] (spOthers K) := by
  refine T.F_law_others.ok sc_law_others (fun vs H Q E h => ?_) (fun cdv A outer s H vs Q E hr h => ?_)
  · obtain ⟨p, rs, c, rfl, _⟩ := h
    rfl
  obtain ⟨p, rs, c, rfl, hp, r0, r12, hR, c0, c1, q⟩ := h
  refine ⟨_, (@pss_cons _ _ _ _ _ (@ps_if _ _ _ _ _ _ _ _ (@pt_cmpR _ _ _ _ _ _ _ _ op_eq (@pe_op _ _ _ _ _ _ _ _ op_modN (pv 1) pe_int) pe_int (nomark _)) (@pss_cons _ _ _ _ _ (@ps_set _ _ (2) _ _ _ _ sc_law_others.nd rfl (Or.inr rfl) (pe_sortedor rfl (by rfl) T.z_sorted (by rfl) T.z_set (pv 0) (@pe_lst _ _ _ _ (@pa_cons _ _ _ _ _ pe_int pa_nil (by rfl)))) (by rfl) (by first | exact .inl rfl | exact .inr rfl | assumption)) (@pss_one _ _ _ (@ps_ret _ _ _ _ (pe_comp (fsc := defScope s_law_others) (N := ["_law_ranks_here", "_law_cell_here", "_law_values", "_law_some"]) (Nc := ["_law_ranks_here", "_law_cell_here", "_law_values", "_law_some", "_law_rank"]) rfl rfl ⟨rfl, by decide +kernel, by decide +kernel, rfl, by decide +kernel, rfl, by decide +kernel, rfl, by decide +kernel⟩ rfl (pi_list (pv 0)) (fun _ _ _ _ => pif_nil) (fun _ _ _ _ => (@pe_callB _ _ _ _ _ _ _ _ _ (call_min2 rfl) (by rfl) T.z_min PyProof.Rows.boot_min (@pa_cons _ _ _ _ _ (pv 4) (@pa_cons _ _ _ _ _ (@pe_op _ _ _ _ _ _ _ _ op_mulB (@pe_bmK _ _ _ _ _ _ _ _ _ _ _ _ K PySem.F.plainAttrs_list PySem.F.slot_list_index PySem.F.type_list_index (mt_index (K := K)) (pv 2) (@pa_cons _ _ _ _ _ (pv 4) pa_nil (by rfl)) (by rfl) (by rfl) (by rfl) (by rfl) (by rfl) (by rfl)) (@pe_op _ _ _ _ _ _ _ _ op_add pe_int (@pe_op _ _ _ _ _ _ _ _ op_modN (@pe_op _ _ _ _ _ _ _ _ op_fdivB (pv 1) pe_int) pe_int))) pa_nil (by rfl)) (by rfl)) (by decide) (by decide) (by rfl) (by rfl))))))) pss_nil) (@pss_cons _ _ _ _ _ (@ps_set _ _ (3) _ _ _ _ sc_law_others.nd rfl (Or.inl rfl) (@pe_callTy _ _ _ _ _ _ _ _ _ call_list_of (by rfl) T.z_list PyProof.Rows.boot_list (@pa_cons _ _ _ _ _ (pv 0) pa_nil (by rfl)) (by decide) (by decide) (by rfl) (by rfl)) (by rfl) (by first | exact .inl rfl | exact .inr rfl | assumption)) (@pss_cons _ _ _ _ _ (ps_asg (@pe_ix _ _ _ _ _ _ _ ix_list (pv 0) (@pe_op _ _ _ _ _ _ _ _ op_modN (@pe_op _ _ _ _ _ _ _ _ op_fdivB (pv 1) pe_int) (@pe_callB _ _ _ _ _ _ _ _ _ call_len_seq (by rfl) T.z_len PySem.boot_len (@pa_cons _ _ _ _ _ (pv 3) pa_nil (by rfl)) (by decide) (by decide) (by rfl) (by rfl))) (fun _ _ => rfl)) (pg_sub (pv 3) (@pe_op _ _ _ _ _ _ _ _ op_modN (@pe_op _ _ _ _ _ _ _ _ op_fdivB (pv 1) pe_int) (@pe_callB _ _ _ _ _ _ _ _ _ call_len_seq (by rfl) T.z_len PySem.boot_len (@pa_cons _ _ _ _ _ (pv 3) pa_nil (by rfl)) (by decide) (by decide) (by rfl) (by rfl))) set_list)) (@pss_one _ _ _ (@ps_ret _ _ _ _ (pv 3)))))), ?_⟩
  (repeat (first | refine ⟨_, rfl, ?_⟩ | refine ⟨_, _, rfl, rfl, ?_⟩ | refine ⟨rfl, ?_⟩ | refine ⟨(by show (_ : Int) ≠ 0; first | decide | decide +kernel), ?_⟩ | refine ⟨⟨(by show (_ : Int) ≠ 0; decide), szd 9000⟩, ?_⟩ | refine ⟨(by show CPow _ _; exact ⟨by decide, by decide, by decide⟩), ?_⟩ | refine ⟨(by show CMulB _ _; refine ⟨_, _, (by trivial), (by trivial), ?_⟩; decide +kernel), ?_⟩ | refine ⟨_, _, _, _, rfl, rfl, SqL.of (by assumption), (by rfl), ?_⟩ | refine ⟨_, _, _, _, rfl, rfl, SqT.of (by assumption), (by rfl), ?_⟩ | refine ⟨_, _, rfl, .inl (SqL.of (by assumption)), ?_⟩ | refine ⟨_, _, rfl, .inr (SqT.of (by assumption)), ?_⟩))
  refine ite2 (fun _ => ?_) (fun _ => ?_)
  · refine ⟨_, rfl, p, rs, rfl, SqL.of hp, r0, r12, ?_⟩
    refine ⟨(by show 1 ≤ sizeLine; decide), fun b hb => ?_⟩
    have s1 := same_new hb (.lst [V.int 0])
    have eb : (upd H b (.lst [V.int 0])) b = some (.lst [V.int 0]) := upd_same
    generalize upd H b (.lst [V.int 0]) = H1 at s1 eb ⊢
    refine ⟨b, 0, rfl, SqL.of eb, fun l ms m1 m2 hl => ?_⟩
    obtain rfl : ms = clo rs := sset_of m1 (fun z => by rw [m2, List.mem_append, List.mem_singleton])
    have s2 := same_new hl (.lst ((clo rs).map V.int))
    have el : (upd H1 l (.lst ((clo rs).map V.int))) l = some (.lst ((clo rs).map V.int)) := upd_same
    generalize upd H1 l (.lst ((clo rs).map V.int)) = H2 at s2 el ⊢
    have hp2 := (s1.trans s2) _ _ hp
    have m3 := fmod_in (c.fdiv 2) (show (0 : Int) < 3 by decide)
    have szc := sz40 c0 c1
    refine ⟨_, rfl, p, rfl, ⟨_, SqL.of hp2⟩, ?_⟩
    refine comp_list (xs := rs.map V.int) (by rw [List.length_map]; exact small63 (by omega)) (fun D4 i ys H' => ∃ zs : List Int, ys = zs.map V.int ∧ zs.length = i ∧ (∀ r ∈ zs, 0 ≤ r ∧ r ≤ 1000000000) ∧ H' D4 = some (.lst ys) ∧ Same H2 H') (fun D4 hD4 => ⟨[], rfl, rfl, (fun z m => nomatch m), upd_same, same_new hD4 _⟩) (fun D4 i ys H' ⟨zs, g1, g2, _, g3, _⟩ => ⟨g3, by rw [g1, List.length_map]; omega⟩) (fun D4 i ys H' hD4 ⟨_, _, _, _, _, g3⟩ => SqL.of (g3 _ _ hp2)) ?_ ?_
    · rintro D4 i x ys H' K1 K2 hD4 hx ⟨zs, rfl, f2, f3, k4, k5⟩ k1 k2
      obtain ⟨z, hz, rfl⟩ := int_at hx
      have zR := hR z (List.mem_of_getElem? hz)
      have zm : z ∈ clo rs := sset_mem.mpr (List.mem_append_left _ (List.mem_of_getElem? hz))
      have zi : (clo rs).idxOf z < (clo rs).length := List.idxOf_lt_length_iff.mpr zm
      have zl := clo_len rs
      refine yes (ifT rfl ?_)
      refine ⟨_, rfl, _, rfl, .inl ⟨rfl, _, SqL.of (k5 _ _ el)⟩, _, rfl, l, clo rs, z, rfl, rfl, SqL.of (k5 _ _ el), zm, ?_⟩
      (repeat (first | refine ⟨_, rfl, ?_⟩ | refine ⟨_, _, rfl, rfl, ?_⟩ | refine ⟨rfl, ?_⟩ | refine ⟨(by show (_ : Int) ≠ 0; first | decide | decide +kernel), ?_⟩ | refine ⟨⟨(by show (_ : Int) ≠ 0; decide), szd 9000⟩, ?_⟩ | refine ⟨(by show CPow _ _; exact ⟨by decide, by decide, by decide⟩), ?_⟩ | refine ⟨(by show CMulB _ _; refine ⟨_, _, (by trivial), (by trivial), ?_⟩; decide +kernel), ?_⟩ | refine ⟨_, _, _, _, rfl, rfl, SqL.of (by assumption), (by rfl), ?_⟩ | refine ⟨_, _, _, _, rfl, rfl, SqT.of (by assumption), (by rfl), ?_⟩ | refine ⟨_, _, rfl, .inl (SqL.of (by assumption)), ?_⟩ | refine ⟨_, _, rfl, .inr (SqT.of (by assumption)), ?_⟩))
      have v0 : 0 ≤ (((clo rs).idxOf z : Nat) : Int) * (1 + (c.fdiv 2).fmod 3) := Int.mul_nonneg (by omega) (by omega)
      have sa : Sz 64 (((clo rs).idxOf z : Nat) : Int) := sz_of (by omega) (by omega)
      have sb : Sz 64 (1 + (c.fdiv 2).fmod 3) := sz_of (by omega) (by omega)
      refine ⟨mulB sa sb, ?_⟩
      dsimp only
      generalize (((clo rs).idxOf z : Nat) : Int) * (1 + (c.fdiv 2).fmod 3) = v at v0 ⊢
      refine ⟨_, _, rfl, ?_⟩
      have vb : 0 ≤ (if v < z then v else z) ∧ (if v < z then v else z) ≤ 1000000000 := by split <;> omega
      refine k1 _ _ k4 ⟨zs ++ [if v < z then v else z], by rw [List.map_append]; rfl, by rw [List.length_append, f2]; rfl, fun r m => ?_, upd_same, same_upd k5 hD4⟩
      rcases List.mem_append.mp m with m | m
      · exact f3 r m
      · rw [List.mem_singleton.mp m]; exact vb
    rintro D4 ys H6 hD4 ⟨zs, rfl, f2, f3, k4, k5⟩
    rw [List.length_map] at f2
    exact q D4 zs H6 (none_of' (s1.trans s2) hD4) ((s1.trans s2).trans k5) k4 f2 f3
  · (repeat (first | refine ⟨_, rfl, ?_⟩ | refine ⟨_, _, rfl, rfl, ?_⟩ | refine ⟨rfl, ?_⟩ | refine ⟨(by show (_ : Int) ≠ 0; first | decide | decide +kernel), ?_⟩ | refine ⟨⟨(by show (_ : Int) ≠ 0; decide), szd 9000⟩, ?_⟩ | refine ⟨(by show CPow _ _; exact ⟨by decide, by decide, by decide⟩), ?_⟩ | refine ⟨(by show CMulB _ _; refine ⟨_, _, (by trivial), (by trivial), ?_⟩; decide +kernel), ?_⟩ | refine ⟨_, _, _, _, rfl, rfl, SqL.of (by assumption), (by rfl), ?_⟩ | refine ⟨_, _, _, _, rfl, rfl, SqT.of (by assumption), (by rfl), ?_⟩ | refine ⟨_, _, rfl, .inl (SqL.of (by assumption)), ?_⟩ | refine ⟨_, _, rfl, .inr (SqT.of (by assumption)), ?_⟩))
    intro l hl
    have s1 := same_new hl (.lst (rs.map V.int))
    have el : (upd H l (.lst (rs.map V.int))) l = some (.lst (rs.map V.int)) := upd_same
    generalize upd H l (.lst (rs.map V.int)) = H1 at s1 el ⊢
    have hl' : (rs.map V.int).length = rs.length := List.length_map _
    have szc := sz40 c0 c1
    have hp1 := s1 _ _ hp
    (repeat (first | refine ⟨_, rfl, ?_⟩ | refine ⟨_, _, rfl, rfl, ?_⟩ | refine ⟨rfl, ?_⟩ | refine ⟨(by show (_ : Int) ≠ 0; first | decide | decide +kernel), ?_⟩ | refine ⟨⟨(by show (_ : Int) ≠ 0; decide), szd 9000⟩, ?_⟩ | refine ⟨(by show CPow _ _; exact ⟨by decide, by decide, by decide⟩), ?_⟩ | refine ⟨(by show CMulB _ _; refine ⟨_, _, (by trivial), (by trivial), ?_⟩; decide +kernel), ?_⟩ | refine ⟨_, _, _, _, rfl, rfl, SqL.of (by assumption), (by rfl), ?_⟩ | refine ⟨_, _, _, _, rfl, rfl, SqT.of (by assumption), (by rfl), ?_⟩ | refine ⟨_, _, rfl, .inl (SqL.of (by assumption)), ?_⟩ | refine ⟨_, _, rfl, .inr (SqT.of (by assumption)), ?_⟩))
    have n0 : (0 : Int) < (((rs.map V.int).length : Nat) : Int) := by omega
    obtain ⟨k, hk⟩ : ∃ k : Nat, (c.fdiv 24).fmod (((rs.map V.int).length : Nat) : Int) = (k : Int) := ⟨_, (Int.toNat_of_nonneg (fmod_in _ n0).1).symm⟩
    have kl : k < rs.length := by have := (fmod_in (c.fdiv 24) n0).2; omega
    obtain ⟨j, hj⟩ : ∃ j : Nat, (c.fdiv 2).fmod (((rs.map V.int).length : Nat) : Int) = (j : Int) := ⟨_, (Int.toNat_of_nonneg (fmod_in _ n0).1).symm⟩
    have jl : j < rs.length := by have := (fmod_in (c.fdiv 2) n0).2; omega
    obtain ⟨z, hz⟩ : ∃ z, rs[k]? = some z := ⟨_, List.getElem?_eq_getElem kl⟩
    refine ⟨(by show (((rs.map V.int).length : Nat) : Int) ≠ 0; omega), ?_⟩
    refine ⟨p, _, _, _, rfl, rfl, SqL.of hp1, (by rw [hk]; exact atN hz), ?_⟩
    (repeat (first | refine ⟨_, rfl, ?_⟩ | refine ⟨_, _, rfl, rfl, ?_⟩ | refine ⟨rfl, ?_⟩ | refine ⟨(by show (_ : Int) ≠ 0; first | decide | decide +kernel), ?_⟩ | refine ⟨⟨(by show (_ : Int) ≠ 0; decide), szd 9000⟩, ?_⟩ | refine ⟨(by show CPow _ _; exact ⟨by decide, by decide, by decide⟩), ?_⟩ | refine ⟨(by show CMulB _ _; refine ⟨_, _, (by trivial), (by trivial), ?_⟩; decide +kernel), ?_⟩ | refine ⟨_, _, _, _, rfl, rfl, SqL.of (by assumption), (by rfl), ?_⟩ | refine ⟨_, _, _, _, rfl, rfl, SqT.of (by assumption), (by rfl), ?_⟩ | refine ⟨_, _, rfl, .inl (SqL.of (by assumption)), ?_⟩ | refine ⟨_, _, rfl, .inr (SqT.of (by assumption)), ?_⟩))
    refine ⟨(by show (((rs.map V.int).length : Nat) : Int) ≠ 0; omega), ?_⟩
    refine ⟨l, _, _, j, rfl, rfl, el, (by rw [hj]; exact ixN_nat (by omega)), ?_⟩
    refine ⟨_, rfl, q l (rs.set j z) _ hl (same_upd s1 hl) (by rw [upd_same, List.map_set]) (by rw [List.length_set]) fun r m => ?_⟩
    rcases List.mem_or_eq_of_mem_set m with m | m
    · exact hR r m
    · rw [m]; exact hR z (List.mem_of_getElem? hz)
theorem ok_is_rank (T : Tx K mg ad) : FnOk P w K mg base CX0 2 ad.f_is_rank ad.d_is_rank ["thing"] spRank := by
  refine T.F_is_rank.ok sc_is_rank (fun vs H Q E h => ?_) (fun cdv A outer s H vs Q E hr h => ?_)
  · obtain ⟨r, rfl, _⟩ := h
    rfl
  obtain ⟨r, rfl, r0, r1, q⟩ := h
  refine ⟨_, (@pss_one _ _ _ (@ps_ret _ _ _ _ (@pe_and _ _ _ _ _ _ _ (@pe_call _ _ _ _ _ _ _ _ _ _ _ _ _ _ _ _ (ok_is_whole T) (hr.mono (by decide)) rfl T.m_is_whole T.F_is_whole.kp T.b_is_whole .nil pass0 (@pa_cons _ _ _ _ _ (pv 0) pa_nil (by rfl)) (by decide) (by rfl) (by rfl)) (@pe_one _ _ _ _ _ (pe_chain op_le op_le pe_int (pv 0) (pe_glob (v := .int 1000000000) rfl T.k_MOST_RANK ⟨_, rfl⟩)))))), ?_⟩
  refine ⟨_, rfl, r, rfl, ?_⟩
  (repeat (first | refine ⟨_, rfl, ?_⟩ | refine ⟨_, _, rfl, rfl, ?_⟩ | refine ⟨rfl, ?_⟩ | refine ⟨(by show (_ : Int) ≠ 0; first | decide | decide +kernel), ?_⟩ | refine ⟨⟨(by show (_ : Int) ≠ 0; decide), szd 9000⟩, ?_⟩ | refine ⟨(by show CPow _ _; exact ⟨by decide, by decide, by decide⟩), ?_⟩ | refine ⟨(by show CMulB _ _; refine ⟨_, _, (by trivial), (by trivial), ?_⟩; decide +kernel), ?_⟩ | refine ⟨_, _, _, _, rfl, rfl, SqL.of (by assumption), (by rfl), ?_⟩ | refine ⟨_, _, _, _, rfl, rfl, SqT.of (by assumption), (by rfl), ?_⟩ | refine ⟨_, _, rfl, .inl (SqL.of (by assumption)), ?_⟩ | refine ⟨_, _, rfl, .inr (SqT.of (by assumption)), ?_⟩))
  refine ifT (decide_eq_true r0) ?_
  (repeat (first | refine ⟨_, rfl, ?_⟩ | refine ⟨_, _, rfl, rfl, ?_⟩ | refine ⟨rfl, ?_⟩ | refine ⟨(by show (_ : Int) ≠ 0; first | decide | decide +kernel), ?_⟩ | refine ⟨⟨(by show (_ : Int) ≠ 0; decide), szd 9000⟩, ?_⟩ | refine ⟨(by show CPow _ _; exact ⟨by decide, by decide, by decide⟩), ?_⟩ | refine ⟨(by show CMulB _ _; refine ⟨_, _, (by trivial), (by trivial), ?_⟩; decide +kernel), ?_⟩ | refine ⟨_, _, _, _, rfl, rfl, SqL.of (by assumption), (by rfl), ?_⟩ | refine ⟨_, _, _, _, rfl, rfl, SqT.of (by assumption), (by rfl), ?_⟩ | refine ⟨_, _, rfl, .inl (SqL.of (by assumption)), ?_⟩ | refine ⟨_, _, rfl, .inr (SqT.of (by assumption)), ?_⟩))
  show Q (.bl (decide (r ≤ 1000000000))) H
  rw [decide_eq_true r1]
  exact q
theorem ok_tier_at (T : Tx K mg ad) : FnOk P w K mg base CX0 2 ad.f_tier_at ad.d_tier_at ["ranks", "wanted"] (spTier K) := by
  refine T.F_tier_at.ok sc_tier_at (fun vs H Q E h => ?_) (fun cdv A outer s H vs Q E hr h => ?_)
  · obtain ⟨p, rs, r, rfl, _⟩ := h
    rfl
  obtain ⟨p, rs, r, rfl, hS, h12, q⟩ := h
  refine ⟨_, (@pss_cons _ _ _ _ _ (@ps_set _ _ (2) _ _ _ _ sc_tier_at.nd rfl (Or.inl rfl) pe_int (by rfl) (by first | exact .inl rfl | exact .inr rfl | assumption)) (@pss_cons _ _ _ _ _ (ps_for PassesOwn.never rfl (pi_enum rfl T.z_enumerate (@pa_cons _ _ _ _ _ (pv 0) pa_nil (by rfl))) (pg_tup rfl (pgs_cons (pg_name (i := 3) sc_tier_at.nd rfl (Or.inl rfl)) (pgs_cons (pg_name (i := 4) sc_tier_at.nd rfl (Or.inl rfl)) pgs_nil))) (@pss_one _ _ _ (@ps_if _ _ _ _ _ _ _ _ (@pt_cmpR _ _ _ _ _ _ _ _ op_eq (pv 4) (pv 1) (nomark _)) (@pss_one _ _ _ (@ps_set _ _ (2) _ _ _ _ sc_tier_at.nd rfl (Or.inl rfl) (@pe_call _ _ _ _ _ _ _ _ _ _ _ _ _ _ _ _ (ok_with_one T) (hr.mono (by decide)) rfl T.m_with_one T.F_with_one.kp T.b_with_one .nil pass0 (@pa_cons _ _ _ _ _ (pv 2) (@pa_cons _ _ _ _ _ (pv 3) pa_nil (by rfl)) (by rfl)) (by decide) (by rfl) (by rfl)) (by rfl) (by first | exact .inl rfl | exact .inr rfl | assumption))) pss_nil))) (@pss_one _ _ _ (@ps_ret _ _ _ _ (pv 2))))), ?_⟩
  refine ⟨_, rfl, p, rfl, ⟨_, hS⟩, for_enum (xs := rs.map V.int) (fun i σ' H' => ∃ v3 v4, σ' = [some (.ref p), some (.int r), some (.int (msum i (isR rs r))), v3, v4] ∧ Same H H') ⟨none, none, rfl, fun _ _ e => e⟩ (fun i σ' H' _ ⟨_, _, _, e⟩ => e.seq hS) ?_ ?_⟩
  · rintro i x T0 σ' H' hx ⟨v3, v4, rfl, s1⟩ hT
    obtain ⟨z, hz, rfl⟩ := int_at hx
    have hi : i < rs.length := (List.getElem?_eq_some_iff.mp hz).1
    have s2 := same_new hT (.tup [.int (i : Int), .int z])
    have eT : (upd H' T0 (.tup [.int (i : Int), .int z])) T0 = some (.tup [.int (i : Int), .int z]) := upd_same
    generalize upd H' T0 (.tup [.int (i : Int), .int z]) = H2 at s2 eT ⊢
    refine ⟨T0, _, rfl, SqT.of eT, rfl, _, _, rfl, _, _, rfl, rfl, ?_⟩
    have ms := msum_succ i (isR rs r)
    have eb : decide (V.int z = V.int r) = isR rs r i := by
      unfold isR
      rw [hz]
      by_cases c : z = r
      · rw [decide_eq_true (by rw [c]), decide_eq_true (by rw [c])]
      · rw [decide_eq_false (fun e => c (V.int.inj e)), decide_eq_false (fun e => c (Option.some.inj e))]
    (repeat (first | refine ⟨_, rfl, ?_⟩ | refine ⟨_, _, rfl, rfl, ?_⟩ | refine ⟨rfl, ?_⟩ | refine ⟨(by show (_ : Int) ≠ 0; first | decide | decide +kernel), ?_⟩ | refine ⟨⟨(by show (_ : Int) ≠ 0; decide), szd 9000⟩, ?_⟩ | refine ⟨(by show CPow _ _; exact ⟨by decide, by decide, by decide⟩), ?_⟩ | refine ⟨(by show CMulB _ _; refine ⟨_, _, (by trivial), (by trivial), ?_⟩; decide +kernel), ?_⟩ | refine ⟨_, _, _, _, rfl, rfl, SqL.of (by assumption), (by rfl), ?_⟩ | refine ⟨_, _, _, _, rfl, rfl, SqT.of (by assumption), (by rfl), ?_⟩ | refine ⟨_, _, rfl, .inl (SqL.of (by assumption)), ?_⟩ | refine ⟨_, _, rfl, .inr (SqT.of (by assumption)), ?_⟩))
    cases er : isR rs r i with
    | true =>
      refine ifT (eb.trans er) ?_
      refine ⟨_, rfl, _, rfl, msum i (isR rs r), (i : Int), rfl, by omega, by omega, ?_⟩
      have e : Builtin.bitOr (msum i (isR rs r)) (1 * 2 ^ (i : Int).toNat) = msum (i + 1) (isR rs r) := by
        rw [ms, er, if_pos rfl, Int.toNat_natCast]
        exact or_msum i _
      rw [e]
      exact ⟨_, _, rfl, s1.trans s2⟩
    | false =>
      refine ifF (eb.trans er) ?_
      rw [er, if_neg (by decide), Int.add_zero] at ms
      exact ⟨_, _, by rw [ms]; rfl, s1.trans s2⟩
  · rintro σ' H' ⟨v3, v4, rfl, s1⟩
    refine ⟨_, rfl, ?_⟩
    rw [List.length_map]
    exact q _ s1
theorem ok_ranks_of (T : Tx K mg ad) : FnOk P w K mg base CX0 2 ad.f_ranks_of ad.d_ranks_of ["slip", "hands"] spRanksOf := by
  refine T.F_ranks_of.ok sc_ranks_of (fun vs H Q E h => ?_) (fun cdv A outer s H vs Q E hr h => ?_)
  · obtain ⟨t, ts, n, rfl, _⟩ := h
    rfl
  obtain ⟨t, ts, n, rfl, ht, n12, hts, q⟩ := h
  refine ⟨_, (@pss_cons _ _ _ _ _ (ps_setC (j := 2) (fsc := defScope s_ranks_of) (N := ["slip", "hands", "ranks", "place", "tier", "hand"]) (Nc := ["slip", "hands", "ranks", "place", "tier", ".s5", "hand"]) rfl rfl ⟨rfl, by decide +kernel, by decide +kernel, rfl, by decide +kernel, rfl, by decide +kernel, rfl, by decide +kernel⟩ rfl sc_ranks_of.nd rfl rfl (pi_range1 rfl T.z_range (@pa_cons _ _ _ _ _ (pv 1) pa_nil (by rfl))) (fun _ _ _ _ => pif_nil) (fun _ _ _ _ => pe_int) rfl) (@pss_cons _ _ _ _ _ (ps_for PassesOwn.never rfl (pi_enumT rfl T.z_enumerate (@pa_cons _ _ _ _ _ (pv 0) pa_nil (by rfl))) (pg_tup rfl (pgs_cons (pg_name (i := 3) sc_ranks_of.nd rfl (Or.inl rfl)) (pgs_cons (pg_name (i := 4) sc_ranks_of.nd rfl (Or.inl rfl)) pgs_nil))) (@pss_one _ _ _ (ps_for PassesOwn.never rfl (pi_list (@pe_call _ _ _ _ _ _ _ _ _ _ _ _ _ _ _ _ (ok_members T) (hr.mono (by decide)) rfl T.m_members T.F_members.kp T.b_members .nil pass0 (@pa_cons _ _ _ _ _ (pv 4) pa_nil (by rfl)) (by decide) (by rfl) (by rfl))) (pg_name (i := 5) sc_ranks_of.nd rfl (Or.inl rfl)) (@pss_one _ _ _ (ps_asg (@pe_op _ _ _ _ _ _ _ _ op_add (pv 3) pe_int) (pg_sub (pv 2) (pv 5) set_list)))))) (@pss_one _ _ _ (@ps_ret _ _ _ _ (pv 2))))), ?_⟩
  refine ⟨_, rfl, (n : Int), rfl, by omega, by omega, ?_⟩
  rw [show ((n : Int)).toNat = n from Int.toNat_natCast n]
  refine comp_range (small63 (by omega)) (fun D i ys H' => ys = (List.replicate i (0 : Int)).map V.int ∧ H' = upd H D (.lst ys)) (fun D hD => ⟨rfl, rfl⟩) (fun D i ys H' ⟨f1, f2⟩ => ⟨by rw [f2]; exact upd_same, by rw [f1, List.length_map, List.length_replicate]; exact Nat.le_refl _⟩) ?_ ?_
  · rintro D i ys H' K1 K2 hD hi ⟨f1, rfl⟩ k1 k2
    refine yes (ifT rfl ?_)
    refine k1 _ _ upd_same ⟨?_, by rw [upd_upd]⟩
    rw [f1, List.replicate_succ', List.map_append]
    rfl
  rintro l ys H1 hl ⟨rfl, rfl⟩
  have s1 := same_new hl (.lst ((List.replicate n (0 : Int)).map V.int))
  have e1 : (upd H l (.lst ((List.replicate n (0 : Int)).map V.int))) l = some (.lst ((List.replicate n (0 : Int)).map V.int)) := upd_same
  generalize upd H l (.lst ((List.replicate n (0 : Int)).map V.int)) = H1 at s1 e1 ⊢
  have e0 : H1 l = some (.lst (((List.range n).map fun h => rk ts h 0).map V.int)) := by
    rw [e1]
    congr 3
    apply List.ext_getElem
    · simp
    · intro i h1 h2
      simp [rk]
  refine ⟨_, rfl, t, rfl, ⟨_, SqT.of (s1 _ _ ht)⟩, for_enumT (xs := ts.map V.int) (fun i σ' H' => ∃ v3 v4 v5, σ' = [some (.ref t), some (.int (n : Int)), some (.ref l), v3, v4, v5] ∧ Same H H' ∧ H' l = some (.lst (((List.range n).map fun h => rk ts h i).map V.int))) ⟨none, none, none, rfl, s1, e0⟩ (fun i σ' H' _ ⟨_, _, _, _, e, _⟩ => SqT.of (e _ _ ht)) ?_ ?_⟩
  · rintro i x T0 σ' H' hx ⟨v3, v4, v5, rfl, s2, e2⟩ hT
    obtain ⟨z, hz, rfl⟩ := int_at hx
    have hi : i < ts.length := (List.getElem?_eq_some_iff.mp hz).1
    obtain ⟨z0, z1⟩ := hts z (List.mem_of_getElem? hz)
    have z12 : z < 4096 := by
      have q : 2 ^ n ≤ 2 ^ 12 := Nat.pow_le_pow_right (by decide) n12
      have a1 : ((2 ^ n : Nat) : Int) = (2 : Int) ^ n := by simp
      omega
    have s3 := same_new hT (.tup [.int (i : Int), .int z])
    have eT : (upd H' T0 (.tup [.int (i : Int), .int z])) T0 = some (.tup [.int (i : Int), .int z]) := upd_same
    generalize upd H' T0 (.tup [.int (i : Int), .int z]) = H2 at s3 eT ⊢
    refine ⟨T0, _, rfl, SqT.of eT, rfl, _, _, rfl, _, _, rfl, rfl, ?_⟩
    refine ⟨_, rfl, z, rfl, z0, z12, fun m H3 hm s4 e4 => ?_⟩
    have e3 := (s3.trans s4) _ _ e2
    have lm : l ≠ m := fun e => by
      rw [← e] at hm
      rw [s3 _ _ e2] at hm
      cases hm
    have sH3 := s2.trans (s3.trans s4)
    refine ⟨m, rfl, ⟨_, SqL.of e4⟩, for_list (xs := (hands 12 (bit z)).map V.int) (fun j σ' H' => ∃ v5, σ' = [some (.ref t), some (.int (n : Int)), some (.ref l), some (.int (i : Int)), some (.int z), v5] ∧ Same H H' ∧ H' m = some (.lst ((hands 12 (bit z)).map V.int)) ∧ H' l = some (.lst (((List.range n).map fun h : Nat => if (h : Int) ∈ (hands 12 (bit z)).take j then (i : Int) + 1 else rk ts h i).map V.int))) ⟨_, rfl, sH3, e4, by rw [e3]; simp⟩ (fun j σ' H' _ ⟨_, _, _, e, _⟩ => SqL.of e) ?_ ?_⟩
    · rintro j y σ' H4 hy ⟨v5', rfl, s5, e5, e6⟩
      obtain ⟨h, hh, rfl⟩ := int_at hy
      obtain ⟨h', h12, hb, rfl⟩ := hands_mem.mp (List.mem_of_getElem? hh)
      have hn : h' < n := by
        cases Nat.lt_or_ge h' n with
        | inl c => exact c
        | inr c =>
          have p : (2 : Int) ^ n ≤ 2 ^ h' := by
            have q : 2 ^ n ≤ 2 ^ h' := Nat.pow_le_pow_right (by decide) c
            have a1 : ((2 ^ n : Nat) : Int) = (2 : Int) ^ n := by simp
            have a2 : ((2 ^ h' : Nat) : Int) = (2 : Int) ^ h' := by simp
            omega
          rw [bit_high z0 (by omega)] at hb
          cases hb
      have et : (hands 12 (bit z)).take (j + 1) = (hands 12 (bit z)).take j ++ [(h' : Int)] := by rw [List.take_succ, hh]; rfl
      (repeat (first | refine ⟨_, rfl, ?_⟩ | refine ⟨_, _, rfl, rfl, ?_⟩ | refine ⟨rfl, ?_⟩ | refine ⟨(by show (_ : Int) ≠ 0; first | decide | decide +kernel), ?_⟩ | refine ⟨⟨(by show (_ : Int) ≠ 0; decide), szd 9000⟩, ?_⟩ | refine ⟨(by show CPow _ _; exact ⟨by decide, by decide, by decide⟩), ?_⟩ | refine ⟨(by show CMulB _ _; refine ⟨_, _, (by trivial), (by trivial), ?_⟩; decide +kernel), ?_⟩ | refine ⟨_, _, _, _, rfl, rfl, SqL.of (by assumption), (by rfl), ?_⟩ | refine ⟨_, _, _, _, rfl, rfl, SqT.of (by assumption), (by rfl), ?_⟩ | refine ⟨_, _, rfl, .inl (SqL.of (by assumption)), ?_⟩ | refine ⟨_, _, rfl, .inr (SqT.of (by assumption)), ?_⟩))
      refine ⟨l, _, _, h', rfl, rfl, e6, ixN_nat (by rw [List.length_map, List.length_map, List.length_range]; exact hn), ?_⟩
      refine ⟨_, rfl, same_upd s5 hl, ?_, ?_⟩
      · rw [upd_ne (Ne.symm lm)]; exact e5
      · rw [upd_same, ← List.map_set, set_range _ _ hn, et]
        congr 3
        apply List.map_congr_left
        intro k _
        by_cases c : k = h'
        · subst c; simp
        · have c' : ¬ (k : Int) = (h' : Int) := by omega
          simp [c, c']
    · rintro σ' H4 ⟨v5', rfl, s5, e5, e6⟩
      refine ⟨_, _, _, rfl, s5, ?_⟩
      rw [List.length_map, List.take_of_length_le (Nat.le_refl _)] at e6
      rw [e6]
      congr 3
      apply List.map_congr_left
      intro h hm'
      have hn := List.mem_range.mp hm'
      show _ = if bit (ts.getD i 0) h = true then (i : Int) + 1 else rk ts h i
      rw [List.getD_eq_getElem?_getD, hz, Option.getD_some]
      have iff : (h : Int) ∈ hands 12 (bit z) ↔ bit z h = true := by
        rw [hands_mem]
        constructor
        · rintro ⟨k, _, k2, k3⟩
          have : h = k := by omega
          rw [this]; exact k2
        · intro b
          exact ⟨h, by omega, b, rfl⟩
      by_cases c : bit z h = true
      · rw [if_pos c, if_pos (iff.mpr c)]
      · rw [if_neg c, if_neg (fun e => c (iff.mp e))]
  · rintro σ' H' ⟨v3, v4, v5, rfl, s2, e2⟩
    rw [List.length_map] at e2
    exact ⟨_, rfl, q l H' hl s2 e2⟩
theorem ok_law_ranks (T : Tx K mg ad) : FnOk P w K mg base CX0 2 ad.f_law_ranks ad.d_law_ranks ["_law_script", "_law_at", "_law_hands"] (spRanks K) := by
  refine T.F_law_ranks.ok sc_law_ranks (fun vs H Q E h => ?_) (fun cdv A outer s H vs Q E hr h => ?_)
  · obtain ⟨p, ns, k, h, rfl, _⟩ := h
    rfl
  obtain ⟨p, ns, k, h, rfl, hS, h63, k0, k1, h1, h12, q⟩ := h
  refine ⟨_, (@pss_cons _ _ _ _ _ (@ps_set _ _ (3) _ _ _ _ sc_law_ranks.nd rfl (Or.inl rfl) (@pe_call _ _ _ _ _ _ _ _ _ _ _ _ _ _ _ _ (ok_law_cell T) (hr.mono (by decide)) rfl T.m_law_cell T.F_law_cell.kp T.b_law_cell .nil pass0 (@pa_cons _ _ _ _ _ (pv 0) (@pa_cons _ _ _ _ _ (pv 1) pa_nil (by rfl)) (by rfl)) (by decide) (by rfl) (by rfl)) (by rfl) (by first | exact .inl rfl | exact .inr rfl | assumption)) (@pss_cons _ _ _ _ _ (@ps_set _ _ (4) _ _ _ _ sc_law_ranks.nd rfl (Or.inl rfl) (@pe_op _ _ _ _ _ _ _ _ op_add pe_int (@pe_op _ _ _ _ _ _ _ _ op_modN (@pe_call _ _ _ _ _ _ _ _ _ _ _ _ _ _ _ _ (ok_law_mixed T) (hr.mono (by decide)) rfl T.m_law_mixed T.F_law_mixed.kp T.b_law_mixed .nil pass0 (@pa_cons _ _ _ _ _ (pv 3) (@pa_cons _ _ _ _ _ pe_int pa_nil (by rfl)) (by rfl)) (by decide) (by rfl) (by rfl)) (pv 2))) (by rfl) (by first | exact .inl rfl | exact .inr rfl | assumption)) (@pss_cons _ _ _ _ _ (@ps_set _ _ (5) _ _ _ _ sc_law_ranks.nd rfl (Or.inl rfl) pe_int (by rfl) (by first | exact .inl rfl | exact .inr rfl | assumption)) (@pss_cons _ _ _ _ _ (@ps_set _ _ (6) _ _ _ _ sc_law_ranks.nd rfl (Or.inl rfl) pe_int (by rfl) (by first | exact .inl rfl | exact .inr rfl | assumption)) (@pss_cons _ _ _ _ _ (@ps_ifJ _ _ _ _ _ _ _ _ (@pt_cmpR _ _ _ _ _ _ _ _ op_gt (@pe_op _ _ _ _ _ _ _ _ op_modN (pv 3) pe_int) pe_int (nomark _)) (@pss_cons _ _ _ _ _ (@ps_set _ _ (5) _ _ _ _ sc_law_ranks.nd rfl (Or.inl rfl) (@pe_op _ _ _ _ _ _ _ _ op_add pe_int (@pe_op _ _ _ _ _ _ _ _ op_modN (@pe_call _ _ _ _ _ _ _ _ _ _ _ _ _ _ _ _ (ok_law_mixed T) (hr.mono (by decide)) rfl T.m_law_mixed T.F_law_mixed.kp T.b_law_mixed .nil pass0 (@pa_cons _ _ _ _ _ (pv 3) (@pa_cons _ _ _ _ _ pe_int pa_nil (by rfl)) (by rfl)) (by decide) (by rfl) (by rfl)) pe_int)) (by rfl) (by first | exact .inl rfl | exact .inr rfl | assumption)) (@pss_one _ _ _ (@ps_set _ _ (6) _ _ _ _ sc_law_ranks.nd rfl (Or.inl rfl) (@pe_op _ _ _ _ _ _ _ _ op_add pe_int (@pe_op _ _ _ _ _ _ _ _ op_modN (@pe_call _ _ _ _ _ _ _ _ _ _ _ _ _ _ _ _ (ok_law_mixed T) (hr.mono (by decide)) rfl T.m_law_mixed T.F_law_mixed.kp T.b_law_mixed .nil pass0 (@pa_cons _ _ _ _ _ (pv 3) (@pa_cons _ _ _ _ _ pe_int pa_nil (by rfl)) (by rfl)) (by decide) (by rfl) (by rfl)) pe_int)) (by rfl) (by first | exact .inl rfl | exact .inr rfl | assumption)))) pss_nil) (@pss_cons _ _ _ _ _ (@ps_set _ _ (7) _ _ _ _ sc_law_ranks.nd rfl (Or.inl rfl) (@pe_lst _ _ _ _ pa_nil) (by rfl) (by first | exact .inl rfl | exact .inr rfl | assumption)) (@pss_cons _ _ _ _ _ (ps_for PassesOwn.never rfl (pi_range1 rfl T.z_range (@pa_cons _ _ _ _ _ (pv 2) pa_nil (by rfl))) (pg_name (i := 8) sc_law_ranks.nd rfl (Or.inl rfl)) (@pss_cons _ _ _ _ _ (@ps_set _ _ (9) _ _ _ _ sc_law_ranks.nd rfl (Or.inl rfl) (@pe_call _ _ _ _ _ _ _ _ _ _ _ _ _ _ _ _ (ok_law_mixed T) (hr.mono (by decide)) rfl T.m_law_mixed T.F_law_mixed.kp T.b_law_mixed .nil pass0 (@pa_cons _ _ _ _ _ (@pe_call _ _ _ _ _ _ _ _ _ _ _ _ _ _ _ _ (ok_law_cell T) (hr.mono (by decide)) rfl T.m_law_cell T.F_law_cell.kp T.b_law_cell .nil pass0 (@pa_cons _ _ _ _ _ (pv 0) (@pa_cons _ _ _ _ _ (@pe_op _ _ _ _ _ _ _ _ op_add (@pe_op _ _ _ _ _ _ _ _ op_add (pv 1) pe_int) (pv 8)) pa_nil (by rfl)) (by rfl)) (by decide) (by rfl) (by rfl)) (@pa_cons _ _ _ _ _ (pv 8) pa_nil (by rfl)) (by rfl)) (by decide) (by rfl) (by rfl)) (by rfl) (by first | exact .inl rfl | exact .inr rfl | assumption)) (@pss_one _ _ _ (@ps_if _ _ _ _ _ _ _ _ (PW.pt (@pw_and _ _ _ _ _ _ _ (@pt_cmpR _ _ _ _ _ _ _ _ op_eq (@pe_op _ _ _ _ _ _ _ _ op_modN (pv 9) pe_int) pe_int (nomark _)) (@pw_and1 _ _ _ _ (@pt_cmpR _ _ _ _ _ _ _ _ op_gt (@pe_op _ _ _ _ _ _ _ _ op_modN (@pe_op _ _ _ _ _ _ _ _ op_fdivB (pv 3) pe_int) pe_int) pe_int (nomark _))))) (@pss_one _ _ _ (@ps_expr _ _ _ _ (pe_bm PySem.F.plainAttrs_list PySem.F.slot_list_append PySem.F.type_list_append mt_append (pv 7) (@pa_cons _ _ _ _ _ pe_int pa_nil (by rfl))) (by rfl))) (@pss_one _ _ _ (@ps_expr _ _ _ _ (pe_bm PySem.F.plainAttrs_list PySem.F.slot_list_append PySem.F.type_list_append mt_append (pv 7) (@pa_cons _ _ _ _ _ (@pe_op _ _ _ _ _ _ _ _ op_add (pv 5) (@pe_op _ _ _ _ _ _ _ _ op_mulB (pv 6) (@pe_op _ _ _ _ _ _ _ _ op_modN (@pe_op _ _ _ _ _ _ _ _ op_fdivB (pv 9) pe_int) (pv 4)))) pa_nil (by rfl))) (by rfl))))))) (@pss_cons _ _ _ _ _ (@ps_if _ _ _ _ _ _ _ _ (PW.pt (@pw_and _ _ _ _ _ _ _ (@pt_cmpR _ _ _ _ _ _ _ _ op_eq (@pe_op _ _ _ _ _ _ _ _ op_modN (@pe_op _ _ _ _ _ _ _ _ op_fdivB (pv 3) pe_int) pe_int) pe_int (nomark _)) (@pw_and1 _ _ _ _ (@pt_cmpR _ _ _ _ _ _ _ _ op_gt (@pe_callB _ _ _ _ _ _ _ _ _ (call_max1 rfl) (by rfl) T.z_max PyProof.Rows.boot_max (@pa_cons _ _ _ _ _ (pv 7) pa_nil (by rfl)) (by decide) (by decide) (by rfl) (by rfl)) pe_int (nomark _))))) (@pss_cons _ _ _ _ _ (@ps_set _ _ (10) _ _ _ _ sc_law_ranks.nd rfl (Or.inr rfl) (@pe_callB _ _ _ _ _ _ _ _ _ (call_max1 rfl) (by rfl) T.z_max PyProof.Rows.boot_max (@pa_cons _ _ _ _ _ (pv 7) pa_nil (by rfl)) (by decide) (by decide) (by rfl) (by rfl)) (by rfl) (by first | exact .inl rfl | exact .inr rfl | assumption)) (@pss_one _ _ _ (ps_setC (j := 7) (fsc := defScope s_law_ranks) (N := ["_law_script", "_law_at", "_law_hands", "_law_head", "_law_spread", "_law_base", "_law_gap", "_law_ranks_here", "_law_hand", "_law_number", "_law_most"]) (Nc := ["_law_script", "_law_at", "_law_hands", "_law_head", "_law_spread", "_law_base", "_law_gap", "_law_ranks_here", "_law_hand", "_law_number", "_law_most", "_law_rank"]) rfl rfl ⟨rfl, by decide +kernel, by decide +kernel, rfl, by decide +kernel, rfl, by decide +kernel, rfl, by decide +kernel⟩ rfl sc_law_ranks.nd rfl rfl (pi_list (pv 7)) (fun _ _ _ _ => pif_nil) (fun _ _ _ _ => (@pe_ix _ _ _ _ _ _ _ (ix_listK K) (@pe_lst _ _ _ _ (@pa_cons _ _ _ _ _ (pv 11) (@pa_cons _ _ _ _ _ (@pe_op _ _ _ _ _ _ _ _ op_pow pe_int pe_int) pa_nil (by rfl)) (by rfl))) (@pe_callTy _ _ _ _ _ _ _ _ _ call_int1 (by rfl) T.z_int PyProof.Rows.boot_int (@pa_cons _ _ _ _ _ (@pe_cmpR _ _ _ _ _ _ _ _ op_eq (pv 11) (pv 10) (nomark _)) pa_nil (by rfl)) (by decide) (by decide) (by rfl) (by rfl)) (fun _ _ => rfl))) rfl))) pss_nil) (@pss_one _ _ _ (@ps_ret _ _ _ _ (pv 7))))))))))), ?_⟩
  refine ⟨_, rfl, _, rfl, p, ns, k, rfl, hS, h63, k0, by omega, fun c c0 c1 => ?_⟩
  have szc := sz40 c0 c1
  refine ⟨_, rfl, c, 3, rfl, szc, szd 64, fun z z0 z1 => ?_⟩
  refine ⟨_, rfl, _, _, rfl, rfl, (by show h ≠ 0; omega), _, _, rfl, rfl, ?_⟩
  have hm := fmod_in z (show (0 : Int) < h by omega)
  dsimp only
  generalize z.fmod h = sp at hm ⊢
  refine ⟨fun σ' H' => ∃ b g : Int, σ' = [some (.ref p), some (.int k), some (.int h), some (.int c), some (.int (1 + sp)), some (.int b), some (.int g), none, none, none, none] ∧ H' = H ∧ 1 ≤ b ∧ b ≤ 100000000 ∧ 1 ≤ g ∧ g ≤ 70000000, ?_, ?_⟩
  · (repeat (first | refine ⟨_, rfl, ?_⟩ | refine ⟨_, _, rfl, rfl, ?_⟩ | refine ⟨rfl, ?_⟩ | refine ⟨(by show (_ : Int) ≠ 0; first | decide | decide +kernel), ?_⟩ | refine ⟨⟨(by show (_ : Int) ≠ 0; decide), szd 9000⟩, ?_⟩ | refine ⟨(by show CPow _ _; exact ⟨by decide, by decide, by decide⟩), ?_⟩ | refine ⟨(by show CMulB _ _; refine ⟨_, _, (by trivial), (by trivial), ?_⟩; decide +kernel), ?_⟩ | refine ⟨_, _, _, _, rfl, rfl, SqL.of (by assumption), (by rfl), ?_⟩ | refine ⟨_, _, _, _, rfl, rfl, SqT.of (by assumption), (by rfl), ?_⟩ | refine ⟨_, _, rfl, .inl (SqL.of (by assumption)), ?_⟩ | refine ⟨_, _, rfl, .inr (SqT.of (by assumption)), ?_⟩))
    refine ite2 (fun _ => ?_) (fun _ => ?_)
    · refine ⟨_, rfl, c, 1, rfl, szc, szd 64, fun y y0 y1 => ?_⟩
      (repeat (first | refine ⟨_, rfl, ?_⟩ | refine ⟨_, _, rfl, rfl, ?_⟩ | refine ⟨rfl, ?_⟩ | refine ⟨(by show (_ : Int) ≠ 0; first | decide | decide +kernel), ?_⟩ | refine ⟨⟨(by show (_ : Int) ≠ 0; decide), szd 9000⟩, ?_⟩ | refine ⟨(by show CPow _ _; exact ⟨by decide, by decide, by decide⟩), ?_⟩ | refine ⟨(by show CMulB _ _; refine ⟨_, _, (by trivial), (by trivial), ?_⟩; decide +kernel), ?_⟩ | refine ⟨_, _, _, _, rfl, rfl, SqL.of (by assumption), (by rfl), ?_⟩ | refine ⟨_, _, _, _, rfl, rfl, SqT.of (by assumption), (by rfl), ?_⟩ | refine ⟨_, _, rfl, .inl (SqL.of (by assumption)), ?_⟩ | refine ⟨_, _, rfl, .inr (SqT.of (by assumption)), ?_⟩))
      have m1 := fmod_in y (show (0 : Int) < 100000000 by decide)
      (try dsimp only)
      generalize y.fmod 100000000 = b at m1 ⊢
      refine ⟨c, 2, rfl, szc, szd 64, fun y y0 y1 => ?_⟩
      (repeat (first | refine ⟨_, rfl, ?_⟩ | refine ⟨_, _, rfl, rfl, ?_⟩ | refine ⟨rfl, ?_⟩ | refine ⟨(by show (_ : Int) ≠ 0; first | decide | decide +kernel), ?_⟩ | refine ⟨⟨(by show (_ : Int) ≠ 0; decide), szd 9000⟩, ?_⟩ | refine ⟨(by show CPow _ _; exact ⟨by decide, by decide, by decide⟩), ?_⟩ | refine ⟨(by show CMulB _ _; refine ⟨_, _, (by trivial), (by trivial), ?_⟩; decide +kernel), ?_⟩ | refine ⟨_, _, _, _, rfl, rfl, SqL.of (by assumption), (by rfl), ?_⟩ | refine ⟨_, _, _, _, rfl, rfl, SqT.of (by assumption), (by rfl), ?_⟩ | refine ⟨_, _, rfl, .inl (SqL.of (by assumption)), ?_⟩ | refine ⟨_, _, rfl, .inr (SqT.of (by assumption)), ?_⟩))
      have m2 := fmod_in y (show (0 : Int) < 70000000 by decide)
      (try dsimp only)
      generalize y.fmod 70000000 = g at m2 ⊢
      exact ⟨by omega, by omega, by omega, by omega⟩
    · exact ⟨1, 1, rfl, rfl, by decide, by decide, by decide, by decide⟩
  rintro σ' H' ⟨b, g, rfl, rfl, b0, b1, g0, g1⟩
  refine ⟨(by show 0 ≤ sizeLine; decide), fun l hl => ?_⟩
  refine ⟨_, rfl, h, rfl, by omega, by omega, for_range (fun i σ' H1 => ∃ (v8 v9 : Option V) (rs : List Int), σ' = [some (.ref p), some (.int k), some (.int h), some (.int c), some (.int (1 + sp)), some (.int b), some (.int g), some (.ref l), v8, v9, none] ∧ rs.length = i ∧ Same H' H1 ∧ H1 l = some (.lst (rs.map V.int)) ∧ ∀ r ∈ rs, 0 ≤ r ∧ r ≤ 1000000000) ⟨none, none, [], rfl, rfl, same_new hl _, upd_same, fun r m => nomatch m⟩ ?_ ?_⟩
  · rintro i σ' H1 hi ⟨v8, v9, rs, rfl, e1, s1, e2, hR⟩
    have more : ∀ x : Int, 0 ≤ x → x ≤ 1000000000 → ∀ r ∈ rs ++ [x], 0 ≤ r ∧ r ≤ 1000000000 := fun x x0 x1 r m => by
      rcases List.mem_append.mp m with m | m
      · exact hR r m
      · rw [List.mem_singleton.mp m]; exact ⟨x0, x1⟩
    (repeat (first | refine ⟨_, rfl, ?_⟩ | refine ⟨_, _, rfl, rfl, ?_⟩ | refine ⟨rfl, ?_⟩ | refine ⟨(by show (_ : Int) ≠ 0; first | decide | decide +kernel), ?_⟩ | refine ⟨⟨(by show (_ : Int) ≠ 0; decide), szd 9000⟩, ?_⟩ | refine ⟨(by show CPow _ _; exact ⟨by decide, by decide, by decide⟩), ?_⟩ | refine ⟨(by show CMulB _ _; refine ⟨_, _, (by trivial), (by trivial), ?_⟩; decide +kernel), ?_⟩ | refine ⟨_, _, _, _, rfl, rfl, SqL.of (by assumption), (by rfl), ?_⟩ | refine ⟨_, _, _, _, rfl, rfl, SqT.of (by assumption), (by rfl), ?_⟩ | refine ⟨_, _, rfl, .inl (SqL.of (by assumption)), ?_⟩ | refine ⟨_, _, rfl, .inr (SqT.of (by assumption)), ?_⟩))
    refine ⟨p, ns, _, rfl, s1.seq hS, h63, by omega, by omega, fun c' c0' c1' => ?_⟩
    refine ⟨_, rfl, c', _, rfl, sz40 c0' c1', sz_of (by omega) (by omega), fun y y0 y1 => ?_⟩
    (repeat (first | refine ⟨_, rfl, ?_⟩ | refine ⟨_, _, rfl, rfl, ?_⟩ | refine ⟨rfl, ?_⟩ | refine ⟨(by show (_ : Int) ≠ 0; first | decide | decide +kernel), ?_⟩ | refine ⟨⟨(by show (_ : Int) ≠ 0; decide), szd 9000⟩, ?_⟩ | refine ⟨(by show CPow _ _; exact ⟨by decide, by decide, by decide⟩), ?_⟩ | refine ⟨(by show CMulB _ _; refine ⟨_, _, (by trivial), (by trivial), ?_⟩; decide +kernel), ?_⟩ | refine ⟨_, _, _, _, rfl, rfl, SqL.of (by assumption), (by rfl), ?_⟩ | refine ⟨_, _, _, _, rfl, rfl, SqT.of (by assumption), (by rfl), ?_⟩ | refine ⟨_, _, rfl, .inl (SqL.of (by assumption)), ?_⟩ | refine ⟨_, _, rfl, .inr (SqT.of (by assumption)), ?_⟩))
    have put : ∀ x : Int, 0 ≤ x → x ≤ 1000000000 → ∃ (w8 w9 : Option V) (qs : List Int), [some (V.ref p), some (.int k), some (.int h), some (.int c), some (.int (1 + sp)), some (.int b), some (.int g), some (.ref l), some (.int (0 + (i : Int))), some (.int y), none] = [some (V.ref p), some (.int k), some (.int h), some (.int c), some (.int (1 + sp)), some (.int b), some (.int g), some (.ref l), w8, w9, none] ∧ qs.length = i + 1 ∧ Same H' (upd H1 l (.lst (rs.map V.int ++ [.int x]))) ∧ (upd H1 l (.lst (rs.map V.int ++ [.int x]))) l = some (.lst (qs.map V.int)) ∧ ∀ r ∈ qs, 0 ≤ r ∧ r ≤ 1000000000 := fun x x0 x1 =>
      ⟨_, _, rs ++ [x], rfl, by rw [List.length_append, e1]; rfl, same_upd s1 hl, by rw [upd_same, List.map_append]; rfl, more x x0 x1⟩
    have lim : (rs.map V.int).length < sizeLine := by rw [List.length_map]; exact small1000 (by omega)
    have other : 0 ≤ b + g * ((y.fdiv 4).fmod (1 + sp)) ∧ b + g * ((y.fdiv 4).fmod (1 + sp)) ≤ 1000000000 := by
      have m := fmod_in (y.fdiv 4) (show (0 : Int) < 1 + sp by omega)
      generalize (y.fdiv 4).fmod (1 + sp) = x at m ⊢
      have x11 : x ≤ 11 := by omega
      have a1 := Int.mul_nonneg (show 0 ≤ g by omega) m.1
      have a2 := Int.mul_le_mul g1 x11 m.1 (show (0 : Int) ≤ 70000000 by decide)
      omega
    have szg : Sz 64 g := sz_of (by omega) (by omega)
    have szo : Sz 64 ((y.fdiv 4).fmod (1 + sp)) := by
      have m := fmod_in (y.fdiv 4) (show (0 : Int) < 1 + sp by omega)
      exact sz_of (by omega) (by omega)
    refine ite2 (fun _ => ?_) (fun _ => ?_)
    · (repeat (first | refine ⟨_, rfl, ?_⟩ | refine ⟨_, _, rfl, rfl, ?_⟩ | refine ⟨rfl, ?_⟩ | refine ⟨(by show (_ : Int) ≠ 0; first | decide | decide +kernel), ?_⟩ | refine ⟨⟨(by show (_ : Int) ≠ 0; decide), szd 9000⟩, ?_⟩ | refine ⟨(by show CPow _ _; exact ⟨by decide, by decide, by decide⟩), ?_⟩ | refine ⟨(by show CMulB _ _; refine ⟨_, _, (by trivial), (by trivial), ?_⟩; decide +kernel), ?_⟩ | refine ⟨_, _, _, _, rfl, rfl, SqL.of (by assumption), (by rfl), ?_⟩ | refine ⟨_, _, _, _, rfl, rfl, SqT.of (by assumption), (by rfl), ?_⟩ | refine ⟨_, _, rfl, .inl (SqL.of (by assumption)), ?_⟩ | refine ⟨_, _, rfl, .inr (SqT.of (by assumption)), ?_⟩))
      refine ite2 (fun _ => ?_) (fun _ => ?_)
      · refine ⟨_, rfl, .inl ⟨rfl, _, SqL.of e2⟩, l, _, _, rfl, rfl, e2, lim, ?_⟩
        exact put 0 (by decide) (by decide)
      · exact ⟨_, rfl, .inl ⟨rfl, _, SqL.of e2⟩, _, rfl, _, rfl, _, rfl, _, _, rfl, rfl, ⟨(by show (_ : Int) ≠ 0; decide), szd 9000⟩, _, rfl, _, _, rfl, rfl, (by show (_ : Int) ≠ 0; omega), _, _, rfl, rfl, mulB szg szo, _, _, rfl, rfl, l, _, _, rfl, rfl, e2, lim, put _ other.1 other.2⟩
    · exact ifF rfl ⟨_, rfl, .inl ⟨rfl, _, SqL.of e2⟩, _, rfl, _, rfl, _, rfl, _, _, rfl, rfl, ⟨(by show (_ : Int) ≠ 0; decide), szd 9000⟩, _, rfl, _, _, rfl, rfl, (by show (_ : Int) ≠ 0; omega), _, _, rfl, rfl, mulB szg szo, _, _, rfl, rfl, l, _, _, rfl, rfl, e2, lim, put _ other.1 other.2⟩
  · rintro σ' H1 ⟨v8, v9, rs, rfl, e1, s1, e2, hR⟩
    (repeat (first | refine ⟨_, rfl, ?_⟩ | refine ⟨_, _, rfl, rfl, ?_⟩ | refine ⟨rfl, ?_⟩ | refine ⟨(by show (_ : Int) ≠ 0; first | decide | decide +kernel), ?_⟩ | refine ⟨⟨(by show (_ : Int) ≠ 0; decide), szd 9000⟩, ?_⟩ | refine ⟨(by show CPow _ _; exact ⟨by decide, by decide, by decide⟩), ?_⟩ | refine ⟨(by show CMulB _ _; refine ⟨_, _, (by trivial), (by trivial), ?_⟩; decide +kernel), ?_⟩ | refine ⟨_, _, _, _, rfl, rfl, SqL.of (by assumption), (by rfl), ?_⟩ | refine ⟨_, _, _, _, rfl, rfl, SqT.of (by assumption), (by rfl), ?_⟩ | refine ⟨_, _, rfl, .inl (SqL.of (by assumption)), ?_⟩ | refine ⟨_, _, rfl, .inr (SqT.of (by assumption)), ?_⟩))
    have fin : Q (.ref l) H1 := q l rs H1 hl s1 e2 (by omega) hR
    have pos : 0 < rs.length := by omega
    refine ite2 (fun _ => ?_) (fun _ => ?_)
    · refine ⟨_, rfl, l, rs, rfl, SqL.of e2, pos, fun M m1 m2 => ?_⟩
      (repeat (first | refine ⟨_, rfl, ?_⟩ | refine ⟨_, _, rfl, rfl, ?_⟩ | refine ⟨rfl, ?_⟩ | refine ⟨(by show (_ : Int) ≠ 0; first | decide | decide +kernel), ?_⟩ | refine ⟨⟨(by show (_ : Int) ≠ 0; decide), szd 9000⟩, ?_⟩ | refine ⟨(by show CPow _ _; exact ⟨by decide, by decide, by decide⟩), ?_⟩ | refine ⟨(by show CMulB _ _; refine ⟨_, _, (by trivial), (by trivial), ?_⟩; decide +kernel), ?_⟩ | refine ⟨_, _, _, _, rfl, rfl, SqL.of (by assumption), (by rfl), ?_⟩ | refine ⟨_, _, _, _, rfl, rfl, SqT.of (by assumption), (by rfl), ?_⟩ | refine ⟨_, _, rfl, .inl (SqL.of (by assumption)), ?_⟩ | refine ⟨_, _, rfl, .inr (SqT.of (by assumption)), ?_⟩))
      refine ite2 (fun _ => ?_) (fun _ => ?_)
      · refine ⟨_, rfl, l, rs, rfl, SqL.of e2, pos, fun N n1 n2 => ?_⟩
        refine ⟨_, rfl, l, rfl, ⟨_, SqL.of e2⟩, ?_⟩
        refine comp_list (xs := rs.map V.int) (by rw [List.length_map]; exact small63 (by omega)) (fun D i ys H2 => ∃ qs : List Int, ys = qs.map V.int ∧ qs.length = i ∧ H2 D = some (.lst ys) ∧ Same H1 H2 ∧ ∀ r ∈ qs, 0 ≤ r ∧ r ≤ 1000000000) (fun D hD => ⟨[], rfl, rfl, upd_same, same_new hD _, fun r m => nomatch m⟩)
          (fun D i ys H2 ⟨qs, f1, f2, f3, _⟩ => ⟨f3, by rw [f1, List.length_map]; omega⟩) (fun D i ys H2 hD ⟨qs, _, _, _, f4, _⟩ => SqL.of (f4 _ _ e2)) ?_ ?_
        · rintro D i x ys H2 K1 K2 hD hx ⟨qs, rfl, f2, f3, f4, f5⟩ k1 k2
          obtain ⟨z, hz, rfl⟩ := int_at hx
          have zR := hR z (List.mem_of_getElem? hz)
          have e9 : (10 : Int) ^ (9 : Int).toNat = 1000000000 := by decide
          refine yes (ifT rfl ?_)
          refine ⟨_, rfl, _, _, rfl, rfl, (by show CPow _ _; exact ⟨by decide, by decide, by decide⟩), (by show 2 ≤ sizeLine; decide), fun a ha => ?_⟩
          have s5 := same_new ha (.lst [V.int z, V.int (10 ^ (9 : Int).toNat)])
          have ea : (upd H2 a (.lst [V.int z, V.int (10 ^ (9 : Int).toNat)])) a = some (.lst [V.int z, V.int (10 ^ (9 : Int).toNat)]) := upd_same
          refine ⟨_, rfl, _, rfl, rfl, .inr ⟨_, rfl, ?_⟩⟩
          have fine : ∀ y : Int, 0 ≤ y → y ≤ 1000000000 → K1 (.int y) (upd H2 a (.lst [V.int z, V.int (10 ^ (9 : Int).toNat)])) := fun y y0 y1 => by
            refine k1 _ _ (s5 _ _ f3) ⟨qs ++ [y], by rw [List.map_append]; rfl, by rw [List.length_append, f2]; rfl, upd_same, same_upd (f4.trans s5) hD, fun r m => ?_⟩
            rcases List.mem_append.mp m with m | m
            · exact f5 r m
            · rw [List.mem_singleton.mp m]; exact ⟨y0, y1⟩
          by_cases zN : z = N
          · refine ⟨a, _, _, _, rfl, rfl, SqL.of ea, (by rw [eq_t zN]; rfl), ?_⟩
            exact fine _ (by rw [e9]; decide) (by rw [e9]; decide)
          · refine ⟨a, _, _, _, rfl, rfl, SqL.of ea, (by rw [eq_f zN]; rfl), ?_⟩
            exact fine _ zR.1 zR.2
        · rintro D ys H2 hD ⟨qs, rfl, f2, f3, f4, f5⟩
          rw [List.length_map] at f2
          have hDH : H' D = none := by
            cases e : H' D with
            | none => rfl
            | some u => rw [s1 _ _ e] at hD; cases hD
          exact ⟨_, rfl, q D qs H2 hDH (s1.trans f4) f3 (by omega) f5⟩
      · exact ⟨_, rfl, fin⟩
    · exact ifF rfl ⟨_, rfl, fin⟩
theorem ok_law_slip (T : Tx K mg ad) : FnOk P w K mg base CX0 2 ad.f_law_slip ad.d_law_slip ["_law_ranks_here"] (spSlip K) := by
  refine T.F_law_slip.ok sc_law_slip (fun vs H Q E h => ?_) (fun cdv A outer s H vs Q E hr h => ?_)
  · obtain ⟨p, rs, rfl, _⟩ := h
    rfl
  obtain ⟨p, rs, rfl, hS, h12, q⟩ := h
  refine ⟨_, (@pss_one _ _ _ (@ps_ret _ _ _ _ (@pe_callTy _ _ _ _ _ _ _ _ _ call_tuple_of (by rfl) T.z_tuple PyProof.Rows.boot_tuple (@pa_cons _ _ _ _ _ (pe_comp (fsc := defScope s_law_slip) (N := ["_law_ranks_here"]) (Nc := ["_law_ranks_here", "_law_rank"]) rfl rfl ⟨rfl, by decide +kernel, by decide +kernel, rfl, by decide +kernel, rfl, by decide +kernel, rfl, by decide +kernel⟩ rfl (pi_list (pe_sortedset rfl (by rfl) T.z_sorted (by rfl) T.z_set (pv 0))) (fun _ _ _ _ => (pif_one (@pt_cmpR _ _ _ _ _ _ _ _ op_gt (pv 1) pe_int (nomark _)))) (fun _ _ _ _ => (@pe_call _ _ _ _ _ _ _ _ _ _ _ _ _ _ _ _ (ok_law_tier T) (hr.mono (by decide)) rfl T.m_law_tier T.F_law_tier.kp T.b_law_tier .nil pass0 (@pa_cons _ _ _ _ _ (pv 0) (@pa_cons _ _ _ _ _ (pv 1) pa_nil (by rfl)) (by rfl)) (by decide) (by rfl) (by rfl)))) pa_nil (by rfl)) (by decide) (by decide) (by rfl) (by rfl)))), ?_⟩
  refine ⟨_, rfl, p, rs, rfl, hS, by omega, fun l ms m1 m2 hl => ?_⟩
  obtain rfl := sset_of m1 m2
  have sl := sset_len rs
  have s0 := same_new hl (.lst ((sset rs).map V.int))
  have el : (upd H l (.lst ((sset rs).map V.int))) l = some (.lst ((sset rs).map V.int)) := upd_same
  generalize upd H l (.lst ((sset rs).map V.int)) = H1 at s0 el ⊢
  refine ⟨l, rfl, ⟨_, SqL.of el⟩, ?_⟩
  refine comp_list (xs := (sset rs).map V.int) (by rw [List.length_map]; exact small63 (by omega)) (fun D i ys H' => ys = ((((sset rs).take i).filter fun r => decide (0 < r)).map (tierOf rs)).map V.int ∧ H' D = some (.lst ys) ∧ Same H1 H') (fun D hD => ⟨rfl, upd_same, same_new hD _⟩)
    (fun D i ys H' ⟨e1, e2, _⟩ => ⟨e2, by rw [e1, List.length_map, List.length_map]; exact Nat.le_trans (List.length_filter_le _ _) (List.length_take_le _ _)⟩) (fun D i ys H' hD ⟨_, _, e3⟩ => SqL.of (e3 _ _ el)) ?_ ?_
  · rintro D i x ys H' K1 K2 hD hx ⟨e1, e2, e3⟩ k1 k2
    obtain ⟨z, hz, rfl⟩ := int_at hx
    have et : (sset rs).take (i + 1) = (sset rs).take i ++ [z] := by rw [List.take_succ, hz]; rfl
    refine ⟨_, rfl, _, _, rfl, rfl, _, rfl, ?_⟩
    refine ite2 (fun c => ?_) (fun c => ?_)
    · have c' : decide (0 < z) = true := c
      refine ⟨_, rfl, _, rfl, p, rs, z, rfl, (s0.trans e3).seq hS, h12, fun H5 s5 => ?_⟩
      refine k1 _ _ (s5 _ _ e2) ⟨?_, upd_same, same_upd (e3.trans s5) hD⟩
      rw [et, List.filter_append, List.map_append, List.map_append, e1]
      simp [c']
    · have c' : decide (0 < z) = false := Bool.eq_false_iff.mpr c
      refine k2 _ ⟨?_, e2, e3⟩
      rw [et, List.filter_append, e1]
      simp [c']
  · rintro D ys H' hD ⟨e1, e2, e3⟩
    rw [List.length_map, List.take_of_length_le (Nat.le_refl _)] at e1
    subst e1
    refine ⟨D, _, rfl, .inl ⟨SqL.of e2, fun t ht => ?_⟩⟩
    have s9 := (s0.trans e3)
    exact q t _ (by
      cases e : H t with
      | none => rfl
      | some u => rw [s9 _ _ e] at ht; cases ht) (s9.trans (same_new ht _)) upd_same
theorem ok_law_same_slip (T : Tx K mg ad) : FnOk P w K mg base CX0 2 ad.f_law_same_slip ad.d_law_same_slip ["_law_found", "_law_due"] spSameSlip := by
  refine T.F_law_same_slip.ok sc_law_same_slip (fun vs H Q E h => ?_) (fun cdv A outer s H vs Q E hr h => ?_)
  · obtain ⟨a, b, ts, rfl, _⟩ := h
    rfl
  obtain ⟨a, b, ts, rfl, h1, h2, q⟩ := h
  refine ⟨_, (@pss_cons _ _ _ _ _ (@ps_if _ _ _ _ _ _ _ _ (PW.pt (@pw_or _ _ _ _ _ _ _ (@pt_not _ _ _ _ (@pt_val _ _ _ (@pe_callB _ _ _ _ _ _ _ _ _ call_isi (by rfl) T.z_isinstance PyProof.Rows.boot_isinstance (@pa_cons _ _ _ _ _ (pv 0) (@pa_cons _ _ _ _ _ (pe_bltn (v := .ty "tuple") rfl T.z_tuple PyProof.Rows.boot_tuple rfl) pa_nil (by rfl)) (by rfl)) (by decide) (by decide) (by rfl) (by rfl)) (by intro _; rfl))) (@pw_or1 _ _ _ _ (@pt_cmpR _ _ _ _ _ _ _ _ (op_neT hr.units) (pv 0) (pv 1) (nomark _))))) (@pss_one _ _ _ (@ps_ret _ _ _ _ pe_bl)) pss_nil) (@pss_cons _ _ _ _ _ (ps_for PassesOwn.never rfl (pi_tup (pv 0)) (pg_name (i := 2) sc_law_same_slip.nd rfl (Or.inl rfl)) (@pss_one _ _ _ (@ps_if _ _ _ _ _ _ _ _ (@pt_not _ _ _ _ (@pt_val _ _ _ (@pe_call _ _ _ _ _ _ _ _ _ _ _ _ _ _ _ _ (ok_law_whole T) (hr.mono (by decide)) rfl T.m_law_whole T.F_law_whole.kp T.b_law_whole .nil pass0 (@pa_cons _ _ _ _ _ (pv 2) pa_nil (by rfl)) (by decide) (by rfl) (by rfl)) (by intro _; rfl))) (@pss_one _ _ _ (@ps_ret _ _ _ _ pe_bl)) pss_nil))) (@pss_one _ _ _ (@ps_ret _ _ _ _ pe_bl)))), ?_⟩
  refine ⟨_, rfl, _, _, _, _, rfl, TyOf.tup h1, kit_tuple_tuple, ?_⟩
  (repeat (first | refine ⟨_, rfl, ?_⟩ | refine ⟨_, _, rfl, rfl, ?_⟩ | refine ⟨rfl, ?_⟩ | refine ⟨(by show (_ : Int) ≠ 0; first | decide | decide +kernel), ?_⟩ | refine ⟨⟨(by show (_ : Int) ≠ 0; decide), szd 9000⟩, ?_⟩ | refine ⟨(by show CPow _ _; exact ⟨by decide, by decide, by decide⟩), ?_⟩ | refine ⟨(by show CMulB _ _; refine ⟨_, _, (by trivial), (by trivial), ?_⟩; decide +kernel), ?_⟩ | refine ⟨_, _, _, _, rfl, rfl, SqL.of (by assumption), (by rfl), ?_⟩ | refine ⟨_, _, _, _, rfl, rfl, SqT.of (by assumption), (by rfl), ?_⟩ | refine ⟨_, _, rfl, .inl (SqL.of (by assumption)), ?_⟩ | refine ⟨_, _, rfl, .inr (SqT.of (by assumption)), ?_⟩))
  refine ⟨a, b, ts, ts, rfl, rfl, SqT.of h1, SqT.of h2, ?_⟩
  (repeat (first | refine ⟨_, rfl, ?_⟩ | refine ⟨_, _, rfl, rfl, ?_⟩ | refine ⟨rfl, ?_⟩ | refine ⟨(by show (_ : Int) ≠ 0; first | decide | decide +kernel), ?_⟩ | refine ⟨⟨(by show (_ : Int) ≠ 0; decide), szd 9000⟩, ?_⟩ | refine ⟨(by show CPow _ _; exact ⟨by decide, by decide, by decide⟩), ?_⟩ | refine ⟨(by show CMulB _ _; refine ⟨_, _, (by trivial), (by trivial), ?_⟩; decide +kernel), ?_⟩ | refine ⟨_, _, _, _, rfl, rfl, SqL.of (by assumption), (by rfl), ?_⟩ | refine ⟨_, _, _, _, rfl, rfl, SqT.of (by assumption), (by rfl), ?_⟩ | refine ⟨_, _, rfl, .inl (SqL.of (by assumption)), ?_⟩ | refine ⟨_, _, rfl, .inr (SqT.of (by assumption)), ?_⟩))
  refine ifF (by rw [decide_eq_true rfl]; rfl) ?_
  refine ⟨_, rfl, a, rfl, ⟨_, SqT.of h1⟩, for_tup (xs := ts.map V.int) (fun i σ' H' => ∃ v, σ' = [some (.ref a), some (.ref b), v] ∧ H' = H) ⟨none, rfl, rfl⟩ (fun i σ' H' _ ⟨_, _, e⟩ => by rw [e]; exact SqT.of h1) ?_ ?_⟩
  · rintro i x σ' H' hx ⟨v, rfl, rfl⟩
    obtain ⟨z, hz, rfl⟩ := int_at hx
    refine ⟨_, rfl, z, rfl, ?_⟩
    (repeat (first | refine ⟨_, rfl, ?_⟩ | refine ⟨_, _, rfl, rfl, ?_⟩ | refine ⟨rfl, ?_⟩ | refine ⟨(by show (_ : Int) ≠ 0; first | decide | decide +kernel), ?_⟩ | refine ⟨⟨(by show (_ : Int) ≠ 0; decide), szd 9000⟩, ?_⟩ | refine ⟨(by show CPow _ _; exact ⟨by decide, by decide, by decide⟩), ?_⟩ | refine ⟨(by show CMulB _ _; refine ⟨_, _, (by trivial), (by trivial), ?_⟩; decide +kernel), ?_⟩ | refine ⟨_, _, _, _, rfl, rfl, SqL.of (by assumption), (by rfl), ?_⟩ | refine ⟨_, _, _, _, rfl, rfl, SqT.of (by assumption), (by rfl), ?_⟩ | refine ⟨_, _, rfl, .inl (SqL.of (by assumption)), ?_⟩ | refine ⟨_, _, rfl, .inr (SqT.of (by assumption)), ?_⟩))
    rfl
  · rintro σ' H' ⟨v, rfl, rfl⟩
    exact q
theorem ok_are_ranks (T : Tx K mg ad) : FnOk P w K mg base CX0 3 ad.f_are_ranks ad.d_are_ranks ["thing", "hands"] (spAre K) := by
  refine T.F_are_ranks.ok sc_are_ranks (fun vs H Q E h => ?_) (fun cdv A outer s H vs Q E hr h => ?_)
  · obtain ⟨p, rs, rfl, _⟩ := h
    rfl
  obtain ⟨p, rs, rfl, hS, h12, hR, q⟩ := h
  refine ⟨_, (@pss_cons _ _ _ _ _ (@ps_if _ _ _ _ _ _ _ _ (@pt_not _ _ _ _ (@pt_val _ _ _ (@pe_callB _ _ _ _ _ _ _ _ _ call_isi (by rfl) T.z_isinstance PyProof.Rows.boot_isinstance (@pa_cons _ _ _ _ _ (pv 0) (@pa_cons _ _ _ _ _ (pe_bltn (v := .ty "list") rfl T.z_list PyProof.Rows.boot_list rfl) pa_nil (by rfl)) (by rfl)) (by decide) (by decide) (by rfl) (by rfl)) (by intro _; rfl))) (@pss_one _ _ _ (@ps_ret _ _ _ _ pe_bl)) pss_nil) (@pss_one _ _ _ (@ps_ret _ _ _ _ (@pe_and _ _ _ _ _ _ _ (@pe_cmpR _ _ _ _ _ _ _ _ op_eq (@pe_callB _ _ _ _ _ _ _ _ _ call_len_seq (by rfl) T.z_len PySem.boot_len (@pa_cons _ _ _ _ _ (pv 0) pa_nil (by rfl)) (by decide) (by decide) (by rfl) (by rfl)) (pv 1) (nomark _)) (@pe_one _ _ _ _ _ (@pe_callB _ _ _ _ _ _ _ _ _ (call_all rfl) (by rfl) T.z_all PyProof.Rows.boot_all (@pa_cons _ _ _ _ _ (pe_comp (fsc := defScope s_are_ranks) (N := ["thing", "hands"]) (Nc := ["thing", "hands", "rank"]) rfl rfl ⟨rfl, by decide +kernel, by decide +kernel, rfl, by decide +kernel, rfl, by decide +kernel, rfl, by decide +kernel⟩ rfl (pi_list (pv 0)) (fun _ _ _ _ => pif_nil) (fun _ _ _ _ => (@pe_call _ _ _ _ _ _ _ _ _ _ _ _ _ _ _ _ (ok_is_rank T) (hr.mono (by decide)) rfl T.m_is_rank T.F_is_rank.kp T.b_is_rank .nil pass0 (@pa_cons _ _ _ _ _ (pv 2) pa_nil (by rfl)) (by decide) (by rfl) (by rfl)))) pa_nil (by rfl)) (by decide) (by decide) (by rfl) (by rfl))))))), ?_⟩
  refine ⟨_, rfl, _, _, _, _, rfl, TyOf.lst hS, kit_list_list, ?_⟩
  (repeat (first | refine ⟨_, rfl, ?_⟩ | refine ⟨_, _, rfl, rfl, ?_⟩ | refine ⟨rfl, ?_⟩ | refine ⟨(by show (_ : Int) ≠ 0; first | decide | decide +kernel), ?_⟩ | refine ⟨⟨(by show (_ : Int) ≠ 0; decide), szd 9000⟩, ?_⟩ | refine ⟨(by show CPow _ _; exact ⟨by decide, by decide, by decide⟩), ?_⟩ | refine ⟨(by show CMulB _ _; refine ⟨_, _, (by trivial), (by trivial), ?_⟩; decide +kernel), ?_⟩ | refine ⟨_, _, _, _, rfl, rfl, SqL.of (by assumption), (by rfl), ?_⟩ | refine ⟨_, _, _, _, rfl, rfl, SqT.of (by assumption), (by rfl), ?_⟩ | refine ⟨_, _, rfl, .inl (SqL.of (by assumption)), ?_⟩ | refine ⟨_, _, rfl, .inr (SqT.of (by assumption)), ?_⟩))
  first | refine ifT (eq_t (by rw [List.length_map])) ?_ | (refine ⟨p, _, rfl, .inl (SqL.of hS), ?_⟩; (repeat (first | refine ⟨_, rfl, ?_⟩ | refine ⟨_, _, rfl, rfl, ?_⟩ | refine ⟨rfl, ?_⟩ | refine ⟨(by show (_ : Int) ≠ 0; first | decide | decide +kernel), ?_⟩ | refine ⟨⟨(by show (_ : Int) ≠ 0; decide), szd 9000⟩, ?_⟩ | refine ⟨(by show CPow _ _; exact ⟨by decide, by decide, by decide⟩), ?_⟩ | refine ⟨(by show CMulB _ _; refine ⟨_, _, (by trivial), (by trivial), ?_⟩; decide +kernel), ?_⟩ | refine ⟨_, _, _, _, rfl, rfl, SqL.of (by assumption), (by rfl), ?_⟩ | refine ⟨_, _, _, _, rfl, rfl, SqT.of (by assumption), (by rfl), ?_⟩ | refine ⟨_, _, rfl, .inl (SqL.of (by assumption)), ?_⟩ | refine ⟨_, _, rfl, .inr (SqT.of (by assumption)), ?_⟩)); refine ifT (eq_t (by rw [List.length_map])) ?_)
  refine ⟨_, rfl, p, rfl, ⟨_, SqL.of hS⟩, ?_⟩
  refine comp_list (xs := rs.map V.int) (by rw [List.length_map]; exact small63 (by omega)) (fun D i ys H' => ys = (List.replicate i true).map V.bl ∧ H' = upd H D (.lst ys)) (fun D hD => ⟨rfl, rfl⟩) (fun D i ys H' ⟨f1, f2⟩ => ⟨by rw [f2]; exact upd_same, by rw [f1, List.length_map, List.length_replicate]; exact Nat.le_refl _⟩) (fun D i ys H' hD ⟨_, f2⟩ => by rw [f2]; exact SqL.of (same_new hD _ _ _ hS)) ?_ ?_
  · rintro D i x ys H' K1 K2 hD hx ⟨f1, rfl⟩ k1 k2
    obtain ⟨z, hz, rfl⟩ := int_at hx
    obtain ⟨z0, z1⟩ := hR z (List.mem_of_getElem? hz)
    refine yes (ifT rfl ?_)
    refine ⟨_, rfl, z, rfl, z0, z1, ?_⟩
    refine k1 _ _ upd_same ⟨?_, by rw [upd_upd]⟩
    rw [f1, List.replicate_succ', List.map_append]
    rfl
  · rintro D ys H' hD ⟨rfl, rfl⟩
    refine ⟨D, _, rfl, SqL.of upd_same, ?_⟩
    rw [show (List.replicate (rs.map V.int).length true).all id = true from List.all_eq_true.mpr fun b m => (List.mem_replicate.mp m).2]
    exact q _ (same_new hD _)
theorem ok_slip_of (T : Tx K mg ad) : FnOk P w K mg base CX0 4 ad.f_slip_of ad.d_slip_of ["ranks", "hands"] (spSlipOf K) := by
  refine T.F_slip_of.ok sc_slip_of (fun vs H Q E h => ?_) (fun cdv A outer s H vs Q E hr h => ?_)
  · obtain ⟨p, rs, rfl, _⟩ := h
    rfl
  obtain ⟨p, rs, rfl, hS, h12, hR, q⟩ := h
  refine ⟨_, (@pss_cons _ _ _ _ _ (@ps_if _ _ _ _ _ _ _ _ (@pt_not _ _ _ _ (@pt_val _ _ _ (@pe_call _ _ _ _ _ _ _ _ _ _ _ _ _ _ _ _ (ok_are_ranks T) (hr.mono (by decide)) rfl T.m_are_ranks T.F_are_ranks.kp T.b_are_ranks .nil pass0 (@pa_cons _ _ _ _ _ (pv 0) (@pa_cons _ _ _ _ _ (pv 1) pa_nil (by rfl)) (by rfl)) (by decide) (by rfl) (by rfl)) (by intro _; rfl))) (@pss_one _ _ _ ps_never) pss_nil) (@pss_one _ _ _ (@ps_ret _ _ _ _ (@pe_callTy _ _ _ _ _ _ _ _ _ call_tuple_of (by rfl) T.z_tuple PyProof.Rows.boot_tuple (@pa_cons _ _ _ _ _ (pe_comp (fsc := defScope s_slip_of) (N := ["ranks", "hands"]) (Nc := ["ranks", "hands", "rank"]) rfl rfl ⟨rfl, by decide +kernel, by decide +kernel, rfl, by decide +kernel, rfl, by decide +kernel, rfl, by decide +kernel⟩ rfl (pi_list (pe_sortedset rfl (by rfl) T.z_sorted (by rfl) T.z_set (pv 0))) (fun _ _ _ _ => (pif_one (@pt_cmpR _ _ _ _ _ _ _ _ op_gt (pv 2) pe_int (nomark _)))) (fun _ _ _ _ => (@pe_call _ _ _ _ _ _ _ _ _ _ _ _ _ _ _ _ (ok_tier_at T) (hr.mono (by decide)) rfl T.m_tier_at T.F_tier_at.kp T.b_tier_at .nil pass0 (@pa_cons _ _ _ _ _ (pv 0) (@pa_cons _ _ _ _ _ (pv 2) pa_nil (by rfl)) (by rfl)) (by decide) (by rfl) (by rfl)))) pa_nil (by rfl)) (by decide) (by decide) (by rfl) (by rfl))))), ?_⟩
  refine ⟨_, rfl, _, rfl, p, rs, rfl, hS, h12, hR, fun H0 s00 => ?_⟩
  (repeat (first | refine ⟨_, rfl, ?_⟩ | refine ⟨_, _, rfl, rfl, ?_⟩ | refine ⟨rfl, ?_⟩ | refine ⟨(by show (_ : Int) ≠ 0; first | decide | decide +kernel), ?_⟩ | refine ⟨⟨(by show (_ : Int) ≠ 0; decide), szd 9000⟩, ?_⟩ | refine ⟨(by show CPow _ _; exact ⟨by decide, by decide, by decide⟩), ?_⟩ | refine ⟨(by show CMulB _ _; refine ⟨_, _, (by trivial), (by trivial), ?_⟩; decide +kernel), ?_⟩ | refine ⟨_, _, _, _, rfl, rfl, SqL.of (by assumption), (by rfl), ?_⟩ | refine ⟨_, _, _, _, rfl, rfl, SqT.of (by assumption), (by rfl), ?_⟩ | refine ⟨_, _, rfl, .inl (SqL.of (by assumption)), ?_⟩ | refine ⟨_, _, rfl, .inr (SqT.of (by assumption)), ?_⟩))
  refine ⟨p, rs, rfl, SqL.of (s00 _ _ hS), by omega, fun l ms m1 m2 hl => ?_⟩
  obtain rfl := sset_of m1 m2
  have sl := sset_len rs
  have s0 := s00.trans (same_new hl (.lst ((sset rs).map V.int)))
  have el : (upd H0 l (.lst ((sset rs).map V.int))) l = some (.lst ((sset rs).map V.int)) := upd_same
  generalize upd H0 l (.lst ((sset rs).map V.int)) = H1 at s0 el ⊢
  refine ⟨l, rfl, ⟨_, SqL.of el⟩, ?_⟩
  refine comp_list (xs := (sset rs).map V.int) (by rw [List.length_map]; exact small63 (by omega)) (fun D i ys H' => ys = ((((sset rs).take i).filter fun r => decide (0 < r)).map (tierOf rs)).map V.int ∧ H' D = some (.lst ys) ∧ Same H1 H') (fun D hD => ⟨rfl, upd_same, same_new hD _⟩)
    (fun D i ys H' ⟨e1, e2, _⟩ => ⟨e2, by rw [e1, List.length_map, List.length_map]; exact Nat.le_trans (List.length_filter_le _ _) (List.length_take_le _ _)⟩) (fun D i ys H' hD ⟨_, _, e3⟩ => SqL.of (e3 _ _ el)) ?_ ?_
  · rintro D i x ys H' K1 K2 hD hx ⟨e1, e2, e3⟩ k1 k2
    obtain ⟨z, hz, rfl⟩ := int_at hx
    have et : (sset rs).take (i + 1) = (sset rs).take i ++ [z] := by rw [List.take_succ, hz]; rfl
    refine ⟨_, rfl, _, _, rfl, rfl, _, rfl, ?_⟩
    refine ite2 (fun c => ?_) (fun c => ?_)
    · have c' : decide (0 < z) = true := c
      refine ⟨_, rfl, _, rfl, p, rs, z, rfl, SqL.of ((s0.trans e3) _ _ hS), h12, fun H5 s5 => ?_⟩
      refine k1 _ _ (s5 _ _ e2) ⟨?_, upd_same, same_upd (e3.trans s5) hD⟩
      rw [et, List.filter_append, List.map_append, List.map_append, e1]
      simp [c']
    · have c' : decide (0 < z) = false := Bool.eq_false_iff.mpr c
      refine k2 _ ⟨?_, e2, e3⟩
      rw [et, List.filter_append, e1]
      simp [c']
  · rintro D ys H' hD ⟨e1, e2, e3⟩
    rw [List.length_map, List.take_of_length_le (Nat.le_refl _)] at e1
    subst e1
    refine ⟨D, _, rfl, .inl ⟨SqL.of e2, fun t ht => ?_⟩⟩
    have s9 := (s0.trans e3)
    exact q t _ (by
      cases e : H t with
      | none => rfl
      | some u => rw [s9 _ _ e] at ht; cases ht) (s9.trans (same_new ht _)) upd_same
theorem ok_law_told (T : Tx K mg ad) : FnOk P w K mg base CX0 5 ad.f_law_told ad.d_law_told ["_law_slip_here", "_law_hands", "_law_due"] (spTold K) := by
  refine T.F_law_told.ok sc_law_told (fun vs H Q E h => ?_) (fun cdv A outer s H vs Q E hr h => ?_)
  · obtain ⟨t, d, rs, rfl, _⟩ := h
    rfl
  obtain ⟨t, d, rs, rfl, ht, hd, r0, r12, hR, q⟩ := h
  refine ⟨_, (@pss_cons _ _ _ _ _ (@ps_set _ _ (3) _ _ _ _ sc_law_told.nd rfl (Or.inl rfl) (@pe_call _ _ _ _ _ _ _ _ _ _ _ _ _ _ _ _ (ok_ranks_of T) (hr.mono (by decide)) rfl T.m_ranks_of T.F_ranks_of.kp T.b_ranks_of .nil pass0 (@pa_cons _ _ _ _ _ (pv 0) (@pa_cons _ _ _ _ _ (pv 1) pa_nil (by rfl)) (by rfl)) (by decide) (by rfl) (by rfl)) (by rfl) (by first | exact .inl rfl | exact .inr rfl | assumption)) (@pss_cons _ _ _ _ _ (@ps_if _ _ _ _ _ _ _ _ (PW.pt (@pw_or _ _ _ _ _ _ _ (@pt_not _ _ _ _ (@pt_val _ _ _ (@pe_callB _ _ _ _ _ _ _ _ _ call_isi (by rfl) T.z_isinstance PyProof.Rows.boot_isinstance (@pa_cons _ _ _ _ _ (pv 3) (@pa_cons _ _ _ _ _ (pe_bltn (v := .ty "list") rfl T.z_list PyProof.Rows.boot_list rfl) pa_nil (by rfl)) (by rfl)) (by decide) (by decide) (by rfl) (by rfl)) (by intro _; rfl))) (@pw_or1 _ _ _ _ (@pt_cmpR _ _ _ _ _ _ _ _ (op_neL hr.units) (pv 3) (pv 2) (nomark _))))) (@pss_one _ _ _ (@ps_ret _ _ _ _ pe_bl)) pss_nil) (@pss_cons _ _ _ _ _ (ps_for PassesOwn.never rfl (pi_list (pv 3)) (pg_name (i := 4) sc_law_told.nd rfl (Or.inl rfl)) (@pss_one _ _ _ (@ps_if _ _ _ _ _ _ _ _ (@pt_not _ _ _ _ (@pt_val _ _ _ (@pe_call _ _ _ _ _ _ _ _ _ _ _ _ _ _ _ _ (ok_law_whole T) (hr.mono (by decide)) rfl T.m_law_whole T.F_law_whole.kp T.b_law_whole .nil pass0 (@pa_cons _ _ _ _ _ (pv 4) pa_nil (by rfl)) (by decide) (by rfl) (by rfl)) (by intro _; rfl))) (@pss_one _ _ _ (@ps_ret _ _ _ _ pe_bl)) pss_nil))) (@pss_cons _ _ _ _ _ (@ps_if _ _ _ _ _ _ _ _ (@pt_not _ _ _ _ (@pt_val _ _ _ (@pe_call _ _ _ _ _ _ _ _ _ _ _ _ _ _ _ _ (ok_law_same_slip T) (hr.mono (by decide)) rfl T.m_law_same_slip T.F_law_same_slip.kp T.b_law_same_slip .nil pass0 (@pa_cons _ _ _ _ _ (@pe_call _ _ _ _ _ _ _ _ _ _ _ _ _ _ _ _ (ok_slip_of T) (hr.mono (by decide)) rfl T.m_slip_of T.F_slip_of.kp T.b_slip_of .nil pass0 (@pa_cons _ _ _ _ _ (pv 3) (@pa_cons _ _ _ _ _ (pv 1) pa_nil (by rfl)) (by rfl)) (by decide) (by rfl) (by rfl)) (@pa_cons _ _ _ _ _ (pv 0) pa_nil (by rfl)) (by rfl)) (by decide) (by rfl) (by rfl)) (by intro _; rfl))) (@pss_one _ _ _ (@ps_ret _ _ _ _ pe_bl)) pss_nil) (@pss_cons _ _ _ _ _ (ps_asg (@pe_op _ _ _ _ _ _ _ _ op_add (@pe_ix _ _ _ _ _ _ _ ix_list (pv 3) pe_int (fun _ _ => rfl)) pe_int) (pg_sub (pv 3) pe_int set_list)) (@pss_cons _ _ _ _ _ (@ps_expr _ _ _ _ (pe_bm PySem.F.plainAttrs_list PySem.F.slot_list_append PySem.F.type_list_append mt_append (pv 3) (@pa_cons _ _ _ _ _ pe_int pa_nil (by rfl))) (by rfl)) (@pss_cons _ _ _ _ _ (@ps_set _ _ (5) _ _ _ _ sc_law_told.nd rfl (Or.inl rfl) (@pe_call _ _ _ _ _ _ _ _ _ _ _ _ _ _ _ _ (ok_ranks_of T) (hr.mono (by decide)) rfl T.m_ranks_of T.F_ranks_of.kp T.b_ranks_of .nil pass0 (@pa_cons _ _ _ _ _ (pv 0) (@pa_cons _ _ _ _ _ (pv 1) pa_nil (by rfl)) (by rfl)) (by decide) (by rfl) (by rfl)) (by rfl) (by first | exact .inl rfl | exact .inr rfl | assumption)) (@pss_one _ _ _ (@ps_ret _ _ _ _ (@pe_and _ _ _ _ _ _ _ (@pe_callB _ _ _ _ _ _ _ _ _ call_isi (by rfl) T.z_isinstance PyProof.Rows.boot_isinstance (@pa_cons _ _ _ _ _ (pv 5) (@pa_cons _ _ _ _ _ (pe_bltn (v := .ty "list") rfl T.z_list PyProof.Rows.boot_list rfl) pa_nil (by rfl)) (by rfl)) (by decide) (by decide) (by rfl) (by rfl)) (@pe_one _ _ _ _ _ (@pe_cmpR _ _ _ _ _ _ _ _ (op_eqL hr.units) (pv 5) (pv 2) (nomark _))))))))))))), ?_⟩
  refine ⟨_, rfl, _, rfl, t, tiersOf rs, rs.length, rfl, ht, r12, tiers_in, fun l H1 hl s1 e1 => ?_⟩
  rw [ranks_closed hR] at e1
  refine ⟨_, rfl, _, _, _, _, rfl, TyOf.lst e1, kit_list_list, ?_⟩
  (repeat (first | refine ⟨_, rfl, ?_⟩ | refine ⟨_, _, rfl, rfl, ?_⟩ | refine ⟨rfl, ?_⟩ | refine ⟨(by show (_ : Int) ≠ 0; first | decide | decide +kernel), ?_⟩ | refine ⟨⟨(by show (_ : Int) ≠ 0; decide), szd 9000⟩, ?_⟩ | refine ⟨(by show CPow _ _; exact ⟨by decide, by decide, by decide⟩), ?_⟩ | refine ⟨(by show CMulB _ _; refine ⟨_, _, (by trivial), (by trivial), ?_⟩; decide +kernel), ?_⟩ | refine ⟨_, _, _, _, rfl, rfl, SqL.of (by assumption), (by rfl), ?_⟩ | refine ⟨_, _, _, _, rfl, rfl, SqT.of (by assumption), (by rfl), ?_⟩ | refine ⟨_, _, rfl, .inl (SqL.of (by assumption)), ?_⟩ | refine ⟨_, _, rfl, .inr (SqT.of (by assumption)), ?_⟩))
  refine ⟨l, d, _, _, rfl, rfl, SqL.of e1, SqL.of (s1 _ _ hd), ?_⟩
  (repeat (first | refine ⟨_, rfl, ?_⟩ | refine ⟨_, _, rfl, rfl, ?_⟩ | refine ⟨rfl, ?_⟩ | refine ⟨(by show (_ : Int) ≠ 0; first | decide | decide +kernel), ?_⟩ | refine ⟨⟨(by show (_ : Int) ≠ 0; decide), szd 9000⟩, ?_⟩ | refine ⟨(by show CPow _ _; exact ⟨by decide, by decide, by decide⟩), ?_⟩ | refine ⟨(by show CMulB _ _; refine ⟨_, _, (by trivial), (by trivial), ?_⟩; decide +kernel), ?_⟩ | refine ⟨_, _, _, _, rfl, rfl, SqL.of (by assumption), (by rfl), ?_⟩ | refine ⟨_, _, _, _, rfl, rfl, SqT.of (by assumption), (by rfl), ?_⟩ | refine ⟨_, _, rfl, .inl (SqL.of (by assumption)), ?_⟩ | refine ⟨_, _, rfl, .inr (SqT.of (by assumption)), ?_⟩))
  refine ifF (by rw [decide_eq_true rfl]; rfl) ?_
  refine ⟨_, rfl, l, rfl, ⟨_, SqL.of e1⟩, for_list (xs := (closedOf rs).map V.int) (fun i σ' H' => ∃ v, σ' = [some (.ref t), some (.int (rs.length : Nat)), some (.ref d), some (.ref l), v, none] ∧ H' = H1) ⟨none, rfl, rfl⟩ (fun i σ' H' _ ⟨_, _, e⟩ => by rw [e]; exact SqL.of e1) ?_ ?_⟩
  · rintro i x σ' H' hx ⟨v, rfl, rfl⟩
    obtain ⟨z, hz, rfl⟩ := int_at hx
    refine ⟨_, rfl, z, rfl, ?_⟩
    (repeat (first | refine ⟨_, rfl, ?_⟩ | refine ⟨_, _, rfl, rfl, ?_⟩ | refine ⟨rfl, ?_⟩ | refine ⟨(by show (_ : Int) ≠ 0; first | decide | decide +kernel), ?_⟩ | refine ⟨⟨(by show (_ : Int) ≠ 0; decide), szd 9000⟩, ?_⟩ | refine ⟨(by show CPow _ _; exact ⟨by decide, by decide, by decide⟩), ?_⟩ | refine ⟨(by show CMulB _ _; refine ⟨_, _, (by trivial), (by trivial), ?_⟩; decide +kernel), ?_⟩ | refine ⟨_, _, _, _, rfl, rfl, SqL.of (by assumption), (by rfl), ?_⟩ | refine ⟨_, _, _, _, rfl, rfl, SqT.of (by assumption), (by rfl), ?_⟩ | refine ⟨_, _, rfl, .inl (SqL.of (by assumption)), ?_⟩ | refine ⟨_, _, rfl, .inr (SqT.of (by assumption)), ?_⟩))
    rfl
  rintro σ' H' ⟨v, rfl, rfl⟩
  refine ⟨_, rfl, _, rfl, l, closedOf rs, (by rw [closed_len]; rfl), e1, by rw [closed_len]; exact r12, closed_in r12, fun t2 H2 ht2 s2 e2 => ?_⟩
  rw [tiers_closed hR] at e2
  refine ⟨_, rfl, t2, t, tiersOf rs, rfl, e2, (s1.trans s2) _ _ ht, ?_⟩
  (repeat (first | refine ⟨_, rfl, ?_⟩ | refine ⟨_, _, rfl, rfl, ?_⟩ | refine ⟨rfl, ?_⟩ | refine ⟨(by show (_ : Int) ≠ 0; first | decide | decide +kernel), ?_⟩ | refine ⟨⟨(by show (_ : Int) ≠ 0; decide), szd 9000⟩, ?_⟩ | refine ⟨(by show CPow _ _; exact ⟨by decide, by decide, by decide⟩), ?_⟩ | refine ⟨(by show CMulB _ _; refine ⟨_, _, (by trivial), (by trivial), ?_⟩; decide +kernel), ?_⟩ | refine ⟨_, _, _, _, rfl, rfl, SqL.of (by assumption), (by rfl), ?_⟩ | refine ⟨_, _, _, _, rfl, rfl, SqT.of (by assumption), (by rfl), ?_⟩ | refine ⟨_, _, rfl, .inl (SqL.of (by assumption)), ?_⟩ | refine ⟨_, _, rfl, .inr (SqT.of (by assumption)), ?_⟩))
  obtain ⟨c, cs, ec⟩ : ∃ c cs, closedOf rs = c :: cs := by
    cases e : closedOf rs with
    | nil => have := closed_len rs; rw [e] at this; exact absurd this (by show ¬ 0 = _; omega)
    | cons c cs => exact ⟨c, cs, rfl⟩
  have e3 := s2 _ _ e1
  rw [ec] at e3
  refine ⟨l, _, _, _, rfl, rfl, SqL.of e3, atN (i := 0) (show (c :: cs)[0]? = some c from rfl), ?_⟩
  (repeat (first | refine ⟨_, rfl, ?_⟩ | refine ⟨_, _, rfl, rfl, ?_⟩ | refine ⟨rfl, ?_⟩ | refine ⟨(by show (_ : Int) ≠ 0; first | decide | decide +kernel), ?_⟩ | refine ⟨⟨(by show (_ : Int) ≠ 0; decide), szd 9000⟩, ?_⟩ | refine ⟨(by show CPow _ _; exact ⟨by decide, by decide, by decide⟩), ?_⟩ | refine ⟨(by show CMulB _ _; refine ⟨_, _, (by trivial), (by trivial), ?_⟩; decide +kernel), ?_⟩ | refine ⟨_, _, _, _, rfl, rfl, SqL.of (by assumption), (by rfl), ?_⟩ | refine ⟨_, _, _, _, rfl, rfl, SqT.of (by assumption), (by rfl), ?_⟩ | refine ⟨_, _, rfl, .inl (SqL.of (by assumption)), ?_⟩ | refine ⟨_, _, rfl, .inr (SqT.of (by assumption)), ?_⟩))
  refine ⟨l, _, _, 0, rfl, rfl, e3, ixN_nat (i := 0) (by simp), ?_⟩
  have s3 := same_upd (o := .lst (((c :: cs).map V.int).set 0 (V.int (c + 1)))) (s1.trans s2) hl
  have e4 : (upd H2 l (.lst (((c :: cs).map V.int).set 0 (V.int (c + 1))))) l = some (.lst (((c :: cs).map V.int).set 0 (V.int (c + 1)))) := upd_same
  generalize upd H2 l (.lst (((c :: cs).map V.int).set 0 (V.int (c + 1)))) = H3 at s3 e4 ⊢
  have l12 : cs.length + 1 ≤ 12 := by
    have := closed_len rs
    rw [ec] at this
    have : cs.length + 1 = rs.length := this
    omega
  refine ⟨_, rfl, .inl ⟨rfl, _, SqL.of e4⟩, ?_⟩
  (repeat (first | refine ⟨_, rfl, ?_⟩ | refine ⟨_, _, rfl, rfl, ?_⟩ | refine ⟨rfl, ?_⟩ | refine ⟨(by show (_ : Int) ≠ 0; first | decide | decide +kernel), ?_⟩ | refine ⟨⟨(by show (_ : Int) ≠ 0; decide), szd 9000⟩, ?_⟩ | refine ⟨(by show CPow _ _; exact ⟨by decide, by decide, by decide⟩), ?_⟩ | refine ⟨(by show CMulB _ _; refine ⟨_, _, (by trivial), (by trivial), ?_⟩; decide +kernel), ?_⟩ | refine ⟨_, _, _, _, rfl, rfl, SqL.of (by assumption), (by rfl), ?_⟩ | refine ⟨_, _, _, _, rfl, rfl, SqT.of (by assumption), (by rfl), ?_⟩ | refine ⟨_, _, rfl, .inl (SqL.of (by assumption)), ?_⟩ | refine ⟨_, _, rfl, .inr (SqT.of (by assumption)), ?_⟩))
  refine ⟨l, _, _, rfl, rfl, e4, (by rw [List.length_set, List.length_map]; exact small1000 (by show cs.length + 1 ≤ 1000; omega)), ?_⟩
  have s4 := same_upd (o := .lst (((c :: cs).map V.int).set 0 (V.int (c + 1)) ++ [V.int 3])) s3 hl
  generalize upd H3 l (.lst (((c :: cs).map V.int).set 0 (V.int (c + 1)) ++ [V.int 3])) = H4 at s4 ⊢
  refine ⟨_, rfl, _, rfl, t, tiersOf rs, rs.length, rfl, s4 _ _ ht, r12, tiers_in, fun l3 H5 hl3 s5 e5 => ?_⟩
  rw [ranks_closed hR] at e5
  have s6 := s4.trans s5
  refine ⟨_, rfl, _, _, _, _, rfl, TyOf.lst e5, kit_list_list, ?_⟩
  (repeat (first | refine ⟨_, rfl, ?_⟩ | refine ⟨_, _, rfl, rfl, ?_⟩ | refine ⟨rfl, ?_⟩ | refine ⟨(by show (_ : Int) ≠ 0; first | decide | decide +kernel), ?_⟩ | refine ⟨⟨(by show (_ : Int) ≠ 0; decide), szd 9000⟩, ?_⟩ | refine ⟨(by show CPow _ _; exact ⟨by decide, by decide, by decide⟩), ?_⟩ | refine ⟨(by show CMulB _ _; refine ⟨_, _, (by trivial), (by trivial), ?_⟩; decide +kernel), ?_⟩ | refine ⟨_, _, _, _, rfl, rfl, SqL.of (by assumption), (by rfl), ?_⟩ | refine ⟨_, _, _, _, rfl, rfl, SqT.of (by assumption), (by rfl), ?_⟩ | refine ⟨_, _, rfl, .inl (SqL.of (by assumption)), ?_⟩ | refine ⟨_, _, rfl, .inr (SqT.of (by assumption)), ?_⟩))
  refine ⟨l3, d, _, _, rfl, rfl, SqL.of e5, SqL.of (s6 _ _ hd), ?_⟩
  rw [decide_eq_true rfl]
  exact q _ s6
theorem ok_law (T : Tx K mg ad) : FnOk P w K mg base CX0 6 ad.f_law ad.d_law ["_law_script"] (spLaw K) := by
  refine T.F_law.ok sc_law (fun vs H Q E h => ?_) (fun cdv A outer s H vs Q E hr h => ?_)
  · obtain ⟨p, ns, rfl, _⟩ := h
    rfl
  obtain ⟨p, ns, rfl, hS, h63, q⟩ := h
  refine ⟨_, (@pss_cons _ _ _ _ _ (@ps_set _ _ (1) _ _ _ _ sc_law.nd rfl (Or.inl rfl) (@pe_op _ _ _ _ _ _ _ _ op_add pe_int (@pe_op _ _ _ _ _ _ _ _ op_modN (@pe_call _ _ _ _ _ _ _ _ _ _ _ _ _ _ _ _ (ok_law_cell T) (hr.mono (by decide)) rfl T.m_law_cell T.F_law_cell.kp T.b_law_cell .nil pass0 (@pa_cons _ _ _ _ _ (pv 0) (@pa_cons _ _ _ _ _ pe_int pa_nil (by rfl)) (by rfl)) (by decide) (by rfl) (by rfl)) pe_int)) (by rfl) (by first | exact .inl rfl | exact .inr rfl | assumption)) (@pss_cons _ _ _ _ _ (@ps_set _ _ (2) _ _ _ _ sc_law.nd rfl (Or.inl rfl) (@pe_call _ _ _ _ _ _ _ _ _ _ _ _ _ _ _ _ (ok_law_ranks T) (hr.mono (by decide)) rfl T.m_law_ranks T.F_law_ranks.kp T.b_law_ranks .nil pass0 (@pa_cons _ _ _ _ _ (pv 0) (@pa_cons _ _ _ _ _ pe_int (@pa_cons _ _ _ _ _ (pv 1) pa_nil (by rfl)) (by rfl)) (by rfl)) (by decide) (by rfl) (by rfl)) (by rfl) (by first | exact .inl rfl | exact .inr rfl | assumption)) (@pss_cons _ _ _ _ _ (@ps_if _ _ _ _ _ _ _ _ (@pt_not _ _ _ _ (@pt_val _ _ _ (@pe_call _ _ _ _ _ _ _ _ _ _ _ _ _ _ _ _ (ok_law_told T) (hr.mono (by decide)) rfl T.m_law_told T.F_law_told.kp T.b_law_told .nil pass0 (@pa_cons _ _ _ _ _ (@pe_call _ _ _ _ _ _ _ _ _ _ _ _ _ _ _ _ (ok_law_slip T) (hr.mono (by decide)) rfl T.m_law_slip T.F_law_slip.kp T.b_law_slip .nil pass0 (@pa_cons _ _ _ _ _ (pv 2) pa_nil (by rfl)) (by decide) (by rfl) (by rfl)) (@pa_cons _ _ _ _ _ (pv 1) (@pa_cons _ _ _ _ _ (@pe_call _ _ _ _ _ _ _ _ _ _ _ _ _ _ _ _ (ok_law_closed T) (hr.mono (by decide)) rfl T.m_law_closed T.F_law_closed.kp T.b_law_closed .nil pass0 (@pa_cons _ _ _ _ _ (pv 2) pa_nil (by rfl)) (by decide) (by rfl) (by rfl)) pa_nil (by rfl)) (by rfl)) (by rfl)) (by decide) (by rfl) (by rfl)) (by intro _; rfl))) (@pss_one _ _ _ (@ps_ret _ _ _ _ pe_bl)) pss_nil) (@pss_cons _ _ _ _ _ (@ps_set _ _ (3) _ _ _ _ sc_law.nd rfl (Or.inl rfl) (@pe_op _ _ _ _ _ _ _ _ op_add pe_int (@pe_op _ _ _ _ _ _ _ _ op_modN (@pe_call _ _ _ _ _ _ _ _ _ _ _ _ _ _ _ _ (ok_law_cell T) (hr.mono (by decide)) rfl T.m_law_cell T.F_law_cell.kp T.b_law_cell .nil pass0 (@pa_cons _ _ _ _ _ (pv 0) (@pa_cons _ _ _ _ _ pe_int pa_nil (by rfl)) (by rfl)) (by decide) (by rfl) (by rfl)) pe_int)) (by rfl) (by first | exact .inl rfl | exact .inr rfl | assumption)) (@pss_cons _ _ _ _ _ (@ps_set _ _ (4) _ _ _ _ sc_law.nd rfl (Or.inl rfl) (@pe_call _ _ _ _ _ _ _ _ _ _ _ _ _ _ _ _ (ok_law_ranks T) (hr.mono (by decide)) rfl T.m_law_ranks T.F_law_ranks.kp T.b_law_ranks .nil pass0 (@pa_cons _ _ _ _ _ (pv 0) (@pa_cons _ _ _ _ _ pe_int (@pa_cons _ _ _ _ _ (pv 3) pa_nil (by rfl)) (by rfl)) (by rfl)) (by decide) (by rfl) (by rfl)) (by rfl) (by first | exact .inl rfl | exact .inr rfl | assumption)) (@pss_cons _ _ _ _ _ (@ps_if _ _ _ _ _ _ _ _ (@pt_not _ _ _ _ (@pt_val _ _ _ (@pe_call _ _ _ _ _ _ _ _ _ _ _ _ _ _ _ _ (ok_law_told T) (hr.mono (by decide)) rfl T.m_law_told T.F_law_told.kp T.b_law_told .nil pass0 (@pa_cons _ _ _ _ _ (@pe_call _ _ _ _ _ _ _ _ _ _ _ _ _ _ _ _ (ok_law_slip T) (hr.mono (by decide)) rfl T.m_law_slip T.F_law_slip.kp T.b_law_slip .nil pass0 (@pa_cons _ _ _ _ _ (pv 4) pa_nil (by rfl)) (by decide) (by rfl) (by rfl)) (@pa_cons _ _ _ _ _ (pv 3) (@pa_cons _ _ _ _ _ (@pe_call _ _ _ _ _ _ _ _ _ _ _ _ _ _ _ _ (ok_law_closed T) (hr.mono (by decide)) rfl T.m_law_closed T.F_law_closed.kp T.b_law_closed .nil pass0 (@pa_cons _ _ _ _ _ (pv 4) pa_nil (by rfl)) (by decide) (by rfl) (by rfl)) pa_nil (by rfl)) (by rfl)) (by rfl)) (by decide) (by rfl) (by rfl)) (by intro _; rfl))) (@pss_one _ _ _ (@ps_ret _ _ _ _ pe_bl)) pss_nil) (@pss_cons _ _ _ _ _ (ps_for PassesOwn.never rfl (pi_range2 rfl T.z_range (@pa_cons _ _ _ _ _ pe_int (@pa_cons _ _ _ _ _ pe_int pa_nil (by rfl)) (by rfl))) (pg_name (i := 5) sc_law.nd rfl (Or.inl rfl)) (@pss_cons _ _ _ _ _ (@ps_set _ _ (6) _ _ _ _ sc_law.nd rfl (Or.inl rfl) (@pe_call _ _ _ _ _ _ _ _ _ _ _ _ _ _ _ _ (ok_law_others T) (hr.mono (by decide)) rfl T.m_law_others T.F_law_others.kp T.b_law_others .nil pass0 (@pa_cons _ _ _ _ _ (pv 2) (@pa_cons _ _ _ _ _ (@pe_call _ _ _ _ _ _ _ _ _ _ _ _ _ _ _ _ (ok_law_cell T) (hr.mono (by decide)) rfl T.m_law_cell T.F_law_cell.kp T.b_law_cell .nil pass0 (@pa_cons _ _ _ _ _ (pv 0) (@pa_cons _ _ _ _ _ (pv 5) pa_nil (by rfl)) (by rfl)) (by decide) (by rfl) (by rfl)) pa_nil (by rfl)) (by rfl)) (by decide) (by rfl) (by rfl)) (by rfl) (by first | exact .inl rfl | exact .inr rfl | assumption)) (@pss_cons _ _ _ _ _ (@ps_set _ _ (7) _ _ _ _ sc_law.nd rfl (Or.inl rfl) (@pe_cmpR _ _ _ _ _ _ _ _ (op_eqT (Nat.lt_of_le_of_lt (Nat.le_add_right _ 64) hr.units)) (@pe_call _ _ _ _ _ _ _ _ _ _ _ _ _ _ _ _ (ok_slip_of T) (hr.mono (by decide)) rfl T.m_slip_of T.F_slip_of.kp T.b_slip_of .nil pass0 (@pa_cons _ _ _ _ _ (@pe_callTy _ _ _ _ _ _ _ _ _ call_list_of (by rfl) T.z_list PyProof.Rows.boot_list (@pa_cons _ _ _ _ _ (pv 6) pa_nil (by rfl)) (by decide) (by decide) (by rfl) (by rfl)) (@pa_cons _ _ _ _ _ (pv 1) pa_nil (by rfl)) (by rfl)) (by decide) (by rfl) (by rfl)) (@pe_call _ _ _ _ _ _ _ _ _ _ _ _ _ _ _ _ (ok_slip_of T) (hr.mono (by decide)) rfl T.m_slip_of T.F_slip_of.kp T.b_slip_of .nil pass0 (@pa_cons _ _ _ _ _ (@pe_callTy _ _ _ _ _ _ _ _ _ call_list_of (by rfl) T.z_list PyProof.Rows.boot_list (@pa_cons _ _ _ _ _ (pv 2) pa_nil (by rfl)) (by decide) (by decide) (by rfl) (by rfl)) (@pa_cons _ _ _ _ _ (pv 1) pa_nil (by rfl)) (by rfl)) (by decide) (by rfl) (by rfl)) (nomark _)) (by rfl) (by first | exact .inl rfl | exact .inr rfl | assumption)) (@pss_one _ _ _ (@ps_if _ _ _ _ _ _ _ _ (@pt_cmpR _ _ _ _ _ _ _ _ op_ne (pv 7) (@pe_cmpR _ _ _ _ _ _ _ _ (op_eqL hr.units) (@pe_call _ _ _ _ _ _ _ _ _ _ _ _ _ _ _ _ (ok_law_closed T) (hr.mono (by decide)) rfl T.m_law_closed T.F_law_closed.kp T.b_law_closed .nil pass0 (@pa_cons _ _ _ _ _ (pv 6) pa_nil (by rfl)) (by decide) (by rfl) (by rfl)) (@pe_call _ _ _ _ _ _ _ _ _ _ _ _ _ _ _ _ (ok_law_closed T) (hr.mono (by decide)) rfl T.m_law_closed T.F_law_closed.kp T.b_law_closed .nil pass0 (@pa_cons _ _ _ _ _ (pv 2) pa_nil (by rfl)) (by decide) (by rfl) (by rfl)) (nomark _)) (nomark _)) (@pss_one _ _ _ (@ps_ret _ _ _ _ pe_bl)) pss_nil))))) (@pss_one _ _ _ (@ps_ret _ _ _ _ (@pe_call _ _ _ _ _ _ _ _ _ _ _ _ _ _ _ _ (ok_law_told T) (hr.mono (by decide)) rfl T.m_law_told T.F_law_told.kp T.b_law_told .nil pass0 (@pa_cons _ _ _ _ _ (@pe_call _ _ _ _ _ _ _ _ _ _ _ _ _ _ _ _ (ok_law_slip T) (hr.mono (by decide)) rfl T.m_law_slip T.F_law_slip.kp T.b_law_slip .nil pass0 (@pa_cons _ _ _ _ _ (pv 2) pa_nil (by rfl)) (by decide) (by rfl) (by rfl)) (@pa_cons _ _ _ _ _ (pv 1) (@pa_cons _ _ _ _ _ (@pe_call _ _ _ _ _ _ _ _ _ _ _ _ _ _ _ _ (ok_law_closed T) (hr.mono (by decide)) rfl T.m_law_closed T.F_law_closed.kp T.b_law_closed .nil pass0 (@pa_cons _ _ _ _ _ (pv 2) pa_nil (by rfl)) (by decide) (by rfl) (by rfl)) pa_nil (by rfl)) (by rfl)) (by rfl)) (by decide) (by rfl) (by rfl))))))))))), ?_⟩
  refine ⟨_, rfl, p, ns, 0, rfl, hS, h63, by decide, by decide, fun c c0 c1 => ?_⟩
  (repeat (first | refine ⟨_, rfl, ?_⟩ | refine ⟨_, _, rfl, rfl, ?_⟩ | refine ⟨rfl, ?_⟩ | refine ⟨(by show (_ : Int) ≠ 0; first | decide | decide +kernel), ?_⟩ | refine ⟨⟨(by show (_ : Int) ≠ 0; decide), szd 9000⟩, ?_⟩ | refine ⟨(by show CPow _ _; exact ⟨by decide, by decide, by decide⟩), ?_⟩ | refine ⟨(by show CMulB _ _; refine ⟨_, _, (by trivial), (by trivial), ?_⟩; decide +kernel), ?_⟩ | refine ⟨_, _, _, _, rfl, rfl, SqL.of (by assumption), (by rfl), ?_⟩ | refine ⟨_, _, _, _, rfl, rfl, SqT.of (by assumption), (by rfl), ?_⟩ | refine ⟨_, _, rfl, .inl (SqL.of (by assumption)), ?_⟩ | refine ⟨_, _, rfl, .inr (SqT.of (by assumption)), ?_⟩))
  have hm := fmod_in c (show (0 : Int) < 12 by decide)
  dsimp only
  refine ⟨p, ns, 1, _, rfl, hS, h63, by decide, by decide, by omega, by omega, fun l rs H1 hl s1 e1 en hR => ?_⟩
  rw [← en]
  have r0 : 0 < rs.length := by omega
  have r12 : rs.length ≤ 12 := by omega
  have hR0 : ∀ r ∈ rs, 0 ≤ r := fun r m => (hR r m).1
  refine ⟨_, rfl, l, rs, rfl, SqL.of e1, r12, fun t H2 ht s2 e2 => ?_⟩
  refine ⟨_, rfl, _, rfl, l, rs, rfl, s2 _ _ e1, r0, r12, fun d H3 hd s3 e3 => ?_⟩
  refine ⟨t, d, rs, rfl, s3 _ _ e2, e3, r0, r12, hR0, fun H4 s4 => ?_⟩
  have sA := ((s1.trans s2).trans s3).trans s4
  have e4 := ((s2.trans s3).trans s4) _ _ e1
  (repeat (first | refine ⟨_, rfl, ?_⟩ | refine ⟨_, _, rfl, rfl, ?_⟩ | refine ⟨rfl, ?_⟩ | refine ⟨(by show (_ : Int) ≠ 0; first | decide | decide +kernel), ?_⟩ | refine ⟨⟨(by show (_ : Int) ≠ 0; decide), szd 9000⟩, ?_⟩ | refine ⟨(by show CPow _ _; exact ⟨by decide, by decide, by decide⟩), ?_⟩ | refine ⟨(by show CMulB _ _; refine ⟨_, _, (by trivial), (by trivial), ?_⟩; decide +kernel), ?_⟩ | refine ⟨_, _, _, _, rfl, rfl, SqL.of (by assumption), (by rfl), ?_⟩ | refine ⟨_, _, _, _, rfl, rfl, SqT.of (by assumption), (by rfl), ?_⟩ | refine ⟨_, _, rfl, .inl (SqL.of (by assumption)), ?_⟩ | refine ⟨_, _, rfl, .inr (SqT.of (by assumption)), ?_⟩))
  refine ⟨p, ns, 15, rfl, sA.seq hS, h63, by decide, by decide, fun c' c0' c1' => ?_⟩
  (repeat (first | refine ⟨_, rfl, ?_⟩ | refine ⟨_, _, rfl, rfl, ?_⟩ | refine ⟨rfl, ?_⟩ | refine ⟨(by show (_ : Int) ≠ 0; first | decide | decide +kernel), ?_⟩ | refine ⟨⟨(by show (_ : Int) ≠ 0; decide), szd 9000⟩, ?_⟩ | refine ⟨(by show CPow _ _; exact ⟨by decide, by decide, by decide⟩), ?_⟩ | refine ⟨(by show CMulB _ _; refine ⟨_, _, (by trivial), (by trivial), ?_⟩; decide +kernel), ?_⟩ | refine ⟨_, _, _, _, rfl, rfl, SqL.of (by assumption), (by rfl), ?_⟩ | refine ⟨_, _, _, _, rfl, rfl, SqT.of (by assumption), (by rfl), ?_⟩ | refine ⟨_, _, rfl, .inl (SqL.of (by assumption)), ?_⟩ | refine ⟨_, _, rfl, .inr (SqT.of (by assumption)), ?_⟩))
  have hm' := fmod_in c' (show (0 : Int) < 12 by decide)
  dsimp only
  refine ⟨p, ns, 16, _, rfl, sA.seq hS, h63, by decide, by decide, by omega, by omega, fun l2 ss H5 hl2 s5 e5 en2 hR2 => ?_⟩
  rw [← en2]
  have q0 : 0 < ss.length := by omega
  have q12 : ss.length ≤ 12 := by omega
  refine ⟨_, rfl, l2, ss, rfl, SqL.of e5, q12, fun t2 H6 ht2 s6 e6 => ?_⟩
  refine ⟨_, rfl, _, rfl, l2, ss, rfl, s6 _ _ e5, q0, q12, fun d2 H7 hd2 s7 e7 => ?_⟩
  refine ⟨t2, d2, ss, rfl, s7 _ _ e6, e7, q0, q12, fun r m => (hR2 r m).1, fun H8 s8 => ?_⟩
  have sB := ((s5.trans s6).trans s7).trans s8
  have e8 := sB _ _ e4
  have sC := sA.trans sB
  (repeat (first | refine ⟨_, rfl, ?_⟩ | refine ⟨_, _, rfl, rfl, ?_⟩ | refine ⟨rfl, ?_⟩ | refine ⟨(by show (_ : Int) ≠ 0; first | decide | decide +kernel), ?_⟩ | refine ⟨⟨(by show (_ : Int) ≠ 0; decide), szd 9000⟩, ?_⟩ | refine ⟨(by show CPow _ _; exact ⟨by decide, by decide, by decide⟩), ?_⟩ | refine ⟨(by show CMulB _ _; refine ⟨_, _, (by trivial), (by trivial), ?_⟩; decide +kernel), ?_⟩ | refine ⟨_, _, _, _, rfl, rfl, SqL.of (by assumption), (by rfl), ?_⟩ | refine ⟨_, _, _, _, rfl, rfl, SqT.of (by assumption), (by rfl), ?_⟩ | refine ⟨_, _, rfl, .inl (SqL.of (by assumption)), ?_⟩ | refine ⟨_, _, rfl, .inr (SqT.of (by assumption)), ?_⟩))
  refine ⟨30, 34, rfl, ⟨by decide, by decide, by decide, by decide⟩, for_range (fun i σ' H' => ∃ v5 v6 v7, σ' = [some (.ref p), some (.int (rs.length : Nat)), some (.ref l), some (.int (ss.length : Nat)), some (.ref l2), v5, v6, v7] ∧ Same H8 H') ⟨none, none, none, rfl, fun _ _ e => e⟩ ?_ ?_⟩
  · rintro i σ' H' hi ⟨v5, v6, v7, rfl, sD⟩
    have i4 : i < 4 := hi
    refine ⟨_, rfl, _, rfl, _, rfl, p, ns, 30 + (i : Int), rfl, (sC.trans sD).seq hS, h63, by omega, by omega, fun k k0 k1 => ?_⟩
    refine ⟨l, rs, k, rfl, sD _ _ e8, r0, r12, hR, k0, k1, fun l3 us H9 hl3 s9 e9 ln hU => ?_⟩
    have hU0 : ∀ r ∈ us, 0 ≤ r := fun r m => (hU r m).1
    refine ⟨_, rfl, l3, _, rfl, .inl (SqL.of e9), fun l4 hl4 => ?_⟩
    have sE := same_new hl4 (.lst (us.map V.int))
    have eE : (upd H9 l4 (.lst (us.map V.int))) l4 = some (.lst (us.map V.int)) := upd_same
    generalize upd H9 l4 (.lst (us.map V.int)) = H10 at sE eE ⊢
    refine ⟨_, rfl, l4, us, (by rw [ln]; rfl), eE, by omega, hU, fun t3 H11 ht3 sF eF => ?_⟩
    have sG := (s9.trans sE).trans sF
    refine ⟨_, rfl, l, _, rfl, .inl (SqL.of (sG _ _ (sD _ _ e8))), fun l5 hl5 => ?_⟩
    have sH := same_new hl5 (.lst (rs.map V.int))
    have eH : (upd H11 l5 (.lst (rs.map V.int))) l5 = some (.lst (rs.map V.int)) := upd_same
    generalize upd H11 l5 (.lst (rs.map V.int)) = H12 at sH eH ⊢
    refine ⟨_, rfl, l5, rs, rfl, eH, r12, hR, fun t4 H13 ht4 sI eI => ?_⟩
    refine ⟨t3, t4, _, _, rfl, rfl, SqT.of ((sH.trans sI) _ _ eF), SqT.of eI, ?_⟩
    have sJ := (sG.trans sH).trans sI
    have e9' := (((sE.trans sF).trans sH).trans sI) _ _ e9
    refine ⟨_, rfl, _, rfl, l3, us, rfl, e9', by omega, by omega, fun d3 H14 hd3 sK eK => ?_⟩
    refine ⟨_, rfl, l, rs, rfl, (sJ.trans sK) _ _ (sD _ _ e8), r0, r12, fun d4 H15 hd4 sL eL => ?_⟩
    refine ⟨d3, d4, _, _, rfl, rfl, SqL.of (sL _ _ eK), SqL.of eL, ?_⟩
    rw [alike_iff hR0 hU0 ln]
    refine ⟨rfl, _, rfl, ?_⟩
    refine ifF (by rw [decide_eq_true rfl]; rfl) ?_
    exact ⟨_, _, _, rfl, sD.trans ((sJ.trans sK).trans sL)⟩
  · rintro σ' H' ⟨v5, v6, v7, rfl, sD⟩
    refine ⟨_, rfl, l, rs, rfl, SqL.of (sD _ _ e8), r12, fun t5 H9 ht5 s9 e9 => ?_⟩
    refine ⟨_, rfl, _, rfl, l, rs, rfl, s9 _ _ (sD _ _ e8), r0, r12, fun d5 H10 hd5 s10 e10 => ?_⟩
    refine ⟨t5, d5, rs, rfl, s10 _ _ e9, e10, r0, r12, hR0, fun H11 s11 => ?_⟩
    exact q _
end
theorem all_mk {l : PySem.W.OpenLaw} {w : World} {K : PySem.W.Frag} {h : Heap} {mg : Str → Option Value} {fa f1 f2 f3 f4 f5 f6 f7 f8 f9 f10 f11 f12 f13 f14 f15 f16 f17 f18 f19 : Addr} (X : K.In h) (G : h.Ns mainGlobals mg) (hfa : mg "law" = some (.ref fa))
    {od1 an1 od2 an2 od3 an3 od4 an4 od5 an5 od6 an6 od7 an7 od8 an8 od9 an9 od10 an10 od11 an11 od12 an12 od13 an13 od14 an14 od15 an15 od16 an16 od17 an17 od18 an18 od19 an19 : Option Addr} {sl1 sl2 sl3 sl4 sl5 sl6 sl7 sl8 sl9 sl10 sl11 sl12 sl13 sl14 sl15 sl16 sl17 sl18 sl19 : Array (Option Value)} {oc1 kV1 dc1 pm1 cd1 ct1 oc2 kV2 dc2 pm2 cd2 ct2 oc3 kV3 dc3 pm3 cd3 ct3 oc4 kV4 dc4 pm4 cd4 ct4 oc5 kV5 dc5 pm5 cd5 ct5 oc6 kV6 dc6 pm6 cd6 ct6 oc7 kV7 dc7 pm7 cd7 ct7 oc8 kV8 dc8 pm8 cd8 ct8 oc9 kV9 dc9 pm9 cd9 ct9 oc10 kV10 dc10 pm10 cd10 ct10 oc11 kV11 dc11 pm11 cd11 ct11 oc12 kV12 dc12 pm12 cd12 ct12 oc13 kV13 dc13 pm13 cd13 ct13 oc14 kV14 dc14 pm14 cd14 ct14 oc15 kV15 dc15 pm15 cd15 ct15 oc16 kV16 dc16 pm16 cd16 ct16 oc17 kV17 dc17 pm17 cd17 ct17 oc18 kV18 dc18 pm18 cd18 ct18 oc19 kV19 dc19 pm19 cd19 ct19 : Value} {t_MOST_RANK : Tok}
    (a1 : PySem.W.nsIn K mainGlobals "with_one" = some (some (.ref f1)))
    (l1 : K.lookup f1 = some ⟨oc1, od1, .func (PySem.W.fnOf "with_one" "with_one" (defArgs s_with_one) (defBody s_with_one) (defScope s_with_one) .none kV1 dc1 pm1 an1 cd1 ct1), sl1⟩) (c1 : PySem.W.codeIn K cd1 "with_one" = true) (k1 : PySem.W.keepIn K (.ref f1) = true)
    (a2 : PySem.W.nsIn K mainGlobals "members" = some (some (.ref f2)))
    (l2 : K.lookup f2 = some ⟨oc2, od2, .func (PySem.W.fnOf "members" "members" (defArgs s_members) (defBody s_members) (defScope s_members) .none kV2 dc2 pm2 an2 cd2 ct2), sl2⟩) (c2 : PySem.W.codeIn K cd2 "members" = true) (k2 : PySem.W.keepIn K (.ref f2) = true)
    (a3 : PySem.W.nsIn K mainGlobals "is_whole" = some (some (.ref f3)))
    (l3 : K.lookup f3 = some ⟨oc3, od3, .func (PySem.W.fnOf "is_whole" "is_whole" (defArgs s_is_whole) (defBody s_is_whole) (defScope s_is_whole) .none kV3 dc3 pm3 an3 cd3 ct3), sl3⟩) (c3 : PySem.W.codeIn K cd3 "is_whole" = true) (k3 : PySem.W.keepIn K (.ref f3) = true)
    (a4 : PySem.W.nsIn K mainGlobals "_law_whole" = some (some (.ref f4)))
    (l4 : K.lookup f4 = some ⟨oc4, od4, .func (PySem.W.fnOf "_law_whole" "_law_whole" (defArgs s_law_whole) (defBody s_law_whole) (defScope s_law_whole) .none kV4 dc4 pm4 an4 cd4 ct4), sl4⟩) (c4 : PySem.W.codeIn K cd4 "_law_whole" = true) (k4 : PySem.W.keepIn K (.ref f4) = true)
    (a5 : PySem.W.nsIn K mainGlobals "_law_cell" = some (some (.ref f5)))
    (l5 : K.lookup f5 = some ⟨oc5, od5, .func (PySem.W.fnOf "_law_cell" "_law_cell" (defArgs s_law_cell) (defBody s_law_cell) (defScope s_law_cell) .none kV5 dc5 pm5 an5 cd5 ct5), sl5⟩) (c5 : PySem.W.codeIn K cd5 "_law_cell" = true) (k5 : PySem.W.keepIn K (.ref f5) = true)
    (a6 : PySem.W.nsIn K mainGlobals "_law_mixed" = some (some (.ref f6)))
    (l6 : K.lookup f6 = some ⟨oc6, od6, .func (PySem.W.fnOf "_law_mixed" "_law_mixed" (defArgs s_law_mixed) (defBody s_law_mixed) (defScope s_law_mixed) .none kV6 dc6 pm6 an6 cd6 ct6), sl6⟩) (c6 : PySem.W.codeIn K cd6 "_law_mixed" = true) (k6 : PySem.W.keepIn K (.ref f6) = true)
    (a7 : PySem.W.nsIn K mainGlobals "_law_tier" = some (some (.ref f7)))
    (l7 : K.lookup f7 = some ⟨oc7, od7, .func (PySem.W.fnOf "_law_tier" "_law_tier" (defArgs s_law_tier) (defBody s_law_tier) (defScope s_law_tier) .none kV7 dc7 pm7 an7 cd7 ct7), sl7⟩) (c7 : PySem.W.codeIn K cd7 "_law_tier" = true) (k7 : PySem.W.keepIn K (.ref f7) = true)
    (a8 : PySem.W.nsIn K mainGlobals "_law_closed" = some (some (.ref f8)))
    (l8 : K.lookup f8 = some ⟨oc8, od8, .func (PySem.W.fnOf "_law_closed" "_law_closed" (defArgs s_law_closed) (defBody s_law_closed) (defScope s_law_closed) .none kV8 dc8 pm8 an8 cd8 ct8), sl8⟩) (c8 : PySem.W.codeIn K cd8 "_law_closed" = true) (k8 : PySem.W.keepIn K (.ref f8) = true)
    (a9 : PySem.W.nsIn K mainGlobals "_law_others" = some (some (.ref f9)))
    (l9 : K.lookup f9 = some ⟨oc9, od9, .func (PySem.W.fnOf "_law_others" "_law_others" (defArgs s_law_others) (defBody s_law_others) (defScope s_law_others) .none kV9 dc9 pm9 an9 cd9 ct9), sl9⟩) (c9 : PySem.W.codeIn K cd9 "_law_others" = true) (k9 : PySem.W.keepIn K (.ref f9) = true)
    (a10 : PySem.W.nsIn K mainGlobals "is_rank" = some (some (.ref f10)))
    (l10 : K.lookup f10 = some ⟨oc10, od10, .func (PySem.W.fnOf "is_rank" "is_rank" (defArgs s_is_rank) (defBody s_is_rank) (defScope s_is_rank) .none kV10 dc10 pm10 an10 cd10 ct10), sl10⟩) (c10 : PySem.W.codeIn K cd10 "is_rank" = true) (k10 : PySem.W.keepIn K (.ref f10) = true)
    (a11 : PySem.W.nsIn K mainGlobals "tier_at" = some (some (.ref f11)))
    (l11 : K.lookup f11 = some ⟨oc11, od11, .func (PySem.W.fnOf "tier_at" "tier_at" (defArgs s_tier_at) (defBody s_tier_at) (defScope s_tier_at) .none kV11 dc11 pm11 an11 cd11 ct11), sl11⟩) (c11 : PySem.W.codeIn K cd11 "tier_at" = true) (k11 : PySem.W.keepIn K (.ref f11) = true)
    (a12 : PySem.W.nsIn K mainGlobals "ranks_of" = some (some (.ref f12)))
    (l12 : K.lookup f12 = some ⟨oc12, od12, .func (PySem.W.fnOf "ranks_of" "ranks_of" (defArgs s_ranks_of) (defBody s_ranks_of) (defScope s_ranks_of) .none kV12 dc12 pm12 an12 cd12 ct12), sl12⟩) (c12 : PySem.W.codeIn K cd12 "ranks_of" = true) (k12 : PySem.W.keepIn K (.ref f12) = true)
    (a13 : PySem.W.nsIn K mainGlobals "_law_ranks" = some (some (.ref f13)))
    (l13 : K.lookup f13 = some ⟨oc13, od13, .func (PySem.W.fnOf "_law_ranks" "_law_ranks" (defArgs s_law_ranks) (defBody s_law_ranks) (defScope s_law_ranks) .none kV13 dc13 pm13 an13 cd13 ct13), sl13⟩) (c13 : PySem.W.codeIn K cd13 "_law_ranks" = true) (k13 : PySem.W.keepIn K (.ref f13) = true)
    (a14 : PySem.W.nsIn K mainGlobals "_law_slip" = some (some (.ref f14)))
    (l14 : K.lookup f14 = some ⟨oc14, od14, .func (PySem.W.fnOf "_law_slip" "_law_slip" (defArgs s_law_slip) (defBody s_law_slip) (defScope s_law_slip) .none kV14 dc14 pm14 an14 cd14 ct14), sl14⟩) (c14 : PySem.W.codeIn K cd14 "_law_slip" = true) (k14 : PySem.W.keepIn K (.ref f14) = true)
    (a15 : PySem.W.nsIn K mainGlobals "_law_same_slip" = some (some (.ref f15)))
    (l15 : K.lookup f15 = some ⟨oc15, od15, .func (PySem.W.fnOf "_law_same_slip" "_law_same_slip" (defArgs s_law_same_slip) (defBody s_law_same_slip) (defScope s_law_same_slip) .none kV15 dc15 pm15 an15 cd15 ct15), sl15⟩) (c15 : PySem.W.codeIn K cd15 "_law_same_slip" = true) (k15 : PySem.W.keepIn K (.ref f15) = true)
    (a16 : PySem.W.nsIn K mainGlobals "are_ranks" = some (some (.ref f16)))
    (l16 : K.lookup f16 = some ⟨oc16, od16, .func (PySem.W.fnOf "are_ranks" "are_ranks" (defArgs s_are_ranks) (defBody s_are_ranks) (defScope s_are_ranks) .none kV16 dc16 pm16 an16 cd16 ct16), sl16⟩) (c16 : PySem.W.codeIn K cd16 "are_ranks" = true) (k16 : PySem.W.keepIn K (.ref f16) = true)
    (a17 : PySem.W.nsIn K mainGlobals "slip_of" = some (some (.ref f17)))
    (l17 : K.lookup f17 = some ⟨oc17, od17, .func (PySem.W.fnOf "slip_of" "slip_of" (defArgs s_slip_of) (defBody s_slip_of) (defScope s_slip_of) .none kV17 dc17 pm17 an17 cd17 ct17), sl17⟩) (c17 : PySem.W.codeIn K cd17 "slip_of" = true) (k17 : PySem.W.keepIn K (.ref f17) = true)
    (a18 : PySem.W.nsIn K mainGlobals "_law_told" = some (some (.ref f18)))
    (l18 : K.lookup f18 = some ⟨oc18, od18, .func (PySem.W.fnOf "_law_told" "_law_told" (defArgs s_law_told) (defBody s_law_told) (defScope s_law_told) .none kV18 dc18 pm18 an18 cd18 ct18), sl18⟩) (c18 : PySem.W.codeIn K cd18 "_law_told" = true) (k18 : PySem.W.keepIn K (.ref f18) = true)
    (a19 : PySem.W.nsIn K mainGlobals "law" = some (some (.ref f19)))
    (l19 : K.lookup f19 = some ⟨oc19, od19, .func (PySem.W.fnOf "law" "law" (defArgs s_law) (defBody s_law) (defScope s_law) .none kV19 dc19 pm19 an19 cd19 ct19), sl19⟩) (c19 : PySem.W.codeIn K cd19 "law" = true) (k19 : PySem.W.keepIn K (.ref f19) = true)
    (z0 : PySem.W.nsIn K mainGlobals "all" = some none)
    (z1 : PySem.W.nsIn K mainGlobals "bool" = some none)
    (z2 : PySem.W.nsIn K mainGlobals "enumerate" = some none)
    (z3 : PySem.W.nsIn K mainGlobals "int" = some none)
    (z4 : PySem.W.nsIn K mainGlobals "isinstance" = some none)
    (z5 : PySem.W.nsIn K mainGlobals "len" = some none)
    (z6 : PySem.W.nsIn K mainGlobals "list" = some none)
    (z7 : PySem.W.nsIn K mainGlobals "max" = some none)
    (z8 : PySem.W.nsIn K mainGlobals "min" = some none)
    (z9 : PySem.W.nsIn K mainGlobals "range" = some none)
    (z10 : PySem.W.nsIn K mainGlobals "set" = some none)
    (z11 : PySem.W.nsIn K mainGlobals "sorted" = some none)
    (z12 : PySem.W.nsIn K mainGlobals "sum" = some none)
    (z13 : PySem.W.nsIn K mainGlobals "tuple" = some none)
    (kc_MOST_RANK : PySem.W.nsIn K mainGlobals "MOST_RANK" = some (some (.int 1000000000 t_MOST_RANK))) :
    ∃ fd : FuncData, (∀ (s : Shared) (v : Value), BindsTo s fd ⟨[v], []⟩ [("_law_script", v)]) ∧ ∀ base : Heap, K.In base → base.Ns mainGlobals mg → FnOk l.prog w K mg base CX0 6 fa fd ["_law_script"] (spLaw K) := by
  have e := hfa.symm.trans (PySem.W.mg_of X G a19)
  cases e
  have F1 := fun_mk (st := s_with_one) l1 c1 k1
  have b1 := F1.binds (ps := ["mask", "hand"]) fun _ _ _ _ _ _ us hl => match us, hl with | [_, _], _ => rfl
  have F2 := fun_mk (st := s_members) l2 c2 k2
  have b2 := F2.binds (ps := ["mask"]) fun _ _ _ _ _ _ us hl => match us, hl with | [_], _ => rfl
  have F3 := fun_mk (st := s_is_whole) l3 c3 k3
  have b3 := F3.binds (ps := ["thing"]) fun _ _ _ _ _ _ us hl => match us, hl with | [_], _ => rfl
  have F4 := fun_mk (st := s_law_whole) l4 c4 k4
  have b4 := F4.binds (ps := ["_law_found"]) fun _ _ _ _ _ _ us hl => match us, hl with | [_], _ => rfl
  have F5 := fun_mk (st := s_law_cell) l5 c5 k5
  have b5 := F5.binds (ps := ["_law_script", "_law_k"]) fun _ _ _ _ _ _ us hl => match us, hl with | [_, _], _ => rfl
  have F6 := fun_mk (st := s_law_mixed) l6 c6 k6
  have b6 := F6.binds (ps := ["_law_cell_here", "_law_by"]) fun _ _ _ _ _ _ us hl => match us, hl with | [_, _], _ => rfl
  have F7 := fun_mk (st := s_law_tier) l7 c7 k7
  have b7 := F7.binds (ps := ["_law_ranks_here", "_law_rank"]) fun _ _ _ _ _ _ us hl => match us, hl with | [_, _], _ => rfl
  have F8 := fun_mk (st := s_law_closed) l8 c8 k8
  have b8 := F8.binds (ps := ["_law_ranks_here"]) fun _ _ _ _ _ _ us hl => match us, hl with | [_], _ => rfl
  have F9 := fun_mk (st := s_law_others) l9 c9 k9
  have b9 := F9.binds (ps := ["_law_ranks_here", "_law_cell_here"]) fun _ _ _ _ _ _ us hl => match us, hl with | [_, _], _ => rfl
  have F10 := fun_mk (st := s_is_rank) l10 c10 k10
  have b10 := F10.binds (ps := ["thing"]) fun _ _ _ _ _ _ us hl => match us, hl with | [_], _ => rfl
  have F11 := fun_mk (st := s_tier_at) l11 c11 k11
  have b11 := F11.binds (ps := ["ranks", "wanted"]) fun _ _ _ _ _ _ us hl => match us, hl with | [_, _], _ => rfl
  have F12 := fun_mk (st := s_ranks_of) l12 c12 k12
  have b12 := F12.binds (ps := ["slip", "hands"]) fun _ _ _ _ _ _ us hl => match us, hl with | [_, _], _ => rfl
  have F13 := fun_mk (st := s_law_ranks) l13 c13 k13
  have b13 := F13.binds (ps := ["_law_script", "_law_at", "_law_hands"]) fun _ _ _ _ _ _ us hl => match us, hl with | [_, _, _], _ => rfl
  have F14 := fun_mk (st := s_law_slip) l14 c14 k14
  have b14 := F14.binds (ps := ["_law_ranks_here"]) fun _ _ _ _ _ _ us hl => match us, hl with | [_], _ => rfl
  have F15 := fun_mk (st := s_law_same_slip) l15 c15 k15
  have b15 := F15.binds (ps := ["_law_found", "_law_due"]) fun _ _ _ _ _ _ us hl => match us, hl with | [_, _], _ => rfl
  have F16 := fun_mk (st := s_are_ranks) l16 c16 k16
  have b16 := F16.binds (ps := ["thing", "hands"]) fun _ _ _ _ _ _ us hl => match us, hl with | [_, _], _ => rfl
  have F17 := fun_mk (st := s_slip_of) l17 c17 k17
  have b17 := F17.binds (ps := ["ranks", "hands"]) fun _ _ _ _ _ _ us hl => match us, hl with | [_, _], _ => rfl
  have F18 := fun_mk (st := s_law_told) l18 c18 k18
  have b18 := F18.binds (ps := ["_law_slip_here", "_law_hands", "_law_due"]) fun _ _ _ _ _ _ us hl => match us, hl with | [_, _, _], _ => rfl
  have F19 := fun_mk (st := s_law) l19 c19 k19
  have b19 := F19.binds (ps := ["_law_script"]) fun _ _ _ _ _ _ us hl => match us, hl with | [_], _ => rfl
  have T : Tx K mg (⟨f1, _, f2, _, f3, _, f4, _, f5, _, f6, _, f7, _, f8, _, f9, _, f10, _, f11, _, f12, _, f13, _, f14, _, f15, _, f16, _, f17, _, f18, _, fa, _, t_MOST_RANK⟩ : Ads) := ⟨F1, b1, PySem.W.mg_of X G a1, F2, b2, PySem.W.mg_of X G a2, F3, b3, PySem.W.mg_of X G a3, F4, b4, PySem.W.mg_of X G a4, F5, b5, PySem.W.mg_of X G a5, F6, b6, PySem.W.mg_of X G a6, F7, b7, PySem.W.mg_of X G a7, F8, b8, PySem.W.mg_of X G a8, F9, b9, PySem.W.mg_of X G a9, F10, b10, PySem.W.mg_of X G a10, F11, b11, PySem.W.mg_of X G a11, F12, b12, PySem.W.mg_of X G a12, F13, b13, PySem.W.mg_of X G a13, F14, b14, PySem.W.mg_of X G a14, F15, b15, PySem.W.mg_of X G a15, F16, b16, PySem.W.mg_of X G a16, F17, b17, PySem.W.mg_of X G a17, F18, b18, PySem.W.mg_of X G a18, F19, b19, PySem.W.mg_of X G a19, PySem.W.mg_none_of X G z0, PySem.W.mg_none_of X G z1, PySem.W.mg_none_of X G z2, PySem.W.mg_none_of X G z3, PySem.W.mg_none_of X G z4, PySem.W.mg_none_of X G z5, PySem.W.mg_none_of X G z6, PySem.W.mg_none_of X G z7, PySem.W.mg_none_of X G z8, PySem.W.mg_none_of X G z9, PySem.W.mg_none_of X G z10, PySem.W.mg_none_of X G z11, PySem.W.mg_none_of X G z12, PySem.W.mg_none_of X G z13, PySem.W.mg_of X G kc_MOST_RANK⟩
  exact ⟨PySem.W.fnOf "law" "law" (defArgs s_law) (defBody s_law) (defScope s_law) .none kV19 dc19 pm19 an19 cd19 ct19, fun s v => .of_eq rfl, fun base _ _ => ok_law T⟩
theorem walk {l : PySem.W.OpenLaw} {q : Program} {loose : List Str} {XP : (Str → Option Value) → Heap → Prop} {YP : World → Heap → Prop} {d : DefRec} {K : Params → PySem.W.Frag} (hn : l.most = some 63) (hdf : d.params.defaults = [])
    (hY : ∀ (w : World) (h : Heap), YP w h → (K w.params).In h)
    (F : ∀ (w : World) (mg : Str → Option Value) (fa : Addr) (h : Heap), (K w.params).In h → h.Ns mainGlobals mg → mg d.name = some (.ref fa) →
      ∃ fd : FuncData, (∀ (s : Shared) (u : Value), BindsTo s fd ⟨[u], []⟩ [("_law_script", u)]) ∧ ∀ base : Heap, (K w.params).In base → base.Ns mainGlobals mg → FnOk l.prog w (K w.params) mg base CX0 6 fa fd ["_law_script"] (spLaw (K w.params))) :
    PySem.W.WalkO q loose XP YP l.row.toRowW d [] (fun f vs => PySem.call f vs) :=
  L2.walk_of (n := 63) (k := 6) (x := "_law_script") (CX := fun _ => CX0) (sp := fun w => spLaw (K w.params)) hn (by decide) hdf ⟨rfl, by decide, by decide⟩ hY F (fun _ _ a ns hl _ hS => ⟨a, ns, rfl, hS, hl, fun _ => rfl⟩) fun _ _ _ _ _ z => z
end Law
open PySem PySem.W PyProof.Rows
set_option maxRecDepth 100000 in
set_option maxHeartbeats 0 in
theorem PySem.Challenge.cw_pollproof_k23_there_and_back_holds : PySem.Challenge.rw_pollproof_k23_there_and_back.Holds := by
  refine Head.top ?_
  k_fill
  refine Law.walk (l := PySem.Challenge.rw_pollproof_k23_there_and_back) rfl rfl (fun w h Y => PySem.W.kIn_of Y) ?F
  case F =>
    intro w mg fa h KX G hmg
    refine' Law.all_mk KX G hmg ?a1 ?l1 ?c1 ?k1 ?a2 ?l2 ?c2 ?k2 ?a3 ?l3 ?c3 ?k3 ?a4 ?l4 ?c4 ?k4 ?a5 ?l5 ?c5 ?k5 ?a6 ?l6 ?c6 ?k6 ?a7 ?l7 ?c7 ?k7 ?a8 ?l8 ?c8 ?k8 ?a9 ?l9 ?c9 ?k9 ?a10 ?l10 ?c10 ?k10 ?a11 ?l11 ?c11 ?k11 ?a12 ?l12 ?c12 ?k12 ?a13 ?l13 ?c13 ?k13 ?a14 ?l14 ?c14 ?k14 ?a15 ?l15 ?c15 ?k15 ?a16 ?l16 ?c16 ?k16 ?a17 ?l17 ?c17 ?k17 ?a18 ?l18 ?c18 ?k18 ?a19 ?l19 ?c19 ?k19 ?z0 ?z1 ?z2 ?z3 ?z4 ?z5 ?z6 ?z7 ?z8 ?z9 ?z10 ?z11 ?z12 ?z13 ?kc_MOST_RANK
    (case a1 => k_is)
    (case l1 => k_is)
    (case c1 => k_is)
    (case k1 => k_is)
    (case a2 => k_is)
    (case l2 => k_is)
    (case c2 => k_is)
    (case k2 => k_is)
    (case a3 => k_is)
    (case l3 => k_is)
    (case c3 => k_is)
    (case k3 => k_is)
    (case a4 => k_is)
    (case l4 => k_is)
    (case c4 => k_is)
    (case k4 => k_is)
    (case a5 => k_is)
    (case l5 => k_is)
    (case c5 => k_is)
    (case k5 => k_is)
    (case a6 => k_is)
    (case l6 => k_is)
    (case c6 => k_is)
    (case k6 => k_is)
    (case a7 => k_is)
    (case l7 => k_is)
    (case c7 => k_is)
    (case k7 => k_is)
    (case a8 => k_is)
    (case l8 => k_is)
    (case c8 => k_is)
    (case k8 => k_is)
    (case a9 => k_is)
    (case l9 => k_is)
    (case c9 => k_is)
    (case k9 => k_is)
    (case a10 => k_is)
    (case l10 => k_is)
    (case c10 => k_is)
    (case k10 => k_is)
    (case a11 => k_is)
    (case l11 => k_is)
    (case c11 => k_is)
    (case k11 => k_is)
    (case a12 => k_is)
    (case l12 => k_is)
    (case c12 => k_is)
    (case k12 => k_is)
    (case a13 => k_is)
    (case l13 => k_is)
    (case c13 => k_is)
    (case k13 => k_is)
    (case a14 => k_is)
    (case l14 => k_is)
    (case c14 => k_is)
    (case k14 => k_is)
    (case a15 => k_is)
    (case l15 => k_is)
    (case c15 => k_is)
    (case k15 => k_is)
    (case a16 => k_is)
    (case l16 => k_is)
    (case c16 => k_is)
    (case k16 => k_is)
    (case a17 => k_is)
    (case l17 => k_is)
    (case c17 => k_is)
    (case k17 => k_is)
    (case a18 => k_is)
    (case l18 => k_is)
    (case c18 => k_is)
    (case k18 => k_is)
    (case a19 => k_is)
    (case l19 => k_is)
    (case c19 => k_is)
    (case k19 => k_is)
    (case z0 => k_is)
    (case z1 => k_is)
    (case z2 => k_is)
    (case z3 => k_is)
    (case z4 => k_is)
    (case z5 => k_is)
    (case z6 => k_is)
    (case z7 => k_is)
    (case z8 => k_is)
    (case z9 => k_is)
    (case z10 => k_is)
    (case z11 => k_is)
    (case z12 => k_is)
    (case z13 => k_is)
    (case kc_MOST_RANK => k_is)
#print axioms PySem.Challenge.cw_pollproof_k23_there_and_back_holds
