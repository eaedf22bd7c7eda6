import PyProof.Rows.All
import Wide.All
import OpenK.AllK
import Wide.FinOn
import Lean
import PyProof.EqAt
import PyProof.EqKinds
import PyProof.TupleCall
import PySem.Challenge.RW_pollproof_k24_ranks_refused
set_option Elab.async false
set_option linter.all false
set_option maxRecDepth 100000
namespace Head
open PySem PySem.W PyProof.Rows
def runT (p : Program) (w : World) (n0 : Nat) (ann : Option Value) : Nat → SharedT → Thread → Option SharedT
  | 0, _, _ => none
  | n + 1, s, t => match through t with
    | true => some s
    | false => match stepOk n0 ann t with
      | false => none
      | true => match stepT (denote treeTable) p w s t with
        | some (s', t') => runT p w n0 ann n s' t'
        | none => none
theorem runT_of {p : Program} {w : World} {n0 : Nat} {ann : Option Value} : ∀ {n : Nat} {s s' : SharedT} {t : Thread}, runT p w n0 ann n s t = some s' → topRun treeTable p w n0 ann n s.abs t = some s'.abs
  | 0, _, _, _, h => by cases h
  | n + 1, s, s', t, h => by
    unfold runT at h
    unfold topRun
    cases he : through t with
    | true => rw [he] at h; cases h; rfl
    | false =>
      rw [he] at h
      cases hk : stepOk n0 ann t with
      | false => rw [hk] at h; cases h
      | true =>
        rw [hk] at h
        cases hs : stepT (denote treeTable) p w s t with
        | none => rw [hs] at h; cases h
        | some r => obtain ⟨s2, t2⟩ := r; rw [hs] at h; rw [stepT_spec hs]; exact runT_of h
def grow : List Obj → Nat → BT → Option BT
  | [], _, t => some t
  | o :: os, n, t => match ((t.ins n o).get n).isSome with
    | true => grow os (n + 1) (t.ins n o)
    | false => none
theorem grow_of {life : Life} : ∀ {os : List Obj} {n : Nat} {t t' : BT} {xs : List Obj}, (absHeap t n life) = ⟨xs.toArray, life⟩ → grow os n t = some t' → absHeap t' (n + os.length) life = ⟨(xs ++ os).toArray, life⟩
  | [], n, t, t', xs, a, h => by
    cases h
    rw [List.append_nil]
    exact a
  | o :: os, n, t, t', xs, a, h => by
    unfold grow at h
    cases g : ((t.ins n o).get n).isSome with
    | false => rw [g] at h; cases h
    | true =>
      rw [g] at h
      have b : absHeap (t.ins n o) (n + 1) life = ⟨(xs ++ [o]).toArray, life⟩ := by
        rw [absHeap_ins g, a]
        show (⟨xs.toArray.push o, life⟩ : Heap) = _
        rw [List.push_toArray]
      have c := grow_of b h
      rw [List.append_assoc] at c
      rw [List.length_cons, show n + (os.length + 1) = n + 1 + os.length by omega]
      exact c
theorem grow_all {H : Heap} {T : BT} (h : grow H.objs.toList 0 .nil = some T) : absHeap T H.objs.size H.life = H := by
  have c := grow_of (life := H.life) (n := 0) (t := .nil) (xs := []) rfl h
  rw [Nat.zero_add, Array.length_toList] at c
  rw [c]
  obtain ⟨a, l⟩ := H
  show (⟨([] ++ a.toList).toArray, l⟩ : Heap) = ⟨a, l⟩
  rw [List.nil_append, Array.toArray_toList]
theorem left {p q : Program} {loose : List PySem.Str} {Xt : Shared → Bool} {α : Type} {Yf : Shared → α} {Ya : World → α} {N : Nat} {g0 : Bool}
    (e : opening p = plainProg p.main.scope.names) (hN : Nat.ble 600 N = true) (f : ∀ s, fenceModules? p s = some s)
    (h : ∀ (w : World) (os : OsState), ((grow (boot_heap w.params).objs.toList 0 .nil).bind fun T => (runT p w (boot_heap w.params).objs.size ((boot_heap w.params).nsMap mainGlobals "__annotations__") N ⟨T, (boot_heap w.params).objs.size, (boot_heap w.params).life, Array.mk [], boot_drawn, boot_toks, os⟩ (topStub p)).map fun s =>
      (((boot_heap w.params).isNs mainGlobals, staticsOk (importedModules p.main.body) (boot_heap w.params) s.abs.heap && namesBound p s.abs.heap && gensDone s.abs && laidKept (boot_heap w.params) s.abs.heap), openSeen q loose (importedModules p.main.body) Xt g0 s.abs, Yf s.abs)) =
      some ((true, true), openGood q loose, Ya w)) : LeftO p q loose Xt Yf Ya N g0 := fun w => by
  obtain ⟨⟨hp, gs, d, k, os⟩, e1, e2⟩ := Option.map_eq_some_iff.mp (boot_open e hN f w)
  obtain ⟨rfl, rfl, rfl, rfl⟩ : hp = boot_heap w.params ∧ gs = Array.mk [] ∧ d = boot_drawn ∧ k = boot_toks := by simpa using e2
  have z := h w os
  cases gT : grow (boot_heap w.params).objs.toList 0 .nil with
  | none => rw [gT] at z; cases z
  | some T =>
    rw [gT] at z
    obtain ⟨s, r, y⟩ := Option.map_eq_some_iff.mp z
    have r' := runT_of r
    injection y with y1 y2
    injection y1 with y3 y4
    injection y2 with y5 y6
    have a : (⟨T, (boot_heap w.params).objs.size, (boot_heap w.params).life, Array.mk [], boot_drawn, boot_toks, os⟩ : SharedT).abs = ⟨boot_heap w.params, Array.mk [], boot_drawn, boot_toks, os⟩ := by
      unfold SharedT.abs
      rw [grow_all gT]
    rw [a] at r'
    unfold openEnds
    rw [e1]
    show (topFrom treeTable p w N _).map _ = _
    have t : topFrom treeTable p w N ⟨boot_heap w.params, Array.mk [], boot_drawn, boot_toks, os⟩ = some s.abs := by
      unfold topFrom
      dsimp only
      rw [y3, r']
      show (match staticsOk (importedModules p.main.body) (boot_heap w.params) s.abs.heap && namesBound p s.abs.heap && gensDone s.abs && laidKept (boot_heap w.params) s.abs.heap with | true => _ | false => _) = _
      rw [y4]
    rw [t]
    exact congrArg some (Prod.ext y5 y6)
end Head
namespace Head
open PySem PySem.W PyProof.Rows
abbrev q0 : Program := view PySem.Challenge.pw_pollproof_k24_ranks_refused [35]
abbrev r0 : OpenRow := OpenLaw.row PySem.Challenge.rw_pollproof_k24_ranks_refused
local macro_rules | `(tactic| o_head $H) => do
  let (hl, hw, hc) := (Lean.mkIdent `hl, Lean.mkIdent `hw, Lean.mkIdent `hc)
  `(tactic| (
    refine holds_open (r := r0) (q := q0) (loose := [PySem.Str.ofString "PollError", PySem.Str.ofString "NoNumber", PySem.Str.ofString "NoBallot", PySem.Str.ofString "NoSheet", PySem.Str.ofString "NoChange", PySem.Str.ofString "Torn", PySem.Str.ofString "NoBundle", PySem.Str.ofString "WrongNumber", PySem.Str.ofString "NoWay", PySem.Str.ofString "TooHard", PySem.Str.ofString "Ended", PySem.Str.ofString "NoRow", PySem.Str.ofString "with_one", PySem.Str.ofString "is_whole", PySem.Str.ofString "MOST_RANK", PySem.Str.ofString "is_rank", PySem.Str.ofString "are_ranks", PySem.Str.ofString "tier_at", PySem.Str.ofString "slip_of", PySem.Str.ofString "_law_whole", PySem.Str.ofString "_law_cell", PySem.Str.ofString "_law_mixed", PySem.Str.ofString "_law_ranks", PySem.Str.ofString "_law_tier", PySem.Str.ofString "_law_slip", PySem.Str.ofString "_law_same_slip", PySem.Str.ofString "_law_refused", PySem.Str.ofString "_law_named", PySem.Str.ofString "_law_bad_ranks", PySem.Str.ofString "_law_bad"]) (N := 100000)
      (Xt := fun s => xlAt q0 [] s && recOk (RowW.records (OpenRow.toRowW r0)) s)
      (XP := XL q0 []) (Yf := Hook.obs $H) (Ya := Hook.val $H) (YP := Hook.says $H)
      ?$hl (Hook.of $H) (Hook.keeps $H) (fun s e => xl_of s (Bool.and_eq_true_iff.mp e).1) XL.keeps
      (by rfl) (by rfl) (by rfl) (fun s e => recFacts_of (Bool.and_eq_true_iff.mp e).2) (by rfl) (by assumption)
      (by decide +kernel) ⟨rfl, rfl, rfl, rfl, rfl, by decide +kernel⟩ ?$hw ?$hc;
    (next => (exact left (by kernel_rfl) (by decide) (fun s => by kernel_rfl) (fun w os => by kernel_rfl)))))
set_option maxRecDepth 100000 in
set_option maxHeartbeats 0 in
open_top top for PySem.Challenge.rw_pollproof_k24_ranks_refused
end Head
namespace L2
open PySem PySem.Spec PyProof.Rows
abbrev Key := Sum Int Str
def keyIs : Key → Value → Bool
  | .inl k, v => Value.isInt k v
  | .inr x, v => Value.isStrOf x v
def keyH (w : World) : Key → Int
  | .inl k => hashInt k
  | .inr x => hashStr w x
theorem keyIs_shape : ∀ {k : Key} {v : Value}, keyIs k v = true → (∃ i t, k = Sum.inl i ∧ v = Value.int i t) ∨ (∃ x t, k = Sum.inr x ∧ v = Value.str x t)
  | .inl i, v, h => by
    obtain ⟨t, e⟩ := Value.isInt_shape (k := i) (v := v) h
    exact .inl ⟨i, t, rfl, e⟩
  | .inr x, v, h => by
    obtain ⟨t, e⟩ := Value.isStrOf_shape (x := x) (v := v) h
    exact .inr ⟨x, t, rfl, e⟩
theorem keyIs_int (i : Int) (t : Tok) : keyIs (.inl i) (.int i t) = true := by simp [keyIs, Value.isInt]
theorem keyIs_str (x : Str) (t : Tok) : keyIs (.inr x) (.str x t) = true := by simp [keyIs, Value.isStrOf]
theorem key_ll (a b : Int) : decide ((Sum.inl a : Key) = Sum.inl b) = (a == b) := by
  by_cases e : a = b
  · subst e; simp
  · have h : ¬ (Sum.inl a : Key) = Sum.inl b := fun q => e (Sum.inl.inj q)
    rw [decide_eq_false h]
    exact (beq_eq_false_iff_ne.mpr e).symm
theorem key_rr (a b : Str) : decide ((Sum.inr a : Key) = Sum.inr b) = decide (a = b) := by
  by_cases e : a = b
  · subst e; simp
  · have h : ¬ (Sum.inr a : Key) = Sum.inr b := fun q => e (Sum.inr.inj q)
    rw [decide_eq_false h, decide_eq_false e]
theorem key_lr (a : Int) (b : Str) : decide ((Sum.inl a : Key) = Sum.inr b) = false := decide_eq_false (fun q => nomatch q)
theorem key_rl (a : Str) (b : Int) : decide ((Sum.inr a : Key) = Sum.inl b) = false := decide_eq_false (fun q => nomatch q)
def mixKind (prog : Program) (w : World) : PySem.KeyKind prog w Key where
  is := keyIs
  hash := keyH w
  inj := fun v a b ha hb => by
    rcases keyIs_shape ha with ⟨i, t, rfl, rfl⟩ | ⟨x, t, rfl, rfl⟩
    · rcases keyIs_shape hb with ⟨j, u, rfl, e⟩ | ⟨y, u, rfl, e⟩
      · injection e with e1 _; rw [e1]
      · exact nomatch e
    · rcases keyIs_shape hb with ⟨j, u, rfl, e⟩ | ⟨y, u, rfl, e⟩
      · exact nomatch e
      · injection e with e1 _; rw [e1]
  byValue := fun k v h => by
    rcases keyIs_shape h with ⟨i, t, rfl, rfl⟩ | ⟨x, t, rfl, rfl⟩ <;> rfl
  pyHash := fun hv h => by
    rcases keyIs_shape hv with ⟨i, t, rfl, rfl⟩ | ⟨x, t, rfl, rfl⟩
    · exact wpAny_pyHash_int h
    · exact wpAny_pyHash_str h
  eqBool := fun hu hv h => by
    rcases keyIs_shape hu with ⟨i, t, rfl, rfl⟩ | ⟨x, t, rfl, rfl⟩
    · rcases keyIs_shape hv with ⟨j, u, rfl, rfl⟩ | ⟨y, u, rfl, rfl⟩
      · rw [key_ll] at h; exact wpAny_eqBool_int h
      · rw [key_lr] at h; exact SeqAt.EqAt.int_str i t y u _ _ _ _ h
    · rcases keyIs_shape hv with ⟨j, u, rfl, rfl⟩ | ⟨y, u, rfl, rfl⟩
      · rw [key_rl] at h; exact SeqAt.EqAt.str_int x t j u _ _ _ _ h
      · rw [key_rr] at h; exact wpAny_eqBool_str h
  «strs» := fun k x t v h => by
    rcases keyIs_shape h with ⟨i, u, rfl, e⟩ | ⟨y, u, rfl, e⟩
    · exact nomatch e
    · injection e with e1 _
      subst e1
      cases v <;> rfl
theorem mixKind_int (prog : Program) (w : World) (i : Int) (t : Tok) : (mixKind prog w).is (.inl i) (.int i t) = true := keyIs_int i t
theorem mixKind_str (prog : Program) (w : World) (x : Str) (t : Tok) : (mixKind prog w).is (.inr x) (.str x t) = true := keyIs_str x t
end L2
namespace L2
open PySem PySem.Spec PyProof.Rows
inductive V where
  | non | bl (b : Bool) | int (i : Int) | str (x : Str) | byt (b : Array UInt8) | flt (b : UInt64) | ref (a : Addr) | ty (n : String)
  deriving DecidableEq
def RelV : V → Value → Prop
  | .non, u => u = Value.none
  | .bl b, u => u = Value.bool b
  | .int i, u => ∃ t, u = Value.int i t
  | .str x, u => ∃ t, u = Value.str x t
  | .byt b, u => ∃ t, u = Value.bytes b t
  | .flt b, u => ∃ t, u = Value.float b t
  | .ref a, u => u = Value.ref a
  | .ty n, u => u = Value.type n
abbrev Vals : List V → List Value → Prop := Paired RelV
theorem Vals.length {xs : List V} {us : List Value} (r : Vals xs us) : xs.length = us.length := Paired.length r
theorem Vals.get : ∀ {xs : List V} {us : List Value} {i : Nat} {x : V}, Vals xs us → xs[i]? = some x → ∃ u, us[i]? = some u ∧ RelV x u
  | _, _, _, _, .nil, e => by simp at e
  | _, _, 0, _, .cons r _, e => by simp at e; subst e; exact ⟨_, rfl, r⟩
  | _, _, i + 1, x, .cons _ t, e => by
    obtain ⟨u, h1, h2⟩ := Vals.get (i := i) (x := x) t (by simpa using e)
    exact ⟨u, by simpa using h1, h2⟩
theorem Vals.append : ∀ {xs ys : List V} {us ws : List Value}, Vals xs us → Vals ys ws → Vals (xs ++ ys) (us ++ ws)
  | _, _, _, _, .nil, s => s
  | _, _, _, _, .cons r t, s => .cons r (Vals.append t s)
theorem Vals.take : ∀ {xs : List V} {us : List Value} (n : Nat), Vals xs us → Vals (xs.take n) (us.take n)
  | _, _, 0, _ => .nil
  | _, _, _ + 1, .nil => .nil
  | _, _, n + 1, .cons r t => .cons r (Vals.take n t)
theorem Vals.drop : ∀ {xs : List V} {us : List Value} (n : Nat), Vals xs us → Vals (xs.drop n) (us.drop n)
  | _, _, 0, r => r
  | _, _, _ + 1, .nil => .nil
  | _, _, n + 1, .cons _ t => Vals.drop n t
def RelO : Option V → Option Value → Prop
  | some v, some u => RelV v u
  | none, none => True
  | _, _ => False
def KV {κ : Type} : List (κ × V) → List (κ × Value) → Prop := Paired fun (p : κ × V) (q : κ × Value) => p.1 = q.1 ∧ RelV p.2 q.2
def kV : Key → V
  | .inl i => .int i
  | .inr x => .str x
inductive HO where
  | lst (xs : List V)
  | tup (xs : List V)
  | dK (kvs : List (Key × V)) | dT (kvs : List (List Key × V))
  | set (S : Int → Bool) (n : Nat)
  | ins (C dx : Addr) (fs : List (Str × V))
  | own (x : Addr)
  | xd (fs : List (Str × V))
  | met (f x : Addr)
  | rng (lo hi : Int)
  | frz (o : Obj) (u : HO)
  | tbl (ps : Array Value)
  | ext (φ : Heap → Prop)
abbrev Hp := Addr → Option HO
def upd (H : Hp) (a : Addr) (o : HO) : Hp := fun b => if b = a then some o else H b
theorem upd_same {H : Hp} {a : Addr} {o : HO} : upd H a o a = some o := by unfold upd; rw [if_pos rfl]
theorem upd_ne {H : Hp} {a b : Addr} {o : HO} (h : b ≠ a) : upd H a o b = H b := by unfold upd; rw [if_neg h]
theorem upd_upd {H : Hp} {a : Addr} {o u : HO} : upd (upd H a o) a u = upd H a u := by
  funext b; unfold upd; split <;> rfl
theorem ne_of_none {H : Hp} {a b : Addr} {o : HO} (h : H a = some o) (h' : H b = none) : a ≠ b := by
  intro e; subst e; rw [h] at h'; cases h'
section
variable (P : Program) (w : World)
def ObjOk (H : Hp) (h : Heap) (a : Addr) : HO → Prop
  | .lst xs => xs.length ≤ sizeLine ∧ ∃ (its : List Value) (n : Nat), Vals xs its ∧ h.get? a = some { cls := .type "list", data := .seq its.toArray n }
  | .tup xs => xs.length ≤ sizeLine ∧ ∃ its : List Value, Vals xs its ∧ IsTup h a its.toArray
  | .dK kvs => kvs.length ≤ sizeLine ∧ (a == sysModules) = false ∧ ∃ vs, KV kvs vs ∧ h.DictOf (mixKind P w) a vs
  | .dT kvs => kvs.length ≤ sizeLine ∧ (a == sysModules) = false ∧ ∃ xs : List (List Key × Addr × Value),
      Paired (fun (p : List Key × V) (q : List Key × Addr × Value) => p.1 = q.1 ∧ H q.2.1 = some (.tup (p.1.map kV)) ∧ RelV p.2 q.2.2) kvs xs ∧
      ∃ o es ep, h.get? a = some o ∧ o.ExactDict ∧ o.data = .dict es ep ∧ es.toList = xs.map (entryOfKey (tupleKind (mixKind P w))) ∧ (xs.map (·.1)).Nodup
  | .set S n => h.SetOf (intKind P w) a S n
  | .ins C dx fs => H dx = some (.own a) ∧ fs.length ≤ 1000 ∧ dx ≠ a ∧ h.get? a = some (PySem.W.instObj C dx) ∧
      ∃ mA, h.Ns1 dx mA ∧ (∀ f, RelO (fs.lookup f) (mA f)) ∧ PySem.Within mA (fs.map (·.1))
  | .own _ => ∃ o, h.get? a = some o
  | .xd fs => ∃ mA, h.Ns1 a mA ∧ ∀ f, RelO (fs.lookup f) (mA f)
  | .rng lo hi => ∃ t u v, h.get? a = some { cls := .type "range", data := .fields #[.int lo t, .int hi u, .int 1 v] }
  | .frz o u => h.get? a = some o ∧ ObjOk H h a u
  | .tbl ps => h.get? a = some { cls := .none, data := .fields ps }
  | .met f x => h.get? a = some (PySem.W.methodObj (.ref f) (.ref x))
  | .ext φ => φ h ∧ (∃ o, h.get? a = some o) ∧ ∀ h1 h2 : Heap, φ h1 → (∀ o, h1.get? a = some o → h2.get? a = some o) → φ h2
def HOk (H : Hp) (h : Heap) : Prop := ∀ a o, H a = some o → ObjOk P w H h a o
end
section
variable {P : Program} {w : World} {H H' : Hp} {h h' : Heap} {a : Addr} {o : HO}
theorem ObjOk.lt (x : ObjOk P w H h a o) : a < h.objs.size := by
  cases o with
  | lst xs => obtain ⟨_, _, _, _, e⟩ := x; exact Heap.lt_size e
  | tup xs => obtain ⟨_, _, _, p⟩ := x; exact p.lt
  | dK kvs => obtain ⟨_, _, _, _, o, _, _, e, _⟩ := x; exact Heap.lt_size e
  | dT kvs => obtain ⟨_, _, _, _, o, _, _, e, _⟩ := x; exact Heap.lt_size e
  | set S n => obtain ⟨o, _, _, _, e, _⟩ := x; exact Heap.lt_size e
  | ins C dx fs => obtain ⟨_, _, _, e, _⟩ := x; exact Heap.lt_size e
  | own y => obtain ⟨_, e⟩ := x; exact Heap.lt_size e
  | xd fs => obtain ⟨_, ⟨_, _, _, e, _⟩, _⟩ := x; exact Heap.lt_size e
  | rng lo hi => obtain ⟨_, _, _, e⟩ := x; exact Heap.lt_size e
  | frz ob u => obtain ⟨e, _⟩ := x; exact Heap.lt_size e
  | tbl ps => exact Heap.lt_size (show h.get? a = some _ from x)
  | met f y => exact Heap.lt_size (show h.get? a = some _ from x)
  | ext φ => obtain ⟨_, ⟨_, e⟩, _⟩ := x; exact Heap.lt_size e
theorem Paired.mapP {α β : Type} {F G : α → β → Prop} : ∀ {l₁ : List α} {l₂ : List β}, Paired F l₁ l₂ → (∀ a b, F a b → G a b) → Paired G l₁ l₂
  | _, _, .nil, _ => .nil
  | _, _, .cons r t, f => .cons (f _ _ r) (Paired.mapP t f)
theorem ObjOk.stay (x : ObjOk P w H h a o) (k : ∀ b u, (b = a ∨ H b = some (.own a)) → h.get? b = some u → h'.get? b = some u)
    (ho : ∀ b, H b = some (.own a) → H' b = some (.own a)) (ht : ∀ b xs, H b = some (.tup xs) → H' b = some (.tup xs)) : ObjOk P w H' h' a o := by
  induction o with
  | lst xs => obtain ⟨z, its, n, r, e⟩ := x; exact ⟨z, its, n, r, k _ _ (.inl rfl) e⟩
  | tup xs => obtain ⟨z, its, r, ob, e, c⟩ := x; exact ⟨z, its, r, ob, k _ _ (.inl rfl) e, c⟩
  | dK kvs => obtain ⟨z, y, vs, r, ob, es, ep, e, c⟩ := x; exact ⟨z, y, vs, r, ob, es, ep, k _ _ (.inl rfl) e, c⟩
  | dT kvs =>
    obtain ⟨z, y, xs, r, ob, es, ep, e, c⟩ := x
    exact ⟨z, y, xs, Paired.mapP r fun p q z => ⟨z.1, ht _ _ z.2.1, z.2.2⟩, ob, es, ep, k _ _ (.inl rfl) e, c⟩
  | set S n => obtain ⟨ob, es, ep, t, e, c⟩ := x; exact ⟨ob, es, ep, t, k _ _ (.inl rfl) e, c⟩
  | ins C dx fs =>
    obtain ⟨d, z, ne, e, mA, ⟨od, es, ep, e2, c⟩, r⟩ := x
    exact ⟨ho _ d, z, ne, k _ _ (.inl rfl) e, mA, ⟨od, es, ep, k _ _ (.inr d) e2, c⟩, r⟩
  | own y => obtain ⟨ob, e⟩ := x; exact ⟨ob, k _ _ (.inl rfl) e⟩
  | xd fs => obtain ⟨mA, ⟨od, es, ep, e, c⟩, r⟩ := x; exact ⟨mA, ⟨od, es, ep, k _ _ (.inl rfl) e, c⟩, r⟩
  | rng lo hi => obtain ⟨t, u, v, e⟩ := x; exact ⟨t, u, v, k _ _ (.inl rfl) e⟩
  | frz ob u ih => obtain ⟨e, q⟩ := x; exact ⟨k _ _ (.inl rfl) e, ih q⟩
  | tbl ps =>
    have e : h.get? a = some { cls := .none, data := .fields ps } := x
    show h'.get? a = some { cls := .none, data := .fields ps }
    exact k a _ (.inl rfl) e
  | met f y =>
    have e : h.get? a = some (PySem.W.methodObj (.ref f) (.ref y)) := x
    show h'.get? a = some (PySem.W.methodObj (.ref f) (.ref y))
    exact k a _ (.inl rfl) e
  | ext φ => obtain ⟨p, ⟨o, e⟩, st⟩ := x; exact ⟨st _ _ p fun o q => k _ _ (.inl rfl) q, ⟨o, k _ _ (.inl rfl) e⟩, st⟩
theorem HOk.lt (x : HOk P w H h) (e : H a = some o) : a < h.objs.size := (x a o e).lt
theorem HOk.fresh (x : HOk P w H h) (e : h.objs.size ≤ a) : H a = none := by
  cases q : H a with
  | none => rfl
  | some u => exact absurd (Nat.lt_of_lt_of_le (x.lt q) e) (Nat.lt_irrefl _)
theorem HOk.kept (x : HOk P w H h) (k : ∀ b u, h.get? b = some u → h'.get? b = some u) : HOk P w H h' := fun a o e =>
  (x a o e).stay (fun b u _ q => k b u q) (fun _ q => q) fun _ _ q => q
theorem HOk.laid (x : HOk P w H h) (k : ∀ b u, h.get? b = some u → h'.get? b = some u) (hp : h.objs.size ≤ a) (new : ObjOk P w (upd H a o) h' a o) : HOk P w (upd H a o) h' := fun b u e => by
  have hn := x.fresh hp
  by_cases hb : b = a
  · subst hb; rw [upd_same] at e; cases e; exact new
  · rw [upd_ne hb] at e
    exact (x b u e).stay (fun c v _ q => k c v q) (fun c q => by rw [upd_ne (ne_of_none q hn)]; exact q) fun c xs q => by rw [upd_ne (ne_of_none q hn)]; exact q
end
def Rd (H : Hp) (a : Addr) (u : HO) : Prop := H a = some u ∨ ∃ o, H a = some (.frz o u)
theorem Rd.ok {P : Program} {w : World} {H : Hp} {h : Heap} {a : Addr} {u : HO} (r : Rd H a u) (x : HOk P w H h) : ObjOk P w H h a u := by
  rcases r with r | ⟨o, r⟩
  · exact x a u r
  · obtain ⟨_, q⟩ := x a _ r
    exact q
def Mut : Option HO → Prop
  | some (.lst _) => True
  | some (.dK _) => True
  | some (.dT _) => True
  | some (.set _ _) => True
  | some (.ins _ _ _) => True
  | some (.ext _) => True
  | _ => False
section
variable {P : Program} {w : World} {H : Hp} {h h' : Heap} {x e : Addr} {o' : HO}
theorem HOk.write (ok : HOk P w H h) (mu : Mut (H x)) (he : e = x ∨ H e = some (.own x)) (k : ∀ b u, b ≠ e → h.get? b = some u → h'.get? b = some u) (heo : ∃ u, h'.get? e = some u)
    (new : ObjOk P w (upd H x o') h' x o') : HOk P w (upd H x o') h' := fun b u q => by
  have nown : ∀ c y, H c = some (.own y) → c ≠ x := fun c y r z => by subst z; rw [r] at mu; exact mu
  have ntup : ∀ c xs, H c = some (.tup xs) → c ≠ x := fun c xs r z => by subst z; rw [r] at mu; exact mu
  by_cases hb : b = x
  · subst hb; rw [upd_same] at q; cases q; exact new
  · rw [upd_ne hb] at q
    by_cases hbe : b = e
    · have q' : H b = some (.own x) := by
        rcases he with z | z
        · exact absurd (hbe.trans z) hb
        · rw [hbe]; exact z
      rw [q] at q'; cases q'
      obtain ⟨v, hv⟩ := heo
      exact ⟨v, by rw [hbe]; exact hv⟩
    · refine (ok b u q).stay (fun c v hc r => k c v ?_ r) (fun c r => by rw [upd_ne (nown c b r)]; exact r) fun c xs r => by rw [upd_ne (ntup c xs r)]; exact r
      rcases hc with rfl | hc
      · exact hbe
      · rintro rfl
        rcases he with z | z
        · exact nown c b hc z
        · rw [hc] at z; cases z; exact hb rfl
end
structure Un (fs ex : List Addr) (H H' : Hp) (h h' : Heap) : Prop where
  keep : ∀ b o, h.get? b = some o → H b = none → b ∉ fs → b ∉ ex → h'.get? b = some o
  slot : ∀ b o, h.get? b = some o → H b = none → b ∈ fs → b ∉ ex → ∃ sl, h'.get? b = some { o with slots := sl }
  free : ∀ b o, h.get? b = some o → H b = none → b ∉ ex → H' b = none
  there : ∀ b o, h.get? b = some o → b ∉ ex → ∃ o', h'.get? b = some o'
  tups : ∀ b xs, H b = some (.tup xs) → H' b = some (.tup xs)
  frzs : ∀ b o u, H b = some (.frz o u) → H' b = some (.frz o u)
  tbls : ∀ b ps, H b = some (.tbl ps) → ∃ more, H' b = some (.tbl (ps ++ more))
section
variable {fs fs' ex ex' : List Addr} {H H1 H2 : Hp} {h h1 h2 h' : Heap} {a x e : Addr} {o : HO}
theorem Un.any (u : Un fs ex H H1 h h1) {b : Addr} {ob : Obj} (q : h.get? b = some ob) (n : H b = none) (hx : b ∉ ex) : ∃ sl, h1.get? b = some { ob with slots := sl } := by
  by_cases hb : b ∈ fs
  · exact u.slot b ob q n hb hx
  · exact ⟨ob.slots, u.keep b ob q n hb hx⟩
theorem Un.kept (k : ∀ b u, h.get? b = some u → h'.get? b = some u) : Un fs ex H H h h' :=
  ⟨fun b ob q _ _ _ => k b ob q, fun b ob q _ _ _ => ⟨ob.slots, k b ob q⟩, fun _ _ _ n _ => n, fun b ob q _ => ⟨ob, k b ob q⟩, fun _ _ q => q, fun _ _ _ q => q, fun _ ps q => ⟨#[], by rw [q]; simp⟩⟩
theorem Un.refl : Un fs ex H H h h := Un.kept fun _ _ q => q
theorem Un.laid (k : ∀ b u, h.get? b = some u → h'.get? b = some u) (hp : h.objs.size ≤ a) (hn : H a = none) : Un fs ex H (upd H a o) h h' where
  keep := fun b u q _ _ _ => k b u q
  slot := fun b u q _ _ _ => ⟨u.slots, k b u q⟩
  free := fun b u q n _ => by rw [upd_ne (Nat.ne_of_lt (Nat.lt_of_lt_of_le (Heap.lt_size q) hp))]; exact n
  there := fun b u q _ => ⟨u, k b u q⟩
  tups := fun b xs q => by rw [upd_ne (ne_of_none q hn)]; exact q
  frzs := fun b u xs q => by rw [upd_ne (ne_of_none q hn)]; exact q
  tbls := fun b ps q => ⟨#[], by rw [upd_ne (ne_of_none q hn), q]; simp⟩
theorem Un.write (mu : Mut (H x)) (he : e = x ∨ H e = some (.own x)) (k : ∀ b u, b ≠ e → h.get? b = some u → h'.get? b = some u) (heo : ∃ u, h'.get? e = some u) : Un fs ex H (upd H x o) h h' := by
  have hx : ∀ b, H b = none → b ≠ x := fun b n z => by subst z; rw [n] at mu; exact mu
  have hb : ∀ b, H b = none → b ≠ e := fun b n z => by
    subst z
    rcases he with r | r
    · exact hx b n r
    · rw [n] at r; cases r
  have hm : ∀ b u, H b = some u → ¬ Mut (some u) → b ≠ x := fun b u q nm z => by subst z; rw [q] at mu; exact nm mu
  refine ⟨fun b u q n _ _ => k b u (hb b n) q, fun b u q n _ _ => ⟨u.slots, k b u (hb b n) q⟩, fun b u q n _ => by rw [upd_ne (hx b n)]; exact n, fun b u q _ => ?_,
    fun b xs q => by rw [upd_ne (hm b _ q fun z => z)]; exact q, fun b u xs q => by rw [upd_ne (hm b _ q fun z => z)]; exact q, fun b ps q => ⟨#[], by rw [upd_ne (hm b _ q fun z => z), q]; simp⟩⟩
  by_cases hbe : b = e
  · subst hbe; exact heo
  · exact ⟨u, k b u hbe q⟩
end
def trk (h : Heap) (H : Hp) : List Addr := (List.range h.objs.size).filter fun a => (H a).isSome
def hidT (h : Heap) (H : Hp) : Heap := PySem.W.hideAll h (trk h H)
theorem hidT_size (h : Heap) (H : Hp) : (hidT h H).objs.size = h.objs.size := PySem.W.hideAll_size _ _
theorem hidT_get {h : Heap} {H : Hp} {b : Addr} {o : Obj} (e : h.get? b = some o) (n : H b = none) : (hidT h H).get? b = some o :=
  PySem.W.hideAll_get _ e fun hm => by
    have q : (H b).isSome = true := (List.mem_filter.mp hm).2
    rw [n] at q; simp at q
theorem of_hidT {h : Heap} {H : Hp} {b : Addr} {o : Obj} (e : (hidT h H).get? b = some o) : h.get? b = some o ∧ H b = none := by
  have e' : h.get? b = some o := PySem.W.of_hideAll (trk h H) e
  refine ⟨e', ?_⟩
  cases q : H b with
  | none => rfl
  | some x =>
    have hm : b ∈ trk h H := List.mem_filter.mpr ⟨List.mem_range.mpr (Heap.lt_size e'), by simp [q]⟩
    have z : (hidT h H).get? b = none := PySem.W.hideAll_none (trk h H) hm
    rw [z] at e; cases e
end L2
namespace L2
open PySem PySem.Spec PyProof.Rows
structure Mod (K : PySem.W.Frag) (mg : Str → Option Value) (base : Heap) : Prop where
  kin : K.In base
  glob : base.Ns mainGlobals mg
  blt : ∃ mb, base.Ns builtinsNs mb ∧ ∀ x : Str, x ≠ "__name__" → mb x = bootBuiltins x
  nolimit : base.NoLimit
structure Cx where
  prog : Program
  w : World
  K : PySem.W.Frag
  mg : Str → Option Value
  base : Heap
  A : Around
  N : List Str
  s₀ : Shared
  H₀ : Hp
  env : Env
  outer : List Env
  stack : List Env
  ex : List Addr
  fn : Str → Bool
  calm : Bool
  pn : List (Addr × Obj)
  xe : Value → Shared → Prop
def frs (l : List Env) : List Addr := l.filterMap (·.frame)
abbrev Cx.fs (X : Cx) : List Addr := frs X.outer
def Vis (sc : Scope) (x : Str) : Prop := sc.names.lookup x = some .local ∨ sc.names.lookup x = some .cell ∨ sc.names.lookup x = some .free
def Loc (sc : Scope) (x : Str) : Prop := sc.names.lookup x = some .local ∨ sc.names.lookup x = some .cell
def Look (env : Env) (h : Heap) (m : Str → Option Value) (x : Str) (u : Value) : Prop :=
  (env.kindOf x = some .local ∧ m x = some u) ∨ ((env.kindOf x = some .cell ∨ env.kindOf x = some .free) ∧ ∃ c, env.cells.lookup x = some c ∧ h.IsCell c (some u))
structure Cx.Ok (X : Cx) : Prop where
  mod : Mod X.K X.mg X.base
  kind : X.env.scope.kind = .function
  glob : X.env.globals = mainGlobals
  blt : X.env.builtins = builtinsNs
  above : X.s₀.heap.objs.size ≤ X.env.locals
  inj : ∀ x y c, X.env.cells.lookup x = some c → X.env.cells.lookup y = some c → x = y
  has : ∀ x, (X.env.kindOf x = some .cell ∨ X.env.kindOf x = some .free) → ∃ c, X.env.cells.lookup x = some c
  cab : ∀ x c, X.fn x = true → X.env.cells.lookup x = some c → X.s₀.heap.objs.size ≤ c
  hd : X.calm = true → X.A.handled = none
  frames : X.A.frames = some X.stack
  stk : X.stack = X.outer ∨ (X.stack = X.env :: X.outer ∧ X.env.frame = some X.env.locals)
  exf : ∀ b ∈ X.ex, b ≠ X.env.locals ∧ ∀ x c, X.env.cells.lookup x = some c → c ≠ b
  bs : ∀ b o, X.base.get? b = some o → X.s₀.heap.get? b = some o ∧ X.H₀ b = none
  bsz : X.base.objs.size ≤ X.s₀.heap.objs.size
  noex : ∀ b o, X.base.get? b = some o → b ∉ X.ex
  exfs : ∀ b ∈ X.ex, b ∉ X.fs
  funs : X.s₀.heap.FunFrames X.base X.outer
  frf : ∀ b ∈ X.fs, X.H₀ b = none
structure Inv (X : Cx) (pins : List (Addr × Obj)) (σ : List (Option V)) (H : Hp) (s : Shared) : Prop where
  ok : X.Ok
  os : s.os = X.s₀.os
  bare : AllBare s.gens
  base : Un X.fs X.ex X.H₀ H X.s₀.heap s.heap
  loc : ∃ m, s.heap.Ns X.env.locals m ∧ ∀ (i : Nat) (x : Str) (v : V), X.N[i]? = some x → σ[i]? = some (some v) → Vis X.env.scope x → ∃ u, RelV v u ∧ Look X.env s.heap m x u
  cell : ∀ x c, X.env.cells.lookup x = some c → ∃ v, s.heap.IsCell c v
  free : H X.env.locals = none
  freeC : ∀ x c, X.env.cells.lookup x = some c → H c = none
  pin : ∀ p ∈ X.pn ++ pins, s.heap.get? p.1 = some p.2 ∧ H p.1 = none ∧ p.1 ≠ X.env.locals ∧ p.1 ∉ X.fs ∧ ∀ v, p.2.data ≠ .cell v
  hok : HOk X.prog X.w H s.heap
  len : σ.length = X.N.length
section
variable {X : Cx} {pins : List (Addr × Obj)} {σ : List (Option V)} {H H' : Hp} {s : Shared} {h' : Heap}
theorem Cx.Ok.nofr (ok : X.Ok) {b : Addr} {o : Obj} (e : X.base.get? b = some o) : b ∉ X.fs := fun hb => by
  have := (ok.funs.mem hb).1
  rw [e] at this; cases this
theorem Inv.bs (I : Inv X pins σ H s) : ∀ b o, X.base.get? b = some o → s.heap.get? b = some o ∧ H b = none := fun b o e =>
  ⟨I.base.keep b o (I.ok.bs b o e).1 (I.ok.bs b o e).2 (I.ok.nofr e) (I.ok.noex b o e), I.base.free b o (I.ok.bs b o e).1 (I.ok.bs b o e).2 (I.ok.noex b o e)⟩
theorem Inv.bk (I : Inv X pins σ H s) : ∀ b o, X.base.get? b = some o → s.heap.get? b = some o := fun b o e => (I.bs b o e).1
theorem Inv.mod (I : Inv X pins σ H s) : Mod X.K X.mg X.base := I.ok.mod
theorem Inv.kIn (I : Inv X pins σ H s) : X.K.In s.heap := I.ok.mod.kin.keeps I.bk
theorem Inv.lt (I : Inv X pins σ H s) : X.env.locals < s.heap.objs.size := let ⟨_, hn, _⟩ := I.loc; hn.lt
theorem Inv.sz (I : Inv X pins σ H s) : X.s₀.heap.objs.size ≤ s.heap.objs.size := Nat.le_trans I.ok.above (Nat.le_of_lt I.lt)
theorem Inv.nofs (I : Inv X pins σ H s) {a : Addr} (h : s.heap.objs.size ≤ a) : a ∉ X.fs := fun hb => by
  obtain ⟨_, o, ho, _⟩ := I.ok.funs.mem hb
  exact absurd (Nat.lt_of_lt_of_le (Heap.lt_size ho) (Nat.le_trans I.sz h)) (Nat.lt_irrefl _)
theorem Inv.cne (I : Inv X pins σ H s) : ∀ x c, X.env.cells.lookup x = some c → c ≠ X.env.locals := fun x c e z => by
  obtain ⟨v, o, ho, hd⟩ := I.cell x c e
  obtain ⟨m, ⟨o', es, ep, ho', hd', _⟩, _⟩ := I.loc
  rw [z, ho'] at ho; cases ho; rw [hd'] at hd; cases hd
theorem Inv.funs (I : Inv X pins σ H s) : s.heap.FunFrames X.base X.outer := by
  have all : ∀ (l : List Env), (∀ b ∈ frs l, b ∈ X.fs) → X.s₀.heap.FunFrames X.base l → s.heap.FunFrames X.base l := by
    intro l
    induction l with
    | nil => intro _ _; trivial
    | cons env r ih =>
      intro hs hl
      obtain ⟨hk, ⟨L, o, hf, hn, ho, hd⟩, hr⟩ := hl
      have hL : L ∈ X.fs := hs L (by unfold frs; rw [List.filterMap_cons, hf]; exact List.mem_cons_self)
      obtain ⟨sl, e⟩ := I.base.slot L o ho (I.ok.frf L hL) hL fun z => I.ok.exfs L z hL
      exact ⟨hk, ⟨L, _, hf, hn, e, hd⟩, ih (fun b hb => hs b (by unfold frs; rw [List.filterMap_cons, hf]; exact List.mem_cons_of_mem _ hb)) hr⟩
  exact all X.outer (fun _ hb => hb) I.ok.funs
theorem Inv.stack (I : Inv X pins σ H s) : s.heap.FunFrames X.base X.stack := by
  rcases I.ok.stk with e | ⟨e, hf⟩
  · rw [e]; exact I.funs
  · rw [e]
    obtain ⟨m, hn, _⟩ := I.loc
    refine .cons (by rw [I.ok.kind]; decide) hf hn ?_ I.funs
    exact Heap.get?_none_of_le (Nat.le_trans I.ok.bsz I.ok.above)
theorem Inv.stkSub (I : Inv X pins σ H s) : ∀ b ∈ frs X.stack, b ∈ X.env.locals :: X.fs := fun b hb => by
  rcases I.ok.stk with e | ⟨e, hf⟩
  · rw [e] at hb; exact List.mem_cons_of_mem _ hb
  · rw [e] at hb
    unfold frs at hb
    rw [List.filterMap_cons, hf] at hb
    exact hb
theorem Inv.stkFree (I : Inv X pins σ H s) : ∀ b ∈ frs X.stack, H b = none := fun b hb => by
  rcases List.mem_cons.mp (I.stkSub b hb) with e | hb
  · rw [e]; exact I.free
  · obtain ⟨_, o, ho, _⟩ := I.ok.funs.mem hb
    exact I.base.free b o ho (I.ok.frf b hb) fun z => I.ok.exfs b z hb
theorem Inv.step {g' : Array GenState} {t' : Nat} {d' : Drawn} {ch : List Addr} (I : Inv X pins σ H s)
    (hch : ∀ b ∈ ch, (b ∈ X.ex ∨ X.s₀.heap.objs.size ≤ b) ∧ b ≠ X.env.locals ∧ (∀ x c, X.env.cells.lookup x = some c → c ≠ b) ∧ ∀ p ∈ X.pn ++ pins, p.1 ≠ b)
    (keep : ∀ b o, b ≠ X.env.locals → b ∉ X.fs → b ∉ ch → s.heap.get? b = some o → H b = none → h'.get? b = some o)
    (slot : ∀ b o, b ≠ X.env.locals → b ∈ X.fs → b ∉ ch → s.heap.get? b = some o → H b = none → ∃ sl, h'.get? b = some { o with slots := sl }) (free : ∀ b o, b ∉ ch → s.heap.get? b = some o → H b = none → H' b = none)
    (there : ∀ b o, b ∉ ch → s.heap.get? b = some o → ∃ o', h'.get? b = some o')
    (tups : ∀ b xs, H b = some (.tup xs) → H' b = some (.tup xs)) (frzs : ∀ b o u, H b = some (.frz o u) → H' b = some (.frz o u)) (tbls : ∀ b ps, H b = some (.tbl ps) → ∃ more, H' b = some (.tbl (ps ++ more)))
    (ns : ∀ m, s.heap.Ns X.env.locals m → h'.Ns X.env.locals m) (hok : HOk X.prog X.w H' h') (hg : AllBare g') :
    Inv X pins σ H' { s with heap := h', gens := g', drawn := d', toks := t' } := by
  have neL : ∀ b o, X.s₀.heap.get? b = some o → b ≠ X.env.locals := fun b o e => Nat.ne_of_lt (Nat.lt_of_lt_of_le (Heap.lt_size e) I.ok.above)
  have neC : ∀ b o, X.s₀.heap.get? b = some o → b ∉ X.ex → b ∉ ch := fun b o e hx hb => by
    rcases (hch b hb).1 with z | z
    · exact hx z
    · exact absurd (Nat.lt_of_lt_of_le (Heap.lt_size e) z) (Nat.lt_irrefl _)
  have cellK : ∀ x c, X.env.cells.lookup x = some c → ∀ v, s.heap.IsCell c v → h'.IsCell c v := fun x c e v ⟨o, ho, hd⟩ => by
    have nch : c ∉ ch := fun z => (hch c z).2.2.1 x c e rfl
    by_cases hc : c ∈ X.fs
    · obtain ⟨sl, q⟩ := slot c o (I.cne x c e) hc nch ho (I.freeC x c e)
      exact ⟨_, q, hd⟩
    · exact ⟨o, keep c o (I.cne x c e) hc nch ho (I.freeC x c e), hd⟩
  refine ⟨I.ok, I.os, hg, ⟨fun b o e n hb hx => ?_, fun b o e n hb hx => ?_, fun b o e n hx => ?_, fun b o e hx => ?_, fun b xs e => tups b xs (I.base.tups b xs e), fun b o xs e => frzs b o xs (I.base.frzs b o xs e), fun b ps e => ?_⟩, ?_, fun x c e => ?_, ?_, fun x c e => ?_, fun p hp => ?_, hok, I.len⟩
  · exact keep b o (neL b o e) hb (neC b o e hx) (I.base.keep b o e n hb hx) (I.base.free b o e n hx)
  · obtain ⟨sl, e1⟩ := I.base.slot b o e n hb hx
    obtain ⟨sl', e2⟩ := slot b _ (neL b o e) hb (neC b o e hx) e1 (I.base.free b o e n hx)
    exact ⟨sl', e2⟩
  · obtain ⟨o', e1⟩ := I.base.there b o e hx
    exact free b o' (neC b o e hx) e1 (I.base.free b o e n hx)
  · obtain ⟨o', e1⟩ := I.base.there b o e hx
    exact there b o' (neC b o e hx) e1
  · obtain ⟨m1, e1⟩ := I.base.tbls b ps e
    obtain ⟨m2, e2⟩ := tbls b _ e1
    exact ⟨m1 ++ m2, by rw [e2, Array.append_assoc]⟩
  · obtain ⟨m, hn, hl⟩ := I.loc
    refine ⟨m, ns m hn, fun i x v e1 e2 e3 => ?_⟩
    obtain ⟨u, r, l⟩ := hl i x v e1 e2 e3
    refine ⟨u, r, ?_⟩
    rcases l with l | ⟨k, c, e, z⟩
    · exact .inl l
    · exact .inr ⟨k, c, e, cellK x c e _ z⟩
  · obtain ⟨v, z⟩ := I.cell x c e
    exact ⟨v, cellK x c e v z⟩
  · obtain ⟨m, ⟨o, _, _, ho, _⟩, _⟩ := I.loc
    exact free _ o (fun z => (hch _ z).2.1 rfl) ho I.free
  · obtain ⟨v, o, ho, hd⟩ := I.cell x c e
    exact free c o (fun z => (hch c z).2.2.1 x c e rfl) ho (I.freeC x c e)
  · obtain ⟨e, n, ne, nf, d⟩ := I.pin p hp
    have nch : p.1 ∉ ch := fun z => (hch p.1 z).2.2.2 p hp rfl
    exact ⟨keep p.1 p.2 ne nf nch e n, free p.1 p.2 nch e n, ne, nf, d⟩
theorem Inv.un {t' : Nat} (I : Inv X pins σ H s) (u : Un X.fs [] H H' s.heap h') (hok : HOk X.prog X.w H' h') : Inv X pins σ H' { s with heap := h', toks := t' } := by
  obtain ⟨m, ⟨o, es, ep, ho, r⟩, _⟩ := id I.loc
  obtain ⟨sl, hL⟩ := u.any ho I.free (by simp)
  exact I.step (g' := s.gens) (d' := s.drawn) (ch := []) (fun _ z => nomatch z) (fun b o _ hb _ e n => u.keep b o e n hb (by simp)) (fun b o _ hb _ e n => u.slot b o e n hb (by simp)) (fun b o _ e n => u.free b o e n (by simp)) (fun b o _ e => u.there b o e (by simp)) u.tups u.frzs u.tbls (fun m' hm => by
    obtain ⟨o', es', ep', ho', r'⟩ := hm
    rw [ho] at ho'; cases ho'
    exact ⟨_, es', ep', hL, r'⟩) hok I.bare
theorem Inv.call {g' : Array GenState} {t' : Nat} {d' : Drawn} {ch : List Addr} (I : Inv X pins σ H s) (u : Un (frs X.stack) ch H H' s.heap h') (hok : HOk X.prog X.w H' h') (hg : AllBare g')
    (hch : ∀ b ∈ ch, (b ∈ X.ex ∨ X.s₀.heap.objs.size ≤ b) ∧ b ≠ X.env.locals ∧ (∀ x c, X.env.cells.lookup x = some c → c ≠ b) ∧ ∀ p ∈ X.pn ++ pins, p.1 ≠ b) :
    Inv X pins σ H' { s with heap := h', gens := g', drawn := d', toks := t' } := by
  obtain ⟨m, ⟨o, es, ep, ho, r⟩, _⟩ := id I.loc
  obtain ⟨sl, hL⟩ := u.any ho I.free fun z => (hch _ z).2.1 rfl
  exact I.step (ch := ch) hch (fun b o hL hb hc e n => u.keep b o e n (fun z => (List.mem_cons.mp (I.stkSub b z)).elim hL hb) hc) (fun b o _ _ hc e n => u.any e n hc) (fun b o hc e n => u.free b o e n hc) (fun b o hc e => u.there b o e hc) u.tups u.frzs u.tbls (fun m' hm => by
    obtain ⟨o', es', ep', ho', r'⟩ := hm
    rw [ho] at ho'; cases ho'
    exact ⟨_, es', ep', hL, r'⟩) hok hg
theorem Inv.turned {t' : Nat} {it : Addr} (I : Inv X pins σ H s) (k : ∀ b o, b ≠ it → s.heap.get? b = some o → h'.get? b = some o) (hn : H it = none) (hL : it ≠ X.env.locals)
    (h1 : it ∈ X.ex ∨ X.s₀.heap.objs.size ≤ it) (h2 : ∀ x c, X.env.cells.lookup x = some c → c ≠ it) (h3 : ∀ p ∈ X.pn ++ pins, p.1 ≠ it) : Inv X pins σ H { s with heap := h', toks := t' } := by
  have nit : ∀ b u, H b = some u → b ≠ it := fun b u e z => by rw [z, hn] at e; cases e
  refine I.step (g' := s.gens) (d' := s.drawn) (ch := [it]) (fun b hb => ?_) (fun b o _ _ hc e _ => k b o (fun z => hc (by simp [z])) e) (fun b o _ _ hc e _ => ⟨o.slots, k b o (fun z => hc (by simp [z])) e⟩) (fun _ _ _ _ n => n)
    (fun b o hc e => ⟨o, k b o (fun z => hc (by simp [z])) e⟩) (fun _ _ e => e) (fun _ _ _ e => e) (fun b ps e => ⟨#[], by rw [e]; simp⟩) (fun m hm => ?_) (fun b u e => ?_) I.bare
  · have e : b = it := by simpa using hb
    subst e
    exact ⟨h1, hL, h2, h3⟩
  · obtain ⟨o, es, ep, ho, r⟩ := hm
    exact ⟨o, es, ep, k _ o (Ne.symm hL) ho, r⟩
  · refine (I.hok b u e).stay (fun c v hc q => k c v ?_ q) (fun _ q => q) fun _ _ q => q
    rcases hc with z | z
    · rw [z]; exact nit b u e
    · exact nit c _ z
theorem Inv.tok (I : Inv X pins σ H s) (t : Nat) : Inv X pins σ H { s with toks := t } := I.un (h' := s.heap) (t' := t) Un.refl I.hok
theorem Inv.kept {t' : Nat} (I : Inv X pins σ H s) (k : ∀ b u, s.heap.get? b = some u → h'.get? b = some u) : Inv X pins σ H { s with heap := h', toks := t' } := I.un (Un.kept k) (I.hok.kept k)
theorem Inv.laid {a : Addr} {o : HO} {t' : Nat} (I : Inv X pins σ H s) (k : ∀ b u, s.heap.get? b = some u → h'.get? b = some u) (hp : s.heap.objs.size ≤ a) (new : ObjOk X.prog X.w (upd H a o) h' a o) :
    Inv X pins σ (upd H a o) { s with heap := h', toks := t' } := I.un (Un.laid k hp (I.hok.fresh hp)) (I.hok.laid k hp new)
theorem Inv.write {x e : Addr} {o : HO} {t' : Nat} (I : Inv X pins σ H s) (mu : Mut (H x)) (he : e = x ∨ H e = some (.own x)) (k : ∀ b u, b ≠ e → s.heap.get? b = some u → h'.get? b = some u) (heo : ∃ u, h'.get? e = some u)
    (new : ObjOk X.prog X.w (upd H x o) h' x o) : Inv X pins σ (upd H x o) { s with heap := h', toks := t' } := I.un (Un.write mu he k heo) (I.hok.write mu he k heo new)
theorem Inv.pins_of {pins' : List (Addr × Obj)} (I : Inv X pins σ H s) (h : ∀ p ∈ pins', s.heap.get? p.1 = some p.2 ∧ H p.1 = none ∧ p.1 ≠ X.env.locals ∧ p.1 ∉ X.fs ∧ ∀ v, p.2.data ≠ .cell v) : Inv X pins' σ H s :=
  ⟨I.ok, I.os, I.bare, I.base, I.loc, I.cell, I.free, I.freeC, fun p hp => (List.mem_append.mp hp).elim (fun z => I.pin p (List.mem_append_left _ z)) (h p), I.hok, I.len⟩
theorem nodup_ix {N : List Str} (hN : N.Nodup) {i j : Nat} {x : Str} (a : N[i]? = some x) (b : N[j]? = some x) : i = j := by
  obtain ⟨h1, e1⟩ := List.getElem?_eq_some_iff.mp a
  obtain ⟨h2, e2⟩ := List.getElem?_eq_some_iff.mp b
  exact (List.getElem_inj hN).mp (e1.trans e2.symm)
theorem store_ok2 {M : Model} {A : Around} {E : Value → Shared → Prop} {i : Nat} {x : Str} {v : V} {u : Value} {Q : Unit → Shared → Prop} (I : Inv X pins σ H s) (hN : X.N.Nodup) (hi : X.N[i]? = some x) (hx : Loc X.env.scope x) (r : RelV v u)
    (h : ∀ s', Inv X pins (σ.set i (some v)) H s' → (∃ a, Heap.SameBut a s.heap s'.heap ∧ (a = X.env.locals ∨ X.env.cells.lookup x = some a)) → Q () s') (hf : X.fn x = true ∨ X.env.scope.names.lookup x = some .local := by first | exact .inl rfl | exact .inr rfl | assumption) : wpAny M A (storeName X.env x u) Q E s := by
  obtain ⟨m, hn, hl⟩ := id I.loc
  have hcls : (X.env.scope.kind == .class || (X.env.scope.kind == .module && X.env.locals != X.env.globals)) = false := by rw [I.ok.kind]; rfl
  have hiσ : i < σ.length := by rw [I.len]; exact (List.getElem?_eq_some_iff.mp hi).1
  have cne := I.cne
  have tracked : ∀ {a : Addr} {h' : Heap}, (∃ o, s.heap.get? a = some o ∧ H a = none) → Heap.SameBut a s.heap h' → HOk X.prog X.w H h' := fun {a h'} ha hs b ob e => by
    obtain ⟨_, _, hfree⟩ := ha
    refine (I.hok b ob e).stay (fun c w' hc q => (hs.2 c ?_).trans q) (fun _ q => q) fun _ _ q => q
    rintro rfl
    rcases hc with rfl | hc
    · rw [hfree] at e; cases e
    · rw [hfree] at hc; cases hc
  rcases hx with hk | hk
  · refine wpAny_storeName_local hk hn (fun h' hn' hs => ?_) hcls
    obtain ⟨oL, _, _, hoL, _⟩ := id hn
    refine h _ ⟨I.ok, I.os, I.bare, ⟨fun b o e n hb hx => ?_, fun b o e n hb hx => ?_, I.base.free, fun b o e hx => ?_, I.base.tups, I.base.frzs, I.base.tbls⟩, ⟨_, hn', fun j y v' e1 e2 e3 => ?_⟩, fun y c e => ?_, I.free, I.freeC, fun p hp => ?_, tracked ⟨oL, hoL, I.free⟩ hs, by simpa using I.len⟩ ⟨_, hs, .inl rfl⟩
    · exact (hs.2 b (Nat.ne_of_lt (Nat.lt_of_lt_of_le (Heap.lt_size e) I.ok.above))).trans (I.base.keep b o e n hb hx)
    · obtain ⟨sl, e1⟩ := I.base.slot b o e n hb hx
      exact ⟨sl, (hs.2 b (Nat.ne_of_lt (Nat.lt_of_lt_of_le (Heap.lt_size e) I.ok.above))).trans e1⟩
    · obtain ⟨o', e1⟩ := I.base.there b o e hx
      exact ⟨o', (hs.2 b (Nat.ne_of_lt (Nat.lt_of_lt_of_le (Heap.lt_size e) I.ok.above))).trans e1⟩
    · by_cases hj : j = i
      · subst hj
        rw [hi] at e1; cases e1
        rw [List.getElem?_set_self hiσ] at e2
        cases e2
        exact ⟨u, r, .inl ⟨hk, by simp⟩⟩
      · rw [List.getElem?_set_ne (Ne.symm hj)] at e2
        obtain ⟨u', r', q⟩ := hl j y v' e1 e2 e3
        refine ⟨u', r', ?_⟩
        rcases q with ⟨k, e⟩ | ⟨k, c, e, z⟩
        · refine .inl ⟨k, ?_⟩
          have : y ≠ x := fun e => hj (nodup_ix hN e1 (e ▸ hi))
          simp [this, e]
        · exact .inr ⟨k, c, e, z.sameBut hs (cne y c e)⟩
    · obtain ⟨w', z⟩ := I.cell y c e
      exact ⟨w', z.sameBut hs (cne y c e)⟩
    · obtain ⟨e, n, ne, nf, d⟩ := I.pin p hp
      exact ⟨(hs.2 p.1 ne).trans e, n, ne, nf, d⟩
  · have hfn : X.fn x = true := by
      rcases hf with z | z
      · exact z
      · rw [z] at hk; cases hk
    obtain ⟨c, hc⟩ := I.ok.has x (.inl hk)
    obtain ⟨w', z⟩ := I.cell x c hc
    refine wpAny_storeName_cell I.ok.kind hk hc z (fun h' hc' hs => ?_)
    obtain ⟨oc, hoc, hocd⟩ := id z
    refine h { s with heap := h' } ⟨I.ok, I.os, I.bare, ⟨fun b o e n hb hx => ?_, fun b o e n hb hx => ?_, I.base.free, fun b o e hx => ?_, I.base.tups, I.base.frzs, I.base.tbls⟩, ⟨m, hn.sameBut hs (Ne.symm (cne x c hc)), fun j y v' e1 e2 e3 => ?_⟩, fun y c' e => ?_, I.free, I.freeC, fun p hp => ?_, tracked ⟨oc, hoc, I.freeC x c hc⟩ hs, by simpa using I.len⟩ ⟨c, hs, .inr hc⟩
    · exact (hs.2 b (Nat.ne_of_lt (Nat.lt_of_lt_of_le (Heap.lt_size e) (I.ok.cab x c hfn hc)))).trans (I.base.keep b o e n hb hx)
    · obtain ⟨sl, e1⟩ := I.base.slot b o e n hb hx
      exact ⟨sl, (hs.2 b (Nat.ne_of_lt (Nat.lt_of_lt_of_le (Heap.lt_size e) (I.ok.cab x c hfn hc)))).trans e1⟩
    · obtain ⟨o', e1⟩ := I.base.there b o e hx
      exact ⟨o', (hs.2 b (Nat.ne_of_lt (Nat.lt_of_lt_of_le (Heap.lt_size e) (I.ok.cab x c hfn hc)))).trans e1⟩
    · by_cases hj : j = i
      · subst hj
        rw [hi] at e1; cases e1
        rw [List.getElem?_set_self hiσ] at e2
        cases e2
        exact ⟨u, r, .inr ⟨.inl hk, c, hc, hc'⟩⟩
      · rw [List.getElem?_set_ne (Ne.symm hj)] at e2
        obtain ⟨u', r', q⟩ := hl j y v' e1 e2 e3
        refine ⟨u', r', ?_⟩
        rcases q with q | ⟨k, c', e, z'⟩
        · exact .inl q
        · refine .inr ⟨k, c', e, z'.sameBut hs ?_⟩
          rintro rfl
          exact hj (nodup_ix hN e1 (I.ok.inj _ _ _ e hc ▸ hi))
    · by_cases hcc : c' = c
      · subst hcc; exact ⟨_, hc'⟩
      · obtain ⟨w2, z2⟩ := I.cell y c' e
        exact ⟨w2, z2.sameBut hs hcc⟩
    · obtain ⟨e, n, ne, nf, d⟩ := I.pin p hp
      refine ⟨(hs.2 p.1 ?_).trans e, n, ne, nf, d⟩
      intro q
      rw [q, hoc] at e
      have q' : oc = p.2 := Option.some.inj e
      exact d w' (by rw [← q']; exact hocd)
theorem store_ok {M : Model} {A : Around} {E : Value → Shared → Prop} {i : Nat} {x : Str} {v : V} {u : Value} {Q : Unit → Shared → Prop} (I : Inv X pins σ H s) (hN : X.N.Nodup) (hi : X.N[i]? = some x) (hx : Loc X.env.scope x) (r : RelV v u)
    (h : ∀ s', Inv X pins (σ.set i (some v)) H s' → Q () s') (hf : X.fn x = true ∨ X.env.scope.names.lookup x = some .local := by first | exact .inl rfl | exact .inr rfl | assumption) : wpAny M A (storeName X.env x u) Q E s :=
  store_ok2 I hN hi hx r (fun s' I' _ => h s' I') hf
theorem Inv.call' {s' : Shared} {ch : List Addr} (I : Inv X pins σ H s) (ho : s'.os = s.os) (u : Un (frs X.stack) ch H H' s.heap s'.heap) (hok : HOk X.prog X.w H' s'.heap) (hg : AllBare s'.gens)
    (hch : ∀ b ∈ ch, (b ∈ X.ex ∨ X.s₀.heap.objs.size ≤ b) ∧ b ≠ X.env.locals ∧ (∀ x c, X.env.cells.lookup x = some c → c ≠ b) ∧ ∀ p ∈ X.pn ++ pins, p.1 ≠ b) : Inv X pins σ H' s' := by
  obtain ⟨h', g', d', t', o'⟩ := s'
  have e : o' = s.os := ho
  subst e
  exact I.call (g' := g') (t' := t') (d' := d') u hok hg hch
end
abbrev XK := Value → Option Addr → Hp → Prop
abbrev St := List (Option V)
abbrev VK := V → Hp → Prop
abbrev TE := St → Hp → VK → Prop
abbrev TT := St → Hp → (Bool → Hp → Prop) → Prop
abbrev TA := St → Hp → (List V → Hp → Prop) → Prop
structure Ends where
  nx : St → Hp → Prop
  rt : VK
  bk : St → Hp → Prop := fun _ _ => False
  ct : St → Hp → Prop := fun _ _ => False
abbrev TS := Ends → St → Hp → Prop
def EP (X : Cx) (pins : List (Addr × Obj)) (σ : St) (Q : VK) (u : Value) (s' : Shared) : Prop := ∃ v H', Inv X pins σ H' s' ∧ RelV v u ∧ Q v H'
def TP (X : Cx) (pins : List (Addr × Obj)) (σ : St) (Q : Bool → Hp → Prop) (b : Bool) (s' : Shared) : Prop := ∃ H', Inv X pins σ H' s' ∧ Q b H'
def AP (X : Cx) (pins : List (Addr × Obj)) (σ : St) (Q : List V → Hp → Prop) (us : List Value) (s' : Shared) : Prop := ∃ vs H', Inv X pins σ H' s' ∧ Vals vs us ∧ Q vs H'
def SP (X : Cx) (pins : List (Addr × Obj)) (D : Ends) (f : Flow) (s' : Shared) : Prop :=
  match f with
  | .next => ∃ σ' H', Inv X pins σ' H' s' ∧ D.nx σ' H'
  | .brk => ∃ σ' H', Inv X pins σ' H' s' ∧ D.bk σ' H'
  | .cont => ∃ σ' H', Inv X pins σ' H' s' ∧ D.ct σ' H'
  | .ret u => ∃ v σ' H', Inv X pins σ' H' s' ∧ RelV v u ∧ D.rt v H'
def PE (X : Cx) (e : Expr) (t : TE) : Prop :=
  ∀ (pins : List (Addr × Obj)) (s : Shared) (σ : St) (H : Hp) (Q : VK), Inv X pins σ H s → t σ H Q → wpAny (model X.prog X.w) X.A (eval e X.env) (EP X pins σ Q) X.xe s
def PT (X : Cx) (e : Expr) (t : TT) : Prop :=
  ∀ (pins : List (Addr × Obj)) (s : Shared) (σ : St) (H : Hp) (Q : Bool → Hp → Prop), Inv X pins σ H s → t σ H Q → wpAny (model X.prog X.w) X.A (isTrue e X.env (eval e X.env)) (TP X pins σ Q) X.xe s
def PW (X : Cx) (e : Expr) (t : TT) : Prop :=
  ∀ (whole : Sem Value) (pins : List (Addr × Obj)) (s : Shared) (σ : St) (H : Hp) (Q : Bool → Hp → Prop), Inv X pins σ H s → t σ H Q → wpAny (model X.prog X.w) X.A (isTrue e X.env whole) (TP X pins σ Q) X.xe s
theorem PW.pt {X : Cx} {e : Expr} {t : TT} (h : PW X e t) : PT X e t := h _
def PA (X : Cx) (es : List Expr) (t : TA) : Prop :=
  ∀ (pos : Pos) (pins : List (Addr × Obj)) (s : Shared) (σ : St) (H : Hp) (Q : List V → Hp → Prop), Inv X pins σ H s → t σ H Q → wpAny (model X.prog X.w) X.A (spliced (backTo pos (starEach es X.env))) (AP X pins σ Q) X.xe s
def PS (X : Cx) (st : Stmt) (t : TS) : Prop :=
  ∀ (pins : List (Addr × Obj)) (s : Shared) (σ : St) (H : Hp) (D : Ends), Inv X pins σ H s → t D σ H → wpAny (model X.prog X.w) X.A (exec st X.env) (SP X pins D) X.xe s
def PSs (X : Cx) (st : List Stmt) (t : TS) : Prop :=
  ∀ (pins : List (Addr × Obj)) (s : Shared) (σ : St) (H : Hp) (D : Ends), Inv X pins σ H s → t D σ H → wpAny (model X.prog X.w) X.A (execs st X.env) (SP X pins D) X.xe s
theorem thn {α : Type} {t : Sem α} {Q Q' : α → Shared → Prop} {M : Model} {A : Around} {E : Value → Shared → Prop} {s : Shared} (h : wpAny M A t Q E s) (hQ : ∀ a s, Q a s → Q' a s) : wpAny M A t Q' E s := wpAny_mono h hQ fun _ _ x => x
end L2
namespace L2
open PySem PySem.Spec PyProof.Rows
section
variable {X : Cx}
def tVar (i : Nat) : TE := fun σ H Q => ∃ v, σ[i]? = some (some v) ∧ Q v H
def tC (v : V) : TE := fun _ H Q => Q v H
theorem pe_var {i : Nat} {x : Str} {pos : Pos} (hN : X.N[i]? = some x) (hv : Vis X.env.scope x) (hd : (x == ("__debug__" : Str)) = false := by decide) (hcd : (x == ("__classdict__" : Str)) = false := by decide) : PE X (.Name x pos) (tVar i) := by
  intro pins s σ H Q I h
  obtain ⟨v, e, h⟩ := h
  obtain ⟨m, hn, hl⟩ := I.loc
  obtain ⟨u, r, l⟩ := hl i x v hN e hv
  have fin : EP X pins σ Q u s := ⟨v, H, I, r, h⟩
  rcases l with ⟨hk, hm⟩ | ⟨hk, c, hc, hcell⟩
  · exact wpAny_Name (wpAny_loadName_local I.ok.kind hk hn hm fin) hd
  · rcases hk with hk | hk
    · exact wpAny_Name (wpAny_loadName_cell I.ok.kind hk hc hcell fin) hd
    · exact wpAny_Name (wpAny_loadName_free I.ok.kind hk hc hcell fin hcd) hd
theorem pe_int {i j pos} : PE X (.Constant (.int i) j pos) (tC (.int i)) := fun _ _ _ H _ I h => wpAny_Constant_int ⟨.int i, H, I.tok _, ⟨_, rfl⟩, h⟩
theorem pe_bl {b j pos} : PE X (.Constant (.bool b) j pos) (tC (.bl b)) := fun _ _ _ H _ I h => Constant_bool ⟨.bl b, H, I, rfl, h⟩
theorem pe_non {j pos} : PE X (.Constant .none j pos) (tC .non) := fun _ _ _ H _ I h => Constant_none ⟨.non, H, I, rfl, h⟩
theorem pe_str {x j pos} : PE X (.Constant (.str x) j pos) (tC (.str x)) := fun _ _ _ H _ I h => Calls.Constant_str ⟨.str x, H, I.tok _, ⟨_, rfl⟩, h⟩
def Gl (X : Cx) (x : Str) : Prop := X.env.kindOf x = some .globalImplicit
theorem ld_glob {E : Value → Shared → Prop} {pins : List (Addr × Obj)} {s : Shared} {σ : St} {H : Hp} {x : Str} {u : Value} {pos : Pos} {Q : Value → Shared → Prop} (I : Inv X pins σ H s) (hg : Gl X x) (hm : X.mg x = some u) (h : Q u s)
    (hd : (x == ("__debug__" : Str)) = false := by decide) : wpAny (model X.prog X.w) X.A (eval (.Name x pos) X.env) Q E s :=
  Calls.Name_function_global I.ok.kind hg (Calls.loadGlobal_global (by rw [I.ok.glob]; exact I.mod.glob.keeps I.bk) hm h) hd
theorem ld_blt {E : Value → Shared → Prop} {pins : List (Addr × Obj)} {s : Shared} {σ : St} {H : Hp} {x : Str} {u : Value} {pos : Pos} {Q : Value → Shared → Prop} (I : Inv X pins σ H s) (hg : Gl X x) (hm : X.mg x = none) (hv : bootBuiltins x = some u) (h : Q u s)
    (hn : x ≠ "__name__" := by decide) (hd : (x == ("__debug__" : Str)) = false := by decide) : wpAny (model X.prog X.w) X.A (eval (.Name x pos) X.env) Q E s := by
  obtain ⟨mb, h1, h2⟩ := I.mod.blt
  exact Calls.Name_function_global I.ok.kind hg (Calls.loadGlobal_builtin (by rw [I.ok.glob]; exact I.mod.glob.keeps I.bk) hm (by rw [I.ok.blt]; exact h1.keeps I.bk) ((h2 x hn).trans hv) h) hd
theorem pe_glob {x : Str} {v : V} {u : Value} {pos : Pos} (hg : Gl X x) (hm : X.mg x = some u) (r : RelV v u) (hd : (x == ("__debug__" : Str)) = false := by decide) : PE X (.Name x pos) (tC v) :=
  fun _ _ _ H _ I h => ld_glob I hg hm ⟨v, H, I, r, h⟩ hd
theorem pe_bltn {x : Str} {v : V} {u : Value} {pos : Pos} (hg : Gl X x) (hm : X.mg x = none) (hv : bootBuiltins x = some u) (r : RelV v u) (hn : x ≠ "__name__" := by decide) (hd : (x == ("__debug__" : Str)) = false := by decide) : PE X (.Name x pos) (tC v) :=
  fun _ _ _ H _ I h => ld_blt I hg hm hv ⟨v, H, I, r, h⟩ hn hd
variable {a b : Expr} {ta tb : TE} {pos : Pos}
def tB (t : TE) : TT := fun σ H Q => t σ H fun x H1 => ∃ c, x = .bl c ∧ Q c H1
theorem pt_val {e : Expr} {t : TE} (h : PE X e t) (he : ∀ whole, isTrue e X.env whole = (do let v ← whole; standAt e.pos; holding [v] (truthy v)) := by intro _; rfl) : PT X e (tB t) := by
  intro pins s σ H Q I hw
  refine isTrue_plain (thn (h pins s σ H _ I hw) fun v s1 ⟨x, H1, I1, r1, q1⟩ => ?_) (he _)
  obtain ⟨d, rfl, q⟩ := q1
  cases r1
  exact wpAny_truthy_bool ⟨H1, I1, q⟩
variable {tA tB' : TT} {rest : List Expr}
def tAnd (t u : TT) : TT := fun σ H Q => t σ H fun c H1 => if c = true then u σ H1 Q else Q false H1
def tOr (t u : TT) : TT := fun σ H Q => t σ H fun c H1 => if c = true then Q true H1 else u σ H1 Q
def tNot (t : TT) : TT := fun σ H Q => t σ H fun c H1 => Q (!c) H1
theorem pw_and1 (ha : PT X a tA) : PW X (.BoolOp .And [a] pos) tA := by
  intro wh pins s σ H Q I h
  refine isTrue_and (thn (ha pins s σ H Q I h) fun c s1 e => ?_)
  cases c with
  | true => exact isTrue_and_nil e
  | false => exact e
theorem pw_or1 (ha : PT X a tA) : PW X (.BoolOp .Or [a] pos) tA := by
  intro wh pins s σ H Q I h
  refine isTrue_or (thn (ha pins s σ H Q I h) fun c s1 e => ?_)
  cases c with
  | false => exact isTrue_or_nil e
  | true => exact e
theorem pw_and (ha : PT X a tA) (hb : PW X (.BoolOp .And (b :: rest) pos) tB') : PW X (.BoolOp .And (a :: b :: rest) pos) (tAnd tA tB') := by
  intro wh pins s σ H Q I h
  refine isTrue_and (thn (ha pins s σ H _ I h) fun c s1 ⟨H1, I1, q1⟩ => ?_)
  cases c with
  | true => exact hb wh pins s1 σ H1 Q I1 q1
  | false => exact ⟨H1, I1, q1⟩
theorem pw_or (ha : PT X a tA) (hb : PW X (.BoolOp .Or (b :: rest) pos) tB') : PW X (.BoolOp .Or (a :: b :: rest) pos) (tOr tA tB') := by
  intro wh pins s σ H Q I h
  refine isTrue_or (thn (ha pins s σ H _ I h) fun c s1 ⟨H1, I1, q1⟩ => ?_)
  cases c with
  | true => exact ⟨H1, I1, q1⟩
  | false => exact hb wh pins s1 σ H1 Q I1 q1
theorem pt_not (ha : PT X a tA) : PT X (.UnaryOp .Not a pos) (tNot tA) := by
  intro pins s σ H Q I h
  exact isTrue_not (ha pins s σ H (fun c H1 => Q (!c) H1) I h)
def tAndV (ta tb : TE) : TE := fun σ H Q => ta σ H fun x H1 => ∃ c, x = .bl c ∧ if c = true then tb σ H1 Q else Q (.bl false) H1
def tNotV (ta : TE) : TE := fun σ H Q => ta σ H fun x H1 => ∃ c, x = .bl c ∧ Q (.bl (!c)) H1
theorem pe_one {op} {t : TE} (h : PE X a t) : PE X (.BoolOp op [a] pos) t := fun pins s σ H Q I hw => BoolOp_one (h pins s σ H Q I hw)
theorem pe_and (ha : PE X a ta) (hb : PE X (.BoolOp .And (b :: rest) pos) tb) : PE X (.BoolOp .And (a :: b :: rest) pos) (tAndV ta tb) := by
  intro pins s σ H Q I h
  refine BoolOp_and (thn (ha pins s σ H _ I h) fun v s1 ⟨x, H1, I1, r1, q1⟩ => ?_)
  obtain ⟨c, rfl, q1⟩ := q1
  cases r1
  refine wpAny_truthy_bool ?_
  cases c with
  | true => exact hb pins s1 σ H1 Q I1 q1
  | false => exact ⟨.bl false, H1, I1, rfl, q1⟩
theorem pe_not (ha : PE X a ta) : PE X (.UnaryOp .Not a pos) (tNotV ta) := by
  intro pins s σ H Q I h
  refine UnaryOp_ (thn (ha pins s σ H _ I h) fun v s1 ⟨x, H1, I1, r1, q1⟩ => ?_)
  obtain ⟨c, rfl, q1⟩ := q1
  cases r1
  exact not_of (wpAny_truthy_bool ⟨.bl (!c), H1, I1, rfl, q1⟩)
end
end L2
namespace L2
open PySem PySem.Spec PyProof.Rows
def SqL (K : PySem.W.Frag) (H : Hp) (a : Addr) (xs : List V) : Prop :=
  Rd H a (.lst xs) ∨
    ∃ (o : Obj) (its : Array Value) (n : Nat), K.lookup a = some o ∧ o.cls = .type "list" ∧ o.dict = none ∧ o.data = .seq its n ∧ its.size ≤ sizeLine ∧ Vals xs its.toList
def SqT (K : PySem.W.Frag) (H : Hp) (a : Addr) (xs : List V) : Prop :=
  Rd H a (.tup xs) ∨
    ∃ (o : Obj) (its : Array Value) (n : Nat), K.lookup a = some o ∧ o.cls = .type "tuple" ∧ o.data = .seq its n ∧ its.size ≤ sizeLine ∧ Vals xs its.toList
def absV : Value → Option V
  | .none => some .non
  | .bool b => some (.bl b)
  | .int i _ => some (.int i)
  | .str x _ => some (.str x)
  | .bytes b _ => some (.byt b)
  | .float b _ => some (.flt b)
  | .ref a => some (.ref a)
  | .type n => some (.ty n)
  | _ => none
theorem RelV.abs {x : V} {u : Value} (r : RelV x u) : absV u = some x := by
  cases x with
  | non => cases r; rfl
  | bl _ => cases r; rfl
  | int _ => obtain ⟨t, rfl⟩ := r; rfl
  | str _ => obtain ⟨t, rfl⟩ := r; rfl
  | byt _ => obtain ⟨t, rfl⟩ := r; rfl
  | flt _ => obtain ⟨t, rfl⟩ := r; rfl
  | ref _ => cases r; rfl
  | ty _ => cases r; rfl
theorem RelV.inj {x y : V} {u : Value} (r : RelV x u) (q : RelV y u) : x = y := Option.some.inj (r.abs.symm.trans q.abs)
theorem Vals.inj : ∀ {xs ys : List V} {us : List Value}, Vals xs us → Vals ys us → xs = ys
  | _, _, _, .nil, .nil => rfl
  | _, _, _, .cons r t, .cons r' t' => by rw [r.inj r', Vals.inj t t']
section
variable {X : Cx} {pins : List (Addr × Obj)} {σ : St} {H : Hp} {s : Shared} {a : Addr} {xs ys : List V}
theorem SqL.of {K : PySem.W.Frag} (h : H a = some (.lst xs)) : SqL K H a xs := .inl (.inl h)
theorem SqT.of {K : PySem.W.Frag} (h : H a = some (.tup xs)) : SqT K H a xs := .inl (.inl h)
theorem Inv.list (I : Inv X pins σ H s) (h : SqL X.K H a xs) : ∃ its : List Value, Vals xs its ∧ PlainL s.heap a its.toArray ∧ xs.length ≤ sizeLine := by
  rcases h with h | ⟨o, its, n, hk, hc, hd, hs, hz, r⟩
  · obtain ⟨z, its, n, r, e⟩ := h.ok I.hok
    exact ⟨its, r, ⟨_, n, e, rfl, rfl, rfl⟩, z⟩
  · refine ⟨its.toList, r, ⟨o, n, I.kIn a o hk, hc, hd, by simpa using hs⟩, ?_⟩
    have e := r.length
    simp only [Array.length_toList] at e
    omega
theorem Inv.tuple (I : Inv X pins σ H s) (h : SqT X.K H a xs) : ∃ its : List Value, Vals xs its ∧ IsTup s.heap a its.toArray ∧ xs.length ≤ sizeLine := by
  rcases h with h | ⟨o, its, n, hk, hc, hs, hz, r⟩
  · obtain ⟨z, its, r, p⟩ := h.ok I.hok
    exact ⟨its, r, p, z⟩
  · refine ⟨its.toList, r, ⟨o, I.kIn a o hk, hc, n, by simpa using hs⟩, ?_⟩
    have e := r.length
    simp only [Array.length_toList] at e
    omega
theorem Inv.list_inj (I : Inv X pins σ H s) (h : SqL X.K H a xs) (h' : SqL X.K H a ys) : xs = ys := by
  obtain ⟨its, r, ⟨o, n, e, _, _, d⟩, _⟩ := I.list h
  obtain ⟨its', r', ⟨o', n', e', _, _, d'⟩, _⟩ := I.list h'
  rw [e] at e'; cases e'
  rw [d] at d'
  injection d' with d1 _
  have : its = its' := by simpa using congrArg Array.toList d1
  subst this
  exact r.inj r'
theorem Inv.tuple_inj (I : Inv X pins σ H s) (h : SqT X.K H a xs) (h' : SqT X.K H a ys) : xs = ys := by
  obtain ⟨its, r, ⟨o, e, _, n, d⟩, _⟩ := I.tuple h
  obtain ⟨its', r', ⟨o', e', _, n', d'⟩, _⟩ := I.tuple h'
  rw [e] at e'; cases e'
  rw [d] at d'
  injection d' with d1 _
  have : its = its' := by simpa using congrArg Array.toList d1
  subst this
  exact r.inj r'
end
abbrev Cx.wish (X : Cx) (E : Value → Shared → Prop) : Cx := { X with xe := E }
abbrev Cx.nox (X : Cx) : Cx := X.wish fun _ _ => False
theorem Cx.Ok.wish {X : Cx} (ok : X.Ok) (E : Value → Shared → Prop) : (X.wish E).Ok :=
  ⟨ok.mod, ok.kind, ok.glob, ok.blt, ok.above, ok.inj, ok.has, ok.cab, ok.hd, ok.frames, ok.stk, ok.exf, ok.bs, ok.bsz, ok.noex, ok.exfs, ok.funs, ok.frf⟩
theorem Cx.Ok.unwish {X : Cx} {E : Value → Shared → Prop} (ok : (X.wish E).Ok) : X.Ok :=
  ⟨ok.mod, ok.kind, ok.glob, ok.blt, ok.above, ok.inj, ok.has, ok.cab, ok.hd, ok.frames, ok.stk, ok.exf, ok.bs, ok.bsz, ok.noex, ok.exfs, ok.funs, ok.frf⟩
section
variable {X : Cx} {pins : List (Addr × Obj)} {σ : St} {H : Hp} {s : Shared} {E : Value → Shared → Prop}
theorem Inv.wish (I : Inv X pins σ H s) (E : Value → Shared → Prop) : Inv (X.wish E) pins σ H s := ⟨I.ok.wish E, I.os, I.bare, I.base, I.loc, I.cell, I.free, I.freeC, I.pin, I.hok, I.len⟩
theorem Inv.unwish (I : Inv (X.wish E) pins σ H s) : Inv X pins σ H s := ⟨I.ok.unwish, I.os, I.bare, I.base, I.loc, I.cell, I.free, I.freeC, I.pin, I.hok, I.len⟩
theorem SP.unwish {D : Ends} {f : Flow} {s' : Shared} (h : SP (X.wish E) pins D f s') : SP X pins D f s' := by
  cases f with
  | next => obtain ⟨σ', H', I, q⟩ := h; exact ⟨σ', H', I.unwish, q⟩
  | brk => obtain ⟨σ', H', I, q⟩ := h; exact ⟨σ', H', I.unwish, q⟩
  | cont => obtain ⟨σ', H', I, q⟩ := h; exact ⟨σ', H', I.unwish, q⟩
  | ret u => obtain ⟨v, σ', H', I, r, q⟩ := h; exact ⟨v, σ', H', I.unwish, r, q⟩
theorem PSs.nox {st : List Stmt} {t : TS} (h : PSs X.nox st t) : PSs X st t := fun pins s σ H D I hw =>
  wpAny_mono (h pins s σ H D (I.wish _) hw) (fun _ _ q => q.unwish) fun _ _ z => False.elim z
end
section
variable {X : Cx} {st : Stmt} {rest : List Stmt} {t u : TS} {e : Expr} {te : TE} {pos : Pos}
def tNext : TS := fun D σ H => D.nx σ H
def tSeq (t u : TS) : TS := fun D σ H => t { D with nx := u D } σ H
theorem pss_nil : PSs X [] tNext := fun _ _ σ H _ I h => wpAny_execs_nil ⟨σ, H, I, h⟩
theorem pss_cons (h1 : PS X st t) (h2 : PSs X rest u) : PSs X (st :: rest) (tSeq t u) := by
  intro pins s σ H D I h
  refine wpAny_execs_cons (thn (h1 pins s σ H { D with nx := u D } I h) fun f s1 q => ?_)
  cases f with
  | next =>
    obtain ⟨σ', H', I', q⟩ := q
    exact h2 pins s1 σ' H' D I' q
  | ret v => exact q
  | brk => exact q
  | cont => exact q
theorem pss_one (h1 : PS X st t) : PSs X [st] t := by
  intro pins s σ H D I h
  refine wpAny_execs_cons (thn (h1 pins s σ H D I h) fun f s1 q => ?_)
  cases f with
  | next => exact wpAny_execs_nil q
  | ret v => exact q
  | brk => exact q
  | cont => exact q
theorem Inv.quiet {pins : List (Addr × Obj)} {σ : St} {H : Hp} {s : Shared} (I : Inv X pins σ H s) : interactive X.env = false := by simp [interactive, I.ok.kind]
def tDrop (te : TE) : TS := fun D σ H => te σ H fun _ H1 => D.nx σ H1
theorem ps_expr (he : PE X e te) (hs : swapsWith e none pos.line X.env = pure false := by rfl) : PS X (.Expr e pos) (tDrop te) := by
  intro pins s σ H D I h
  exact wpAny_Expr_any (thn (he pins s σ H _ I h) fun v s1 ⟨x, H1, I1, r1, q1⟩ => ⟨σ, H1, I1, q1⟩) I.quiet hs
def tRet (te : TE) : TS := fun D σ H => te σ H D.rt
theorem ps_ret (he : PE X e te) : PS X (.Return (some e) pos) (tRet te) := by
  intro pins s σ H D I h
  exact wpAny_Return_some (thn (he pins s σ H _ I h) fun v s1 ⟨x, H1, I1, r1, q1⟩ => ⟨x, σ, H1, I1, r1, q1⟩)
def tIfS (c : TT) (t u : TS) : TS := fun D σ H => c σ H fun b H1 => if b = true then t D σ H1 else u D σ H1
theorem ps_if {c : Expr} {a b : List Stmt} {tc : TT} (hc : PT X c tc) (ha : PSs X a t) (hb : PSs X b u) : PS X (.If c a b pos) (tIfS tc t u) := by
  intro pins s σ H D I h
  refine wpAny_If (thn (hc pins s σ H _ I h) fun d s1 ⟨H1, I1, q1⟩ => ?_)
  cases d with
  | true => exact ha pins s1 σ H1 D I1 q1
  | false => exact hb pins s1 σ H1 D I1 q1
end
abbrev TG := V → St → Hp → (St → Hp → Prop) → Prop
abbrev TGs := List V → St → Hp → (St → Hp → Prop) → Prop
def PG (X : Cx) (target : Expr) (t : TG) : Prop :=
  ∀ (pins : List (Addr × Obj)) (s : Shared) (σ : St) (H : Hp) (v : V) (u : Value) (Q : St → Hp → Prop), Inv X pins σ H s → RelV v u → t v σ H Q →
    wpAny (model X.prog X.w) X.A (assign target X.env u) (fun _ s' => ∃ σ' H', Inv X pins σ' H' s' ∧ Q σ' H') X.xe s
def PGs (X : Cx) (ts : List Expr) (t : TGs) : Prop :=
  ∀ (pins : List (Addr × Obj)) (s : Shared) (σ : St) (H : Hp) (vs : List V) (us : List Value) (Q : St → Hp → Prop), Inv X pins σ H s → Vals vs us → t vs σ H Q →
    wpAny (model X.prog X.w) X.A (assignInOrder ((assignEach ts X.env).map (·.2)) us) (fun _ s' => ∃ σ' H', Inv X pins σ' H' s' ∧ Q σ' H') X.xe s
section
variable {X : Cx} {pos : Pos}
def gName (i : Nat) : TG := fun v σ H Q => Q (σ.set i (some v)) H
theorem pg_name {i : Nat} {x : Str} (hN : X.N.Nodup) (hi : X.N[i]? = some x) (hx : Loc X.env.scope x) (hf : X.fn x = true ∨ X.env.scope.names.lookup x = some .local := by first | exact .inl rfl | exact .inr rfl | assumption) : PG X (.Name x pos) (gName i) := by
  intro pins s σ H v u Q I r h
  exact wpAny_assign_Name (store_ok I hN hi hx r (fun s' I' => ⟨_, H, I', h⟩) hf)
def gNil : TGs := fun vs σ H Q => vs = [] ∧ Q σ H
def gCons (t : TG) (u : TGs) : TGs := fun vs σ H Q => ∃ v r, vs = v :: r ∧ t v σ H fun σ' H' => u r σ' H' Q
theorem pgs_nil : PGs X [] gNil := by
  intro pins s σ H vs us Q I r h
  obtain ⟨e, h⟩ := h
  subst e
  cases r
  exact assignInOrder_nil ⟨σ, H, I, h⟩
theorem pgs_cons {e : Expr} {es : List Expr} {t : TG} {u : TGs} (h1 : PG X e t) (h2 : PGs X es u)
    (hs : (assignEach (e :: es) X.env).map (·.2) = assign e X.env :: (assignEach es X.env).map (·.2) := by rfl) : PGs X (e :: es) (gCons t u) := by
  intro pins s σ H vs us Q I r h
  obtain ⟨v, vr, e1, h⟩ := h
  subst e1
  cases r with
  | cons r rr =>
    rw [hs]
    refine assignInOrder_cons (thn (h1 pins s σ H _ _ _ I r h) fun _ s1 ⟨σ1, H1, I1, q1⟩ => ?_)
    exact h2 pins s1 σ1 H1 _ _ Q I1 rr q1
def gTup (K : PySem.W.Frag) (n : Nat) (t : TGs) : TG := fun v σ H Q => ∃ a xs, v = .ref a ∧ SqT K H a xs ∧ xs.length = n ∧ t xs σ H Q
theorem pg_tup {es : List Expr} {k : Nat} {t : TGs} {n : Nat} (hc : X.calm = true) (h : PGs X es t)
    (hn : (assignEach es X.env).length = n := by rfl) (hst : (assignEach es X.env).findIdx? (·.1) = none := by rfl) : PG X (.Tuple es k pos) (gTup X.K n t) := by
  intro pins s σ H v u Q I r hw
  obtain ⟨a, xs, e1, hq, hl, hw⟩ := hw
  subst e1
  cases r
  obtain ⟨its, rv, ht, hz⟩ := I.tuple hq
  refine assign_Tuple_tuple (I.ok.hd hc) ht (by simp [hn, ← hl, rv.length]) hst fun h' hx => ?_
  have I1 : Inv X pins σ H { s with heap := h' } := I.kept (t' := s.toks) fun b o e => hx b o (Nat.ne_of_lt (Heap.lt_size e)) e
  exact h pins _ σ H xs _ Q I1 (by simpa using rv) hw
def tAsg (te : TE) (g : TG) : TS := fun D σ H => te σ H fun x H1 => g x σ H1 D.nx
theorem ps_set {i : Nat} {x : Str} {e : Expr} {te : TE} {pos' : Pos} (hN : X.N.Nodup) (hi : X.N[i]? = some x) (hx : Loc X.env.scope x) (he : PE X e te) (hs : swapsWith e (some (.Name x pos')) pos.line X.env = pure false := by rfl) (hf : X.fn x = true ∨ X.env.scope.names.lookup x = some .local := by first | exact .inl rfl | exact .inr rfl | assumption) :
    PS X (.Assign [.Name x pos'] e pos) (tAsg te (gName i)) := by
  intro pins s σ H D I h
  refine wpAny_Assign_Name (thn (he pins s σ H _ I h) fun v s1 ⟨y, H1, I1, r1, q1⟩ => ?_) hs
  exact store_ok I1 hN hi hx r1 (fun s2 I2 => ⟨_, H1, I2, q1⟩) hf
end
section
variable {X : Cx} {pos : Pos}
end
structure It where
  go : Nat → Hp → Prop
  yld : Nat → Hp → V → Hp → Prop
  stop : Nat → Hp → Prop
def FpOk (X : Cx) (pins : List (Addr × Obj)) (H : Hp) (b : Addr) : Prop :=
  H b = none ∧ b ≠ X.env.locals ∧ b ∉ X.fs ∧ (b ∈ X.ex ∨ X.s₀.heap.objs.size ≤ b) ∧ (∀ x c, X.env.cells.lookup x = some c → c ≠ b) ∧ ∀ p ∈ X.pn ++ pins, p.1 ≠ b
theorem Inv.fpOk {X : Cx} {pins : List (Addr × Obj)} {σ : St} {H H' : Hp} {s : Shared} {b : Addr} (I : Inv X pins σ H s) (hb : s.heap.objs.size ≤ b) (hn : H' b = none) : FpOk X pins H' b := by
  refine ⟨hn, Nat.ne_of_gt (Nat.lt_of_lt_of_le I.lt hb), I.nofs hb, .inr (Nat.le_trans I.sz hb), fun x c e z => ?_, fun p hp z => ?_⟩
  · obtain ⟨v, q⟩ := I.cell x c e
    exact absurd (Nat.lt_of_lt_of_le q.lt (by rw [z]; exact hb)) (Nat.lt_irrefl _)
  · exact absurd (Nat.lt_of_lt_of_le (Heap.lt_size (I.pin p hp).1) (by rw [z]; exact hb)) (Nat.lt_irrefl _)
structure Turn (P : Program) (w : World) (K : PySem.W.Frag) (tg : Expr) (J : It) (fp : List Addr) (it : Addr) (tn : Nat → Heap → Prop) : Prop where
  mem : it ∈ fp
  obj : ∀ i h, tn i h → ∀ b ∈ fp, ∃ o, h.get? b = some o ∧ ∀ v, o.data ≠ .cell v
  keep : ∀ i h h', tn i h → (∀ b ∈ fp, ∀ o, h.get? b = some o → h'.get? b = some o) → tn i h'
  item : ∀ (X : Cx), X.prog = P → X.w = w → X.K = K → X.calm = true → ∀ (i : Nat) (pins : List (Addr × Obj)) (s : Shared) (σ : St) (H : Hp) (E : Value → Shared → Prop), Inv X pins σ H s → (∀ b ∈ fp, FpOk X pins H b) → tn i s.heap → J.go i H →
    wpAny (model P w) X.A (pyNext (.ref it)) (fun r s1 => ∃ u, r = some u ∧
      wpAny (model P w) X.A (letOwnedTupleGo tg (.ref it) u) (fun _ s2 => ∃ x H', Inv X pins σ H' s2 ∧ RelV x u ∧ J.yld i H x H' ∧ tn (i + 1) s2.heap ∧ ∀ b ∈ fp, H' b = none) E s1) E s
  done : ∀ (X : Cx), X.prog = P → X.w = w → X.K = K → X.calm = true → ∀ (i : Nat) (pins : List (Addr × Obj)) (s : Shared) (σ : St) (H : Hp) (E : Value → Shared → Prop), Inv X pins σ H s → (∀ b ∈ fp, FpOk X pins H b) → tn i s.heap → J.stop i H →
    wpAny (model P w) X.A (pyNext (.ref it)) (fun r s1 => r = none ∧ Inv X pins σ H s1) E s
  self : ∀ (A : Around) (i : Nat) (s : Shared) (Q : Value → Shared → Prop) (E : Value → Shared → Prop), tn i s.heap → Q (.ref it) s → wpAny (model P w) A (pyIter (.ref it)) Q E s
abbrev TI := St → Hp → (It → Hp → Prop) → Prop
def PIE (X : Cx) (pins : List (Addr × Obj)) (σ : St) (tg : Expr) (R : It → Hp → Prop) (itv : Value) (s2 : Shared) : Prop :=
  ∃ (it : Addr) (fp : List Addr) (tn : Nat → Heap → Prop) (J : It) (H' : Hp), itv = .ref it ∧ Inv X pins σ H' s2 ∧ Turn X.prog X.w X.K tg J fp it tn ∧ tn 0 s2.heap ∧ (∀ b ∈ fp, FpOk X pins H' b) ∧ R J H'
def PI (X : Cx) (tg iter : Expr) (wi : TI) : Prop :=
  ∀ (pins : List (Addr × Obj)) (s : Shared) (σ : St) (H : Hp) (R : It → Hp → Prop), Inv X pins σ H s → wi σ H R →
    wpAny (model X.prog X.w) X.A (eval iter X.env) (fun v s1 => wpAny (model X.prog X.w) X.A (pyIter v) (PIE X pins σ tg R) X.xe s1) X.xe s
theorem go_of {M : Model} {A : Around} {E : Value → Shared → Prop} {s : Shared} {tg : Expr} {it : Addr} {u : Value} {o : Obj} {n : String} {vs : Array Value} {Q : Unit → Shared → Prop} (ho : s.heap.get? it = some o) (hc : o.cls = .type n) (hd : o.data = .fields vs)
    (hn : ["enumerate", "zip", "dict_itemiterator", "dict_reverseitemiterator", "odict_iterator", "itertools.zip_longest", "itertools.pairwise"].contains n = false) (hQ : Q () s) : wpAny M A (letOwnedTupleGo tg (.ref it) u) Q E s := by
  unfold letOwnedTupleGo
  cases tg <;> first
    | exact wpAny_pure hQ
    | (cases u <;> first
        | exact wpAny_pure hQ
        | (refine wpAny_bind (wpAny_load ho ?_)
           rw [hc, hd]
           show wpAny M A (if (["enumerate", "zip", "dict_itemiterator", "dict_reverseitemiterator", "odict_iterator", "itertools.zip_longest", "itertools.pairwise"].contains n && vs[0]? == some (rawInt _)) = true then _ else _) Q E s
           rw [if_neg (by intro h; rw [hn, Bool.false_and] at h; cases h)]
           exact wpAny_pure hQ))
def Itl (K : PySem.W.Frag) (a : Addr) : It :=
  ⟨fun i H => ∃ xs x, SqL K H a xs ∧ xs[i]? = some x, fun i H x H' => H' = H ∧ ∀ xs, SqL K H a xs → xs[i]? = some x, fun i H => ∃ xs, SqL K H a xs ∧ xs.length ≤ i⟩
def Itt (K : PySem.W.Frag) (a : Addr) : It :=
  ⟨fun i H => ∃ xs x, SqT K H a xs ∧ xs[i]? = some x, fun i H x H' => H' = H ∧ ∀ xs, SqT K H a xs → xs[i]? = some x, fun i H => ∃ xs, SqT K H a xs ∧ xs.length ≤ i⟩
def Itr (lo : Int) (n : Nat) : It := ⟨fun i _ => i < n, fun i H x H' => H' = H ∧ x = .int (lo + i), fun i _ => n ≤ i⟩
theorem turn_list {P : Program} {w : World} {K : PySem.W.Frag} {tg : Expr} (a it : Addr) : Turn P w K tg (Itl K a) [it] it (fun i h => h.IsListIter it a i) where
  mem := by simp
  obj := fun i h st b hb => by
    have e : b = it := by simpa using hb
    subst e
    obtain ⟨o, e, c, d⟩ := st
    exact ⟨o, e, fun v z => by rw [d] at z; cases z⟩
  keep := fun i h h' st k => st.at fun o e => k it (by simp) o e
  item := by
    intro X hP hw hK hc i pins s σ H E I hf st hg
    subst hP hw hK
    obtain ⟨xs, x, hq, hx⟩ := hg
    obtain ⟨its, rv, p, hz⟩ := I.list hq
    obtain ⟨u, hu, ru⟩ := rv.get hx
    obtain ⟨f0, f1, f2, f3, f4, f5⟩ := hf it (by simp)
    refine wpAny_pyNext_list_item st p.isList (x := u) (by simpa using hu) fun h' st' sb => ?_
    have I1 : Inv X pins σ H { s with heap := h' } := I.turned (t' := s.toks) (fun b o hb e => (sb.2 b hb).trans e) f0 f1 f3 f4 f5
    obtain ⟨o, e, c, d⟩ := id st'
    exact ⟨u, rfl, go_of (s := { s with heap := h' }) e c d (by decide) ⟨x, H, I1, ru, ⟨rfl, fun ys hy => by rw [I.list_inj hy hq]; exact hx⟩, st', fun b hb => (hf b hb).1⟩⟩
  done := by
    intro X hP hw hK hc i pins s σ H E I hf st hg
    subst hP hw hK
    obtain ⟨xs, hq, hx⟩ := hg
    obtain ⟨its, rv, p, hz⟩ := I.list hq
    obtain ⟨f0, f1, f2, f3, f4, f5⟩ := hf it (by simp)
    have hl := rv.length
    exact wpAny_pyNext_list_end (I.ok.hd hc) st p.isList (by simp; omega) fun h' eb => ⟨rfl, I.turned (t' := s.toks) (fun b o hb e => eb b o hb e) f0 f1 f3 f4 f5⟩
  self := fun _ _ _ _ _ st h => wpAny_pyIter_listiter st h
theorem turn_tuple {P : Program} {w : World} {K : PySem.W.Frag} {tg : Expr} (a it : Addr) : Turn P w K tg (Itt K a) [it] it (fun i h => h.IsTupleIter it a i) where
  mem := by simp
  obj := fun i h st b hb => by
    have e : b = it := by simpa using hb
    subst e
    obtain ⟨o, e, c, d⟩ := st
    exact ⟨o, e, fun v z => by rw [d] at z; cases z⟩
  keep := fun i h h' st k => st.at fun o e => k it (by simp) o e
  item := by
    intro X hP hw hK hc i pins s σ H E I hf st hg
    subst hP hw hK
    obtain ⟨xs, x, hq, hx⟩ := hg
    obtain ⟨its, rv, p, hz⟩ := I.tuple hq
    obtain ⟨u, hu, ru⟩ := rv.get hx
    obtain ⟨f0, f1, f2, f3, f4, f5⟩ := hf it (by simp)
    refine wpAny_pyNext_tuple_item st (show s.heap.IsTuple a its.toArray from p) (x := u) (by simpa using hu) fun h' st' sb => ?_
    have I1 : Inv X pins σ H { s with heap := h' } := I.turned (t' := s.toks) (fun b o hb e => (sb.2 b hb).trans e) f0 f1 f3 f4 f5
    obtain ⟨o, e, c, d⟩ := id st'
    exact ⟨u, rfl, go_of (s := { s with heap := h' }) e c d (by decide) ⟨x, H, I1, ru, ⟨rfl, fun ys hy => by rw [I.tuple_inj hy hq]; exact hx⟩, st', fun b hb => (hf b hb).1⟩⟩
  done := by
    intro X hP hw hK hc i pins s σ H E I hf st hg
    subst hP hw hK
    obtain ⟨xs, hq, hx⟩ := hg
    obtain ⟨its, rv, p, hz⟩ := I.tuple hq
    obtain ⟨f0, f1, f2, f3, f4, f5⟩ := hf it (by simp)
    have hl := rv.length
    exact wpAny_pyNext_tuple_end (I.ok.hd hc) st (show s.heap.IsTuple a its.toArray from p) (by simp; omega) fun h' eb => ⟨rfl, I.turned (t' := s.toks) (fun b o hb e => eb b o hb e) f0 f1 f3 f4 f5⟩
  self := fun _ _ _ _ _ st h => wpAny_pyIter_tupleiter st h
theorem turn_range {P : Program} {w : World} {K : PySem.W.Frag} {tg : Expr} (it : Addr) (lo : Int) (n : Nat) : Turn P w K tg (Itr lo n) [it] it (fun i h => IsRangeIter h it (lo + (i : Nat) * 1) ((n : Int) - (i : Nat)) 1) where
  mem := by simp
  obj := fun i h st b hb => by
    have e : b = it := by simpa using hb
    subst e
    exact ⟨_, st, fun v z => by
      have z' : Data.fields _ = Data.cell v := z
      cases z'⟩
  keep := fun i h h' st k => k it (by simp) _ st
  item := by
    intro X hP hw hK hc i pins s σ H E I hf st hg
    subst hP hw hK
    obtain ⟨f0, f1, f2, f3, f4, f5⟩ := hf it (by simp)
    have W := Walks.range (prog := X.prog) (w := X.w) (I.ok.hd hc) it lo 1 n
    refine W.item i s _ _ hg st fun v h' tk hv st' kk => ?_
    obtain ⟨t, rfl⟩ := hv
    have I1 : Inv X pins σ H { s with heap := h', toks := tk } := I.turned (fun b o hb e => kk b o (by simpa using hb) e) f0 f1 f3 f4 f5
    refine ⟨_, rfl, go_of (s := { s with heap := h', toks := tk }) (n := "range_iterator") st' rfl rfl (by decide) ⟨.int (lo + i), H, I1, ⟨t, ?_⟩, ⟨rfl, rfl⟩, st', fun b hb => (hf b hb).1⟩⟩
    rw [Int.mul_one]
  done := by
    intro X hP hw hK hc i pins s σ H E I hf st hg
    subst hP hw hK
    obtain ⟨f0, f1, f2, f3, f4, f5⟩ := hf it (by simp)
    exact wpAny_pyNext_range_end (I.ok.hd hc) st (by have : n ≤ i := hg; omega) fun h' eb => ⟨rfl, I.turned (t' := s.toks) (fun b o hb e => eb b o hb e) f0 f1 f3 f4 f5⟩
  self := fun _ _ _ _ _ st h => wpAny_pyIter_rangeiter st h
end L2
namespace L2
open PySem PySem.Spec PyProof.Rows
section
variable {X : Cx} {tg : Expr}
def iList (K : PySem.W.Frag) (tl : TE) : TI := fun σ H R => tl σ H fun x H1 => ∃ a, x = .ref a ∧ (∃ xs, SqL K H1 a xs) ∧ R (Itl K a) H1
def iTup (K : PySem.W.Frag) (tl : TE) : TI := fun σ H R => tl σ H fun x H1 => ∃ a, x = .ref a ∧ (∃ xs, SqT K H1 a xs) ∧ R (Itt K a) H1
theorem pi_list {l : Expr} {tl : TE} (hl : PE X l tl) : PI X tg l (iList X.K tl) := by
  intro pins s σ H R I h
  refine thn (hl pins s σ H _ I h) fun v s1 ⟨x, H1, I1, r1, q1⟩ => ?_
  obtain ⟨a, e, ⟨xs, hq⟩, q⟩ := q1
  subst e
  cases r1
  obtain ⟨its, rv, p, hz⟩ := I1.list hq
  refine wpAny_pyIter_list p.isList ?_
  refine ⟨s1.heap.objs.size, [s1.heap.objs.size], _, _, H1, rfl, I1.kept (t' := s1.toks) fun b o e => Heap.get?_push_of_some _ e, turn_list a _, ⟨_, Heap.get?_push_size _ rfl, rfl, rfl⟩, fun b hb => ?_, q⟩
  have e : b = s1.heap.objs.size := by simpa using hb
  subst e
  exact I1.fpOk (Nat.le_refl _) (I1.hok.fresh (Nat.le_refl _))
theorem pi_tup {l : Expr} {tl : TE} (hl : PE X l tl) : PI X tg l (iTup X.K tl) := by
  intro pins s σ H R I h
  refine thn (hl pins s σ H _ I h) fun v s1 ⟨x, H1, I1, r1, q1⟩ => ?_
  obtain ⟨a, e, ⟨xs, hq⟩, q⟩ := q1
  subst e
  cases r1
  obtain ⟨its, rv, p, hz⟩ := I1.tuple hq
  refine wpAny_pyIter_tuple (show s1.heap.IsTuple a its.toArray from p) ?_
  refine ⟨s1.heap.objs.size, [s1.heap.objs.size], _, _, H1, rfl, I1.kept (t' := s1.toks) fun b o e => Heap.get?_push_of_some _ e, turn_tuple a _, ⟨_, Heap.get?_push_size _ rfl, rfl, rfl⟩, fun b hb => ?_, q⟩
  have e : b = s1.heap.objs.size := by simpa using hb
  subst e
  exact I1.fpOk (Nat.le_refl _) (I1.hok.fresh (Nat.le_refl _))
theorem range_it {pins : List (Addr × Obj)} {σ : St} {H : Hp} {s : Shared} {R : It → Hp → Prop} {E : Value → Shared → Prop} {lo hi : Int} {t u v : Tok} {tk : Nat} (I : Inv X pins σ H s) (h1 : -(2 ^ 62) ≤ lo) (h2 : lo < 2 ^ 62) (h3 : -(2 ^ 62) ≤ hi) (h4 : hi < 2 ^ 62)
    (q : R (Itr lo (hi - lo).toNat) H) : wpAny (model X.prog X.w) X.A (pyIter (.ref s.heap.objs.size)) (PIE X pins σ tg R) E { s with heap := s.heap.push { cls := .type "range", data := .fields #[.int lo t, .int hi u, .int 1 v] }, toks := tk } := by
  refine wpAny_pyIter_range (IsRange.new ..) (small_one h1 h2 h3 h4) ?_
  have I1 : Inv X pins σ H { s with heap := s.heap.push { cls := .type "range", data := .fields #[.int lo t, .int hi u, .int 1 v] }, toks := tk } := I.kept fun b o e => Heap.get?_push_of_some _ e
  refine ⟨(s.heap.push { cls := .type "range", data := .fields #[.int lo t, .int hi u, .int 1 v] }).objs.size, [(s.heap.push { cls := .type "range", data := .fields #[.int lo t, .int hi u, .int 1 v] }).objs.size], _, _, H, rfl,
    I1.kept (t' := tk) fun b o e => Heap.get?_push_of_some _ e, turn_range _ lo (hi - lo).toNat, ?_, fun b hb => ?_, q⟩
  · have e1 : lo + ((0 : Nat) : Int) * 1 = lo := by simp
    have e2 : (((hi - lo).toNat : Nat) : Int) - ((0 : Nat) : Int) = Builtin.Range.rangeSize lo hi 1 := by rw [rangeSize_one]; split <;> omega
    show IsRangeIter _ _ (lo + ((0 : Nat) : Int) * 1) ((((hi - lo).toNat : Nat) : Int) - ((0 : Nat) : Int)) 1
    rw [e1, e2]
    exact Heap.get?_push_size _ rfl
  · have e : b = (s.heap.push { cls := .type "range", data := .fields #[.int lo t, .int hi u, .int 1 v] }).objs.size := by simpa using hb
    subst e
    exact I1.fpOk (Nat.le_refl _) (I1.hok.fresh (Nat.le_refl _))
def iRng1 (ta : TA) : TI := fun σ H R => ta σ H fun vs H1 => ∃ j : Int, vs = [.int j] ∧ -(2 ^ 62) ≤ j ∧ j < 2 ^ 62 ∧ R (Itr 0 j.toNat) H1
theorem pi_range1 {a : Expr} {ta : TA} {p pos : Pos} (hg : Gl X "range") (hm : X.mg "range" = none) (ha : PA X [a] ta) (hs : starEach [a] X.env = [(false, eval a X.env)] := by rfl) : PI X tg (.Call (.Name "range" p) [a] [] pos) (iRng1 ta) := by
  intro pins s σ H R I h
  refine Call_ (ld_blt I hg hm boot_range (PyProof.Rows.callWith_type1 (thn (ha pos pins s σ H _ I h) fun us s1 ⟨vs, H1, I1, r1, q1⟩ => ?_) hs rfl))
  obtain ⟨j, e, q1, q2, q⟩ := q1
  subst e
  cases r1 with
  | cons r rr =>
    cases rr
    obtain ⟨t, rfl⟩ := r
    exact call_range_1 (range_it I1 (by omega) (by omega) q1 q2 (by simpa using q))
def tFor (wi : TI) (g : TG) (tb : TS) : TS := fun D σ H => wi σ H fun J H1 => ∃ W : Nat → Nat → St → Hp → Prop, (∃ m, W 0 m σ H1) ∧ ∀ i m σ H, W i m σ H →
  (J.stop i H ∧ D.nx σ H) ∨ (J.go i H ∧ ∃ N : St → Hp → Prop, (∀ σ' H', N σ' H' → ∃ m', m' < m ∧ W (i + 1) m' σ' H') ∧ ∀ x H', J.yld i H x H' → g x σ H' fun σ2 H2 => tb { D with nx := N, ct := N, bk := D.nx } σ2 H2)
def pinsAt (fp : List Addr) (h : Heap) : List (Addr × Obj) := fp.filterMap fun b => (h.get? b).map fun o => (b, o)
theorem mem_pinsAt {fp : List Addr} {h : Heap} {b : Addr} {o : Obj} (hb : b ∈ fp) (e : h.get? b = some o) : (b, o) ∈ pinsAt fp h := List.mem_filterMap.mpr ⟨b, hb, by rw [e]; rfl⟩
theorem of_pinsAt {fp : List Addr} {h : Heap} {p : Addr × Obj} (hp : p ∈ pinsAt fp h) : p.1 ∈ fp ∧ h.get? p.1 = some p.2 := by
  obtain ⟨b, hb, e⟩ := List.mem_filterMap.mp hp
  cases q : h.get? b with
  | none => rw [q] at e; cases e
  | some o =>
    rw [q] at e
    have e' : (b, o) = p := Option.some.inj e
    subst e'
    exact ⟨hb, q⟩
theorem Inv.pinned {pins : List (Addr × Obj)} {σ : St} {H : Hp} {s : Shared} {fp : List Addr} (I : Inv X pins σ H s) (hf : ∀ b ∈ fp, FpOk X pins H b) (ho : ∀ b ∈ fp, ∃ o, s.heap.get? b = some o ∧ ∀ v, o.data ≠ .cell v) : Inv X (pins ++ pinsAt fp s.heap) σ H s :=
  I.pins_of fun p hp => (List.mem_append.mp hp).elim (fun z => I.pin p (List.mem_append_right _ z)) fun z => by
    obtain ⟨hb, e⟩ := of_pinsAt z
    obtain ⟨f0, f1, f2, _⟩ := hf p.1 hb
    obtain ⟨o, e', d⟩ := ho p.1 hb
    rw [e] at e'; cases e'
    exact ⟨e, f0, f1, f2, d⟩
theorem Inv.unpinned {pins pl : List (Addr × Obj)} {σ : St} {H : Hp} {s : Shared} (I : Inv X (pins ++ pl) σ H s) : Inv X pins σ H s := I.pins_of fun p hp => I.pin p (List.mem_append_right _ (List.mem_append_left _ hp))
theorem ps_for {iter : Expr} {body : List Stmt} {wi : TI} {g : TG} {tb : TS} {pos : Pos} (hp : PassesOwn (model X.prog X.w) X.A X.env X.xe) (hc : X.calm = true) (hi : PI X tg iter wi) (hg : PG X tg g) (hb : PSs X body tb)
    (hs : ∀ x, foldedSetIterable iter X.env x = pure x := by intro _; rfl) : PS X (.For tg iter body [] pos) (tFor wi g tb) := by
  intro pins s σ H D I h
  refine wpAny_For (thn (hi pins s σ H _ I h) fun v s1 h1 => thn h1 fun itv s2 h2 => ?_) hs
  obtain ⟨it, fp, tn, J, H2, e, I2, T, st2, f2, W, ⟨m0, w0⟩, turn⟩ := h2
  subst e
  have stat : ∀ {H' : Hp}, (∀ b ∈ fp, H' b = none) → ∀ b ∈ fp, FpOk X pins H' b := fun hn b hb => ⟨hn b hb, (f2 b hb).2⟩
  refine codeAny_forLoop_any (fun n s' => ∃ i σ' H', Inv X pins σ' H' s' ∧ tn i s'.heap ∧ (∀ b ∈ fp, H' b = none) ∧ W i n σ' H') ?_ m0 ⟨0, σ, H2, I2, st2, fun b hb => (f2 b hb).1, w0⟩
  rintro n s3 ⟨i, σ3, H3, I3, st3, fr3, w3⟩
  rcases turn i n σ3 H3 w3 with ⟨stop, qn⟩ | ⟨go, N, hN, step⟩
  · refine wpAny_passesOwn hp (thn (T.done X rfl rfl rfl hc i pins s3 σ3 H3 X.xe I3 (stat fr3) st3 stop) fun r s4 ⟨hr, I4⟩ => ?_)
    subst hr
    exact wpAny_execs_nil ⟨σ3, H3, I4, qn⟩
  · refine wpAny_passesOwn hp (thn (T.item X rfl rfl rfl hc i pins s3 σ3 H3 X.xe I3 (stat fr3) st3 go) fun r s4 ⟨u, hr, h4⟩ => ?_)
    subst hr
    refine wpAny_passesOwn hp (thn h4 fun _ s5 ⟨x, H5, I5, r5, y5, st5, fr5⟩ => ?_)
    have I5' := I5.pinned (stat fr5) (T.obj _ _ st5)
    refine wpAny_passesOwn hp (thn (hg _ s5 σ3 H5 x u _ I5' r5 (step x H5 y5)) fun _ s6 ⟨σ6, H6, I6, q6⟩ => ?_)
    refine wpAny_passesOwn hp (thn (hb _ s6 σ6 H6 _ I6 q6) fun f s7 q7 => ?_)
    have again : ∀ {σ7 : St} {H7 : Hp}, Inv X (pins ++ pinsAt fp s5.heap) σ7 H7 s7 → N σ7 H7 → ∃ m, m < n ∧ ∃ i σ' H', Inv X pins σ' H' s7 ∧ tn i s7.heap ∧ (∀ b ∈ fp, H' b = none) ∧ W i m σ' H' := fun {σ7 H7} I7 n7 => by
      obtain ⟨m', hm, w7⟩ := hN σ7 H7 n7
      refine ⟨m', hm, i + 1, σ7, H7, I7.unpinned, T.keep _ _ _ st5 fun b hb o e => (I7.pin (b, o) (List.mem_append_right _ (List.mem_append_right _ (mem_pinsAt hb e)))).1, fun b hb => ?_, w7⟩
      obtain ⟨o, e, d⟩ := T.obj _ _ st5 b hb
      exact (I7.pin (b, o) (List.mem_append_right _ (List.mem_append_right _ (mem_pinsAt hb e)))).2.1
    cases f with
    | next => obtain ⟨σ7, H7, I7, n7⟩ := q7; exact again I7 n7
    | cont => obtain ⟨σ7, H7, I7, n7⟩ := q7; exact again I7 n7
    | brk => obtain ⟨σ7, H7, I7, q7⟩ := q7; exact ⟨σ7, H7, I7.unpinned, q7⟩
    | ret v => obtain ⟨x7, σ7, H7, I7, r7, q7⟩ := q7; exact ⟨x7, σ7, H7, I7.unpinned, r7, q7⟩
end
theorem for_list {K : PySem.W.Frag} {a : Addr} {xs : List V} {g : TG} {tb : TS} {D : Ends} {σ : St} {H : Hp} (Pv : Nat → St → Hp → Prop) (h0 : Pv 0 σ H) (hl : ∀ i σ H, i ≤ xs.length → Pv i σ H → SqL K H a xs)
    (hs : ∀ i x σ H, xs[i]? = some x → Pv i σ H → g x σ H fun σ2 H2 => tb { D with nx := Pv (i + 1), ct := Pv (i + 1), bk := D.nx } σ2 H2) (hd : ∀ σ H, Pv xs.length σ H → D.nx σ H) :
    ∃ W : Nat → Nat → St → Hp → Prop, (∃ m, W 0 m σ H) ∧ ∀ i m σ H, W i m σ H →
      ((Itl K a).stop i H ∧ D.nx σ H) ∨ ((Itl K a).go i H ∧ ∃ N : St → Hp → Prop, (∀ σ' H', N σ' H' → ∃ m', m' < m ∧ W (i + 1) m' σ' H') ∧ ∀ x H', (Itl K a).yld i H x H' → g x σ H' fun σ2 H2 => tb { D with nx := N, ct := N, bk := D.nx } σ2 H2) := by
  refine ⟨fun i m σ H => m = xs.length - i ∧ i ≤ xs.length ∧ Pv i σ H, ⟨xs.length, by simp, Nat.zero_le _, h0⟩, ?_⟩
  rintro i m σ H ⟨rfl, hi, p⟩
  have q := hl i σ H hi p
  by_cases hlt : i < xs.length
  · refine .inr ⟨⟨xs, xs[i], q, by simp [hlt]⟩, Pv (i + 1), fun σ' H' p' => ⟨xs.length - (i + 1), by omega, rfl, hlt, p'⟩, fun x H' y => ?_⟩
    obtain ⟨e, y⟩ := y
    subst e
    exact hs i x σ _ (y xs q) p
  · have e : i = xs.length := by omega
    subst e
    exact .inl ⟨⟨xs, q, Nat.le_refl _⟩, hd σ H p⟩
theorem for_tup {K : PySem.W.Frag} {a : Addr} {xs : List V} {g : TG} {tb : TS} {D : Ends} {σ : St} {H : Hp} (Pv : Nat → St → Hp → Prop) (h0 : Pv 0 σ H) (hl : ∀ i σ H, i ≤ xs.length → Pv i σ H → SqT K H a xs)
    (hs : ∀ i x σ H, xs[i]? = some x → Pv i σ H → g x σ H fun σ2 H2 => tb { D with nx := Pv (i + 1), ct := Pv (i + 1), bk := D.nx } σ2 H2) (hd : ∀ σ H, Pv xs.length σ H → D.nx σ H) :
    ∃ W : Nat → Nat → St → Hp → Prop, (∃ m, W 0 m σ H) ∧ ∀ i m σ H, W i m σ H →
      ((Itt K a).stop i H ∧ D.nx σ H) ∨ ((Itt K a).go i H ∧ ∃ N : St → Hp → Prop, (∀ σ' H', N σ' H' → ∃ m', m' < m ∧ W (i + 1) m' σ' H') ∧ ∀ x H', (Itt K a).yld i H x H' → g x σ H' fun σ2 H2 => tb { D with nx := N, ct := N, bk := D.nx } σ2 H2) := by
  refine ⟨fun i m σ H => m = xs.length - i ∧ i ≤ xs.length ∧ Pv i σ H, ⟨xs.length, by simp, Nat.zero_le _, h0⟩, ?_⟩
  rintro i m σ H ⟨rfl, hi, p⟩
  have q := hl i σ H hi p
  by_cases hlt : i < xs.length
  · refine .inr ⟨⟨xs, xs[i], q, by simp [hlt]⟩, Pv (i + 1), fun σ' H' p' => ⟨xs.length - (i + 1), by omega, rfl, hlt, p'⟩, fun x H' y => ?_⟩
    obtain ⟨e, y⟩ := y
    subst e
    exact hs i x σ _ (y xs q) p
  · have e : i = xs.length := by omega
    subst e
    exact .inl ⟨⟨xs, q, Nat.le_refl _⟩, hd σ H p⟩
theorem for_range {lo : Int} {n : Nat} {g : TG} {tb : TS} {D : Ends} {σ : St} {H : Hp} (Pv : Nat → St → Hp → Prop) (h0 : Pv 0 σ H)
    (hs : ∀ i σ H, i < n → Pv i σ H → g (.int (lo + i)) σ H fun σ2 H2 => tb { D with nx := Pv (i + 1), ct := Pv (i + 1), bk := D.nx } σ2 H2) (hd : ∀ σ H, Pv n σ H → D.nx σ H) :
    ∃ W : Nat → Nat → St → Hp → Prop, (∃ m, W 0 m σ H) ∧ ∀ i m σ H, W i m σ H →
      ((Itr lo n).stop i H ∧ D.nx σ H) ∨ ((Itr lo n).go i H ∧ ∃ N : St → Hp → Prop, (∀ σ' H', N σ' H' → ∃ m', m' < m ∧ W (i + 1) m' σ' H') ∧ ∀ x H', (Itr lo n).yld i H x H' → g x σ H' fun σ2 H2 => tb { D with nx := N, ct := N, bk := D.nx } σ2 H2) := by
  refine ⟨fun i m σ H => m = n - i ∧ i ≤ n ∧ Pv i σ H, ⟨n, by simp, Nat.zero_le _, h0⟩, ?_⟩
  rintro i m σ H ⟨rfl, hi, p⟩
  by_cases hlt : i < n
  · refine .inr ⟨hlt, Pv (i + 1), fun σ' H' p' => ⟨n - (i + 1), by omega, rfl, hlt, p'⟩, fun x H' y => ?_⟩
    obtain ⟨e, y⟩ := y
    subst e y
    exact hs i σ _ hlt p
  · have e : i = n := by omega
    subst e
    exact .inl ⟨Nat.le_refl _, hd σ H p⟩
end L2
namespace L2
open PySem PySem.Spec PyProof.Rows
abbrev R2 := V → V → Hp → VK → Prop
def OpR (X : Cx) (f : Value → Value → Sem Value) (r : R2) : Prop :=
  ∀ (pins : List (Addr × Obj)) (s : Shared) (σ : St) (H : Hp) (x y : V) (v u : Value) (Q : VK), Inv X pins σ H s → RelV x v → RelV y u → r x y H Q →
    wpAny (model X.prog X.w) X.A (f v u) (EP X pins σ Q) X.xe s
def UnR (X : Cx) (f : Value → Sem Value) (r : V → Hp → VK → Prop) : Prop :=
  ∀ (pins : List (Addr × Obj)) (s : Shared) (σ : St) (H : Hp) (x : V) (v : Value) (Q : VK), Inv X pins σ H s → RelV x v → r x H Q →
    wpAny (model X.prog X.w) X.A (f v) (EP X pins σ Q) X.xe s
def CallR (X : Cx) (f : Value) (r : List V → Hp → VK → Prop) : Prop :=
  ∀ (pins : List (Addr × Obj)) (s : Shared) (σ : St) (H : Hp) (xs : List V) (us : List Value) (Q : VK), Inv X pins σ H s → Vals xs us → r xs H Q →
    wpAny (model X.prog X.w) X.A (call f us) (EP X pins σ Q) X.xe s
def tOp (r : R2) (ta tb : TE) : TE := fun σ H Q => ta σ H fun x H1 => tb σ H1 fun y H2 => r x y H2 Q
def tUn (r : V → Hp → VK → Prop) (ta : TE) : TE := fun σ H Q => ta σ H fun x H1 => r x H1 Q
def rI (C : Int → Int → Prop) (g : Int → Int → V) : R2 := fun x y H Q => ∃ i j, x = .int i ∧ y = .int j ∧ C i j ∧ Q (g i j) H
def rI0 (g : Int → Int → V) : R2 := fun x y H Q => ∃ i j, x = .int i ∧ y = .int j ∧ Q (g i j) H
def rU (g : Int → V) : V → Hp → VK → Prop := fun x H Q => ∃ i, x = .int i ∧ Q (g i) H
section
variable {X : Cx} {a b c : Expr} {ta tb tc : TE} {pos : Pos}
theorem binT (ha : PE X a ta) (hb : PE X b tb) {pins : List (Addr × Obj)} {s : Shared} {σ : St} {H : Hp} {R : V → V → Hp → Prop} (I : Inv X pins σ H s)
    (h : ta σ H fun x H1 => tb σ H1 fun y H2 => R x y H2) {Q : Value → Shared → Prop} {f : Value → Value → Sem Value}
    (hf : ∀ v u s2 x y H2, Inv X pins σ H2 s2 → RelV x v → RelV y u → R x y H2 → wpAny (model X.prog X.w) X.A (f v u) Q X.xe s2) :
    wpAny (model X.prog X.w) X.A (eval a X.env) (fun v s₁ => wpAny (model X.prog X.w) X.A (eval b X.env) (fun u s₂ => wpAny (model X.prog X.w) X.A (f v u) Q X.xe s₂) X.xe s₁) X.xe s := by
  refine thn (ha pins s σ H _ I h) fun v s1 ⟨x, H1, I1, r1, q1⟩ => ?_
  refine thn (hb pins s1 σ H1 _ I1 q1) fun u s2 ⟨y, H2, I2, r2, q2⟩ => ?_
  exact hf v u s2 x y H2 I2 r1 r2 q2
theorem pe_op {op : Operator} {r : R2} (ho : OpR X (binaryOp op) r) (ha : PE X a ta) (hb : PE X b tb) : PE X (.BinOp a op b pos) (tOp r ta tb) := by
  intro pins s σ H Q I h
  exact wpAny_BinOp (binT ha hb I h fun v u s2 x y H2 I2 rx ry q => ho pins s2 σ H2 x y v u Q I2 rx ry q)
theorem pe_un {op : UnaryOp} {r : V → Hp → VK → Prop} (ho : UnR X (unaryOp op) r) (ha : PE X a ta) : PE X (.UnaryOp op a pos) (tUn r ta) := by
  intro pins s σ H Q I h
  exact UnaryOp_ (thn (ha pins s σ H _ I h) fun v s1 ⟨x, H1, I1, r1, q1⟩ => ho pins s1 σ H1 x v Q I1 r1 q1)
theorem opI {f : Value → Value → Sem Value} {C : Int → Int → Prop} {g : Int → Int → Int}
    (rule : ∀ (i j : Int) (t u : Tok) (s : Shared) (Q : Value → Shared → Prop) (E : Value → Shared → Prop), C i j → Q (.int (g i j) s.toks) { s with toks := s.toks + 1 } → wpAny (model X.prog X.w) X.A (f (.int i t) (.int j u)) Q E s) :
    OpR X f (rI C fun i j => .int (g i j)) := by
  intro pins s σ H x y v u Q I rx ry h
  obtain ⟨i, j, rfl, rfl, hc, q⟩ := h
  obtain ⟨t, rfl⟩ := rx
  obtain ⟨t', rfl⟩ := ry
  exact rule i j t t' s _ _ hc ⟨.int (g i j), H, I.tok _, ⟨_, rfl⟩, q⟩
theorem opI0 {f : Value → Value → Sem Value} {g : Int → Int → Int}
    (rule : ∀ (i j : Int) (t u : Tok) (s : Shared) (Q : Value → Shared → Prop) (E : Value → Shared → Prop), Q (.int (g i j) s.toks) { s with toks := s.toks + 1 } → wpAny (model X.prog X.w) X.A (f (.int i t) (.int j u)) Q E s) :
    OpR X f (rI0 fun i j => .int (g i j)) := by
  intro pins s σ H x y v u Q I rx ry h
  obtain ⟨i, j, rfl, rfl, q⟩ := h
  obtain ⟨t, rfl⟩ := rx
  obtain ⟨t', rfl⟩ := ry
  exact rule i j t t' s _ _ ⟨.int (g i j), H, I.tok _, ⟨_, rfl⟩, q⟩
theorem opB0 {f : Value → Value → Sem Value} {g : Int → Int → Bool}
    (rule : ∀ (i j : Int) (t u : Tok) (s : Shared) (Q : Value → Shared → Prop) (E : Value → Shared → Prop), Q (.bool (g i j)) s → wpAny (model X.prog X.w) X.A (f (.int i t) (.int j u)) Q E s) :
    OpR X f (rI0 fun i j => .bl (g i j)) := by
  intro pins s σ H x y v u Q I rx ry h
  obtain ⟨i, j, rfl, rfl, q⟩ := h
  obtain ⟨t, rfl⟩ := rx
  obtain ⟨t', rfl⟩ := ry
  exact rule i j t t' s _ _ ⟨.bl (g i j), H, I, rfl, q⟩
def CPow (i j : Int) : Prop := 0 ≤ j ∧ j ≤ 1000000 ∧ i.natAbs < 2 ^ 64
theorem op_add : OpR X (binaryOp .Add) (rI0 fun i j => .int (i + j)) := opI0 fun _ _ _ _ _ _ _ q => add_int q
theorem op_sub : OpR X (binaryOp .Sub) (rI0 fun i j => .int (i - j)) := opI0 fun _ _ _ _ _ _ _ q => sub_int q
theorem op_modN : OpR X (binaryOp .Mod) (rI (fun _ j => j ≠ 0) fun i j => .int (i.fmod j)) := opI fun _ _ _ _ _ _ _ hc q => mod_int' hc q
theorem op_pow : OpR X (binaryOp .Pow) (rI CPow fun i j => .int (i ^ j.toNat)) := opI fun _ _ _ _ _ _ _ hc q => pow_int_small hc.1 hc.2.1 hc.2.2 q
theorem op_shl : OpR X (binaryOp .LShift) (rI CPow fun i j => .int (i * 2 ^ j.toNat)) := opI fun _ _ _ _ _ _ _ hc q => lshift_int_small hc.1 hc.2.1 hc.2.2 q
theorem op_or : OpR X (binaryOp .BitOr) (rI0 fun i j => .int (Builtin.bitOr i j)) := opI0 fun _ _ _ _ _ _ _ q => or_int q
theorem unI {f : Value → Sem Value} {g : Int → Int}
    (rule : ∀ (i : Int) (t : Tok) (s : Shared) (Q : Value → Shared → Prop) (E : Value → Shared → Prop), Q (.int (g i) s.toks) { s with toks := s.toks + 1 } → wpAny (model X.prog X.w) X.A (f (.int i t)) Q E s) :
    UnR X f (rU fun i => .int (g i)) := by
  intro pins s σ H x v Q I rx h
  obtain ⟨i, rfl, q⟩ := h
  obtain ⟨t, rfl⟩ := rx
  exact rule i t s _ _ ⟨.int (g i), H, I.tok _, ⟨_, rfl⟩, q⟩
theorem un_neg : UnR X (unaryOp .USub) (rU fun i => .int (-i)) := unI fun _ _ _ _ _ q => neg_int q
end
def scal : V → V → Bool
  | .non, .non => true | .non, .int _ => true | .int _, .non => true | .non, .bl _ => true | .bl _, .non => true | .non, .str _ => true | .str _, .non => true
  | .int _, .int _ => true | .bl _, .bl _ => true | .str _, .str _ => true | .byt _, .byt _ => true
  | .int _, .str _ => true | .str _, .int _ => true | .bl _, .str _ => true | .str _, .bl _ => true
  | _, _ => false
def rEq : R2 := fun x y H Q => scal x y = true ∧ Q (.bl (decide (x = y))) H
theorem dec_int {i j : Int} : decide (V.int i = V.int j) = (i == j) := by
  rw [Bool.eq_iff_iff]
  simp
theorem dec_bl {i j : Bool} : decide (V.bl i = V.bl j) = (i == j) := by
  rw [Bool.eq_iff_iff]
  simp
theorem dec_str {i j : Str} : decide (V.str i = V.str j) = (i == j) := by
  rw [Bool.eq_iff_iff]
  simp
theorem dec_byt {i j : Array UInt8} : decide (V.byt i = V.byt j) = (i.toList == j.toList) := by
  rw [Bool.eq_iff_iff]
  cases i
  cases j
  simp
section
variable {X : Cx} {a b c : Expr} {ta tb tc : TE} {pos : Pos}
theorem fin_bl {pins : List (Addr × Obj)} {σ : St} {H : Hp} {s : Shared} {Q : VK} {k k' : Bool} (I : Inv X pins σ H s) (q : Q (.bl k) H) (e : k = k') : EP X pins σ Q (.bool k') s := by
  subst e
  exact ⟨.bl k, H, I, rfl, q⟩
theorem op_eq : OpR X (compareOp .Eq) rEq := by
  intro pins s σ H x y v u Q I rx ry h
  obtain ⟨hs, q⟩ := h
  cases x with
  | non =>
    cases rx
    cases y with
    | non => cases ry; exact PySem.EqNone.eq_none_none (fin_bl I q (by simp))
    | bl j => cases ry; exact PySem.EqNone.eq_none_bool (fin_bl I q (by simp))
    | int j => obtain ⟨t', rfl⟩ := ry; exact PySem.EqNone.eq_none_int (fin_bl I q (by simp))
    | str j => obtain ⟨t', rfl⟩ := ry; exact PySem.EqNone.eq_none_str (fin_bl I q (by simp))
    | _ => exact absurd (show false = true from hs) Bool.false_ne_true
  | bl i =>
    cases rx
    cases y with
    | non => cases ry; exact PySem.EqNone.eq_bool_none (fin_bl I q (by simp))
    | bl j => cases ry; exact eq_bool (fin_bl I q dec_bl)
    | str j => obtain ⟨t', rfl⟩ := ry; exact PySem.EqMixed.eq_bool_str (fin_bl I q (by simp))
    | _ => exact absurd (show false = true from hs) Bool.false_ne_true
  | int i =>
    obtain ⟨t, rfl⟩ := rx
    cases y with
    | non => cases ry; exact PySem.EqNone.eq_int_none (fin_bl I q (by simp))
    | int j => obtain ⟨t', rfl⟩ := ry; exact eq_int (fin_bl I q dec_int)
    | str j => obtain ⟨t', rfl⟩ := ry; exact PySem.EqMixed.eq_int_str (fin_bl I q (by simp))
    | _ => exact absurd (show false = true from hs) Bool.false_ne_true
  | str i =>
    obtain ⟨t, rfl⟩ := rx
    cases y with
    | non => cases ry; exact PySem.EqNone.eq_str_none (fin_bl I q (by simp))
    | bl j => cases ry; exact PySem.EqMixed.eq_str_bool (fin_bl I q (by simp))
    | int j => obtain ⟨t', rfl⟩ := ry; exact PySem.EqMixed.eq_str_int (fin_bl I q (by simp))
    | str j => obtain ⟨t', rfl⟩ := ry; exact eq_str (fin_bl I q dec_str)
    | _ => exact absurd (show false = true from hs) Bool.false_ne_true
  | byt i =>
    obtain ⟨t, rfl⟩ := rx
    cases y with
    | byt j => obtain ⟨t', rfl⟩ := ry; exact PySem.W.eq_bytes (fin_bl I q dec_byt)
    | _ => exact absurd (show false = true from hs) Bool.false_ne_true
  | _ => cases y <;> exact absurd (show false = true from hs) Bool.false_ne_true
theorem op_lt : OpR X (compareOp .Lt) (rI0 fun i j => .bl (decide (i < j))) := opB0 fun _ _ _ _ _ _ _ q => lt_int q
theorem op_le : OpR X (compareOp .LtE) (rI0 fun i j => .bl (decide (i ≤ j))) := opB0 fun _ _ _ _ _ _ _ q => le_int q
theorem op_gt : OpR X (compareOp .Gt) (rI0 fun i j => .bl (decide (j < i))) := opB0 fun _ _ _ _ _ _ _ q => gt_int q
theorem nomark (b : Expr) {op : CmpOp} (h : op ≠ .In := by decide) (h2 : op ≠ .NotIn := by decide) : behindInMarks op b = false := by
  have e1 : (op == CmpOp.In) = false := by cases op <;> first | rfl | exact absurd rfl h
  have e2 : (op == CmpOp.NotIn) = false := by cases op <;> first | rfl | exact absurd rfl h2
  cases b <;> simp [behindInMarks, e1, e2]
theorem pe_cmpR {op : CmpOp} {r : R2} (ho : OpR X (compareOp op) r) (ha : PE X a ta) (hb : PE X b tb) (hm : behindInMarks op b = false) : PE X (.Compare a [op] [b] pos) (tOp r ta tb) := by
  intro pins s σ H Q I h
  exact wpAny_Compare1 (binT ha hb I h fun v u s2 x y H2 I2 rx ry q => ho pins s2 σ H2 x y v u Q I2 rx ry q) hm
def tTest (t : TE) : TT := fun σ H Q => t σ H fun x H' => ∃ k, x = .bl k ∧ Q k H'
theorem pt_cmpR {op : CmpOp} {r : R2} (ho : OpR X (compareOp op) r) (ha : PE X a ta) (hb : PE X b tb) (hm : behindInMarks op b = false) : PT X (.Compare a [op] [b] pos) (tTest (tOp r ta tb)) := by
  intro pins s σ H Q I h
  refine wpAny_isTrue_Compare1 (thn (ha pins s σ H _ I h) fun v s1 ⟨x, H1, I1, r1, q1⟩ => thn (hb pins s1 σ H1 _ I1 q1) fun u s2 ⟨y, H2, I2, r2, q2⟩ =>
    thn (ho pins s2 σ H2 x y v u _ I2 r1 r2 q2) fun c s3 ⟨z, H3, I3, r3, k, e, q3⟩ => ?_) hm
  subst e
  cases r3
  exact wpAny_truthy_bool ⟨H3, I3, q3⟩
def tChain (r r' : R2) (ta tb tc : TE) : TE := fun σ H Q => ta σ H fun x H1 => tb σ H1 fun y H2 => r x y H2 fun z H3 => ∃ k, z = .bl k ∧
  (if k = true then tc σ H3 fun w' H4 => r' y w' H4 Q else Q (.bl false) H3)
theorem pe_chain {op op' : CmpOp} {r r' : R2} (ho : OpR X (compareOp op) r) (ho' : OpR X (compareOp op') r') (ha : PE X a ta) (hb : PE X b tb) (hc : PE X c tc)
    (hm : lastMarks [op, op'] [b, c] = false := by with_unfolding_all rfl) : PE X (.Compare a [op, op'] [b, c] pos) (tChain r r' ta tb tc) := by
  intro pins s σ H Q I h
  refine Compare_chain (thn (ha pins s σ H _ I h) fun v s1 ⟨x, H1, I1, r1, q1⟩ => chain_link (thn (hb pins s1 σ H1 _ I1 q1) fun u s2 ⟨y, H2, I2, r2, q2⟩ =>
    thn (ho pins s2 σ H2 x y v u _ I2 r1 r2 q2) fun d s3 ⟨z, H3, I3, r3, k, e, q3⟩ => ?_)) hm
  subst e
  cases r3
  refine wpAny_truthy_bool ?_
  cases k with
  | false => exact ite_ff ⟨.bl false, H3, I3, rfl, q3⟩
  | true => exact ite_tt (chain_last (thn (hc pins s3 σ H3 _ I3 q3) fun w' s4 ⟨z', H4, I4, r4, q4⟩ => ho' pins s4 σ H4 y z' u w' Q I4 r2 r4 q4))
theorem line63 : (sizeLine : Nat) < 2 ^ 63 := by rw [sizeLine_eq]; decide
theorem vals1 {x : V} {us : List Value} (r : Vals [x] us) : ∃ u, us = [u] ∧ RelV x u := by
  cases r with
  | cons r1 r2 => cases r2; exact ⟨_, rfl, r1⟩
theorem vals2 {x y : V} {us : List Value} (r : Vals [x, y] us) : ∃ u w', us = [u, w'] ∧ RelV x u ∧ RelV y w' := by
  cases r with
  | cons r1 r2 =>
    cases r2 with
    | cons r3 r4 => cases r4; exact ⟨_, _, rfl, r1, r3⟩
theorem call_int1 : CallR X (.type "int") (fun xs H Q => (∃ i, xs = [.int i] ∧ Q (.int i) H) ∨ ∃ k, xs = [.bl k] ∧ Q (.int (if k then 1 else 0)) H) := by
  intro pins s σ H xs us Q I r h
  rcases h with ⟨i, rfl, q⟩ | ⟨k, rfl, q⟩
  · obtain ⟨u, rfl, t, rfl⟩ := vals1 r
    exact call_int_int ⟨.int i, H, I, ⟨_, rfl⟩, q⟩
  · obtain ⟨u, rfl, r1⟩ := vals1 r
    cases r1
    exact call_int_bool ⟨.int (if k then 1 else 0), H, I.tok _, ⟨_, rfl⟩, q⟩
end
end L2
namespace L2
open PySem PySem.Spec PyProof.Rows
structure ObjM (h : Heap) (x dx C : Addr) (mA : Str → Option Value) : Prop where
  obj : h.get? x = some (PySem.W.instObj C dx)
  ns : h.Ns1 dx mA
  ne : dx ≠ x
theorem lookIn_ns {h : Heap} {dx : Addr} {mA : Str → Option Value} (n : h.Ns1 dx mA) : ∃ od, h.get? dx = some od ∧ ∀ name, PySem.W.lookIn name od = some (mA name) := by
  obtain ⟨o, es, ep, ho, hd, hk, _, hm⟩ := n
  refine ⟨o, ho, fun name => ?_⟩
  have e := hm name
  unfold nsFind findBy at e
  rw [← Array.find?_toList] at e
  unfold PySem.W.lookIn
  rw [hd]
  dsimp only
  split
  · rename_i y q
    rw [q] at e
    exact congrArg some e
  · rename_i q
    rw [q] at e
    have a : es.toList.any (·.refKey) = false := by
      rw [List.any_eq_false]
      intro y hy
      obtain ⟨z, t, hkey⟩ := hk y (Array.mem_toList_iff.mp hy)
      simp [DictEntry.refKey, hkey]
    have a' : ¬ es.toList.any (·.refKey) = true := by rw [a]; exact Bool.false_ne_true
    rw [if_neg a']
    exact congrArg some e
theorem ObjM.look {h : Heap} {x dx C : Addr} {mA : Str → Option Value} (I : ObjM h x dx C mA) : ∃ od, PySem.W.InstAt h x (PySem.W.instObj C dx) C (some od) ∧ ∀ name, PySem.W.lookIn name od = some (mA name) :=
  let ⟨od, ho, hl⟩ := lookIn_ns I.ns
  ⟨od, ⟨I.obj, rfl, rfl, ho⟩, hl⟩
section
variable {prog : Program} {w : World} {A : Around} {E : Value → Shared → Prop} {s : Shared} {K : PySem.W.Frag} {x dx C f : Addr} {mA : Str → Option Value} {name : Str} {v : Value}
end
section
variable {P : Program} {w : World} {H H' : Hp} {h h' : Heap} {a C dx : Addr} {fs fs' : List (Str × V)}
theorem ins_get (hok : HOk P w H h) (e : H a = some (.ins C dx fs)) : ∃ mA, ObjM h a dx C mA ∧ (∀ f, RelO (fs.lookup f) (mA f)) ∧ PySem.Within mA (fs.map (·.1)) ∧ fs.length ≤ 1000 ∧ H dx = some (.own a) := by
  obtain ⟨d, z, ne, ob, mA, n, r, q⟩ := (show ObjOk P w H h a (.ins C dx fs) from hok a _ e)
  exact ⟨mA, ⟨ob, n, ne⟩, r, q, z, d⟩
end
structure Cls (K : PySem.W.Frag) (C : Addr) : Prop where
  pg : PySem.W.plainGet K C Str.empty = true
  hd : PySem.W.hasDictIn K C = true
  po : PySem.W.plainOver K C = true
  sa : PySem.W.findIn K (.ref C) "__setattr__" = some (some (.builtin "object.__setattr__"))
theorem Cls.get {K : PySem.W.Frag} {C : Addr} (c : Cls K C) (f : Str) : PySem.W.plainGet K C f = true := c.pg
section
variable {X : Cx} {pins : List (Addr × Obj)} {σ : St} {H : Hp} {s : Shared} {a C dx : Addr} {fs : List (Str × V)} {f : Str} {v : V} {A : Around} {E : Value → Shared → Prop}
end
section
variable {X : Cx} {o e value : Expr} {f : Str} {pos pos' tpos : Pos} {ta tv : TE}
end
section
variable {X : Cx} {pins : List (Addr × Obj)} {σ : St} {H : Hp} {s : Shared} {A : Around} {E : Value → Shared → Prop} {Q : Value → Shared → Prop} {c : Value} {b : Bool}
inductive TyOf (K : PySem.W.Frag) (H : Hp) : V → Value → Prop where
  | non : TyOf K H .non (.type "NoneType")
  | bl (x : Bool) : TyOf K H (.bl x) (.type "bool")
  | int (i : Int) : TyOf K H (.int i) (.type "int")
  | str (x : Str) : TyOf K H (.str x) (.type "str")
  | flt (x : UInt64) : TyOf K H (.flt x) (.type "float")
  | lst {a : Addr} {xs : List V} (e : H a = some (.lst xs)) : TyOf K H (.ref a) (.type "list")
  | frz {a : Addr} {o : Obj} {xs : List V} (e : H a = some (.frz o (.lst xs))) : TyOf K H (.ref a) (.type "list")
  | tup {a : Addr} {xs : List V} (e : H a = some (.tup xs)) : TyOf K H (.ref a) (.type "tuple")
  | dK {a : Addr} {kvs : List (Key × V)} (e : H a = some (.dK kvs)) : TyOf K H (.ref a) (.type "dict")
  | dT {a : Addr} {kvs : List (List Key × V)} (e : H a = some (.dT kvs)) : TyOf K H (.ref a) (.type "dict")
  | ins {a C dx : Addr} {fs : List (Str × V)} (e : H a = some (.ins C dx fs)) (cl : Cls K C) (ha : PySem.W.findIn K (.ref C) "__class__" = some (some (.builtin "object.__class__")))
      (hn : PySem.W.specialIn K (.builtin "object.__class__") "__get__" = some (some (.builtin "getset_descriptor.__get__"))) (htk : PySem.W.takesIn K (.builtin "object.__class__") = some true)
      (hm : PySem.W.mroIn K C (.type "object") = some true) : TyOf K H (.ref a) (.ref C)
theorem isinst_ok {x : V} {u t : Value} (I : Inv X pins σ H s) (rx : RelV x u) (ty : TyOf X.K H x t) (e : PySem.W.kitOne X.K t c = some b) (h : ∀ tk, Q (.bool b) { s with toks := tk }) :
    wpAny (model X.prog X.w) A (call (.builtin "isinstance") [u, c]) Q E s := by
  cases ty with
  | non => cases (show u = Value.none from rx); exact PySem.W.kia_one PySem.W.kitx_none I.kIn True.intro e (fun z => nomatch z) h
  | bl y => cases (show u = Value.bool y from rx); exact PySem.W.kia_one PySem.W.kitx_bool I.kIn True.intro e (fun z => nomatch z) h
  | int i => obtain ⟨t, q⟩ := (show ∃ t, u = Value.int i t from rx); cases q; exact PySem.W.kia_one PySem.W.kitx_int I.kIn True.intro e (fun z => nomatch z) h
  | str y => obtain ⟨t, q⟩ := (show ∃ t, u = Value.str y t from rx); cases q; exact PySem.W.kia_one PySem.W.kitx_str I.kIn True.intro e (fun z => nomatch z) h
  | flt y => obtain ⟨t, q⟩ := (show ∃ t, u = Value.float y t from rx); cases q; exact PySem.W.kia_one PySem.W.kitx_float I.kIn True.intro e (fun z => nomatch z) h
  | @lst a xs ea =>
    cases (show u = Value.ref a from rx)
    obtain ⟨_, _, n, _, h1⟩ := (show ObjOk X.prog X.w H s.heap a (.lst xs) from I.hok a _ ea)
    exact PySem.W.kia_one PySem.W.kitx_list I.kIn ⟨_, h1, rfl⟩ e (fun z => nomatch z) h
  | @frz a ob xs ea =>
    cases (show u = Value.ref a from rx)
    obtain ⟨_, _, _, n, _, h1⟩ := (show ObjOk X.prog X.w H s.heap a (.frz ob (.lst xs)) from I.hok a _ ea)
    exact PySem.W.kia_one PySem.W.kitx_list I.kIn ⟨_, h1, rfl⟩ e (fun z => nomatch z) h
  | @tup a xs ea =>
    cases (show u = Value.ref a from rx)
    obtain ⟨_, _, _, p⟩ := (show ObjOk X.prog X.w H s.heap a (.tup xs) from I.hok a _ ea)
    obtain ⟨o, h1, h2, _⟩ := p
    exact PySem.W.kia_one PySem.W.kitx_tuple I.kIn ⟨o, h1, h2⟩ e (fun z => nomatch z) h
  | @dK a kvs ea =>
    cases (show u = Value.ref a from rx)
    obtain ⟨_, _, vs, _, p⟩ := (show ObjOk X.prog X.w H s.heap a (.dK kvs) from I.hok a _ ea)
    obtain ⟨o, es, ep, h1, h2, _⟩ := p
    exact PySem.W.kia_one PySem.W.kitx_dict I.kIn ⟨o, h1, h2.1⟩ e (fun z => nomatch z) h
  | @dT a kvs ea =>
    cases (show u = Value.ref a from rx)
    obtain ⟨_, _, xs, _, o, es, ep, h1, h2, _⟩ := (show ObjOk X.prog X.w H s.heap a (.dT kvs) from I.hok a _ ea)
    exact PySem.W.kia_one PySem.W.kitx_dict I.kIn ⟨o, h1, h2.1⟩ e (fun z => nomatch z) h
  | @ins a C dx fs ea cl ha hn htk hm =>
    cases (show u = Value.ref a from rx)
    obtain ⟨mA, O, _⟩ := ins_get I.hok ea
    obtain ⟨od, J, _⟩ := O.look
    exact PySem.W.kia_one (PySem.W.kitx_own (cl.get _) cl.hd ha hn htk hm) I.kIn J e (fun z => nomatch z) h
end
end L2
namespace L2
open PySem PySem.Spec PyProof.Rows
structure Room (k : Nat) (A : Around) : Prop where
  hd : A.handled = none
  dp : A.depth + 3 * k + 5 < recursionLimit
  un : A.units + 16 * k + 200 < cLine
theorem Room.mono {j k : Nat} {A : Around} (r : Room k A) (h : j ≤ k) : Room j A := ⟨r.hd, by have := r.dp; omega, by have := r.un; omega⟩
theorem Room.deeper {k : Nat} {A : Around} (r : Room (k + 1) A) (env : Env) : Room k (A.deeper env) :=
  ⟨r.hd, by have := r.dp; show A.depth + 1 + 3 * k + 5 < _; omega, by have := r.un; show A.units + 3 + 16 * k + 200 < _; omega⟩
theorem Room.depth {k : Nat} {A : Around} (r : Room k A) : A.depth < recursionLimit := by have := r.dp; omega
theorem Room.units {k : Nat} {A : Around} (r : Room k A) : A.units + 64 < cLine := by have := r.un; omega
def tNil : TA := fun _ H Q => Q [] H
def tCons (ta : TE) (tr : TA) : TA := fun σ H Q => ta σ H fun x H1 => tr σ H1 fun xs H2 => Q (x :: xs) H2
section
variable {X : Cx} {e : Expr} {es : List Expr} {te : TE} {t : TA} {pos : Pos}
theorem pa_nil : PA X [] tNil := fun _ _ _ _ H Q I h => Calls.spliced_nil ⟨[], H, I, .nil, h⟩
theorem pa_cons (ha : PE X e te) (hr : PA X es t) (hs : starEach (e :: es) X.env = (false, eval e X.env) :: starEach es X.env := by rfl) : PA X (e :: es) (tCons te t) := by
  intro pos pins s σ H Q I h
  rw [hs]
  show wpAny _ _ (spliced ((false, eval e X.env) :: backTo pos (starEach es X.env))) _ _ s
  refine Calls.spliced_cons (thn (ha pins s σ H _ I h) fun u s1 ⟨x, H1, I1, r1, q1⟩ => ?_)
  exact thn (hr pos pins s1 σ H1 _ I1 q1) fun us s2 ⟨xs, H2, I2, r2, q2⟩ => ⟨x :: xs, H2, I2, .cons r1 r2, q2⟩
def tTup (t : TA) : TE := fun σ H Q => t σ H fun xs H1 => xs.length ≤ sizeLine ∧ ∀ p, H1 p = none → Q (.ref p) (upd H1 p (.tup xs))
def tLst (t : TA) : TE := fun σ H Q => t σ H fun xs H1 => xs.length ≤ sizeLine ∧ ∀ p, H1 p = none → Q (.ref p) (upd H1 p (.lst xs))
theorem pe_tup {x1} (h : PA X es t) : PE X (.Tuple es x1 pos) (tTup t) := by
  intro pins s σ H Q I hq
  refine wpAny_Tuple_spliced (thn (h pos pins s σ H _ I hq) fun us s1 ⟨xs, H1, I1, r, z, q⟩ => ⟨by rw [← r.length]; exact z, ?_⟩)
  have hf : H1 s1.heap.objs.size = none := I1.hok.fresh (Nat.le_refl _)
  refine ⟨.ref s1.heap.objs.size, upd H1 s1.heap.objs.size (.tup xs), I1.laid (t' := s1.toks) (fun b u e => Heap.get?_push_of_some _ e) (Nat.le_refl _) ?_, rfl, q _ hf⟩
  exact ⟨z, us, r, ⟨_, Heap.get?_push_size _ rfl, rfl, _, rfl⟩⟩
theorem pe_lst (h : PA X es t) : PE X (.List es pos) (tLst t) := by
  intro pins s σ H Q I hq
  refine wpAny_List_spliced (thn (h pos pins s σ H _ I hq) fun us s1 ⟨xs, H1, I1, r, z, q⟩ => ⟨by rw [← r.length]; exact z, ?_⟩)
  have hf : H1 s1.heap.objs.size = none := I1.hok.fresh (Nat.le_refl _)
  refine ⟨.ref s1.heap.objs.size, upd H1 s1.heap.objs.size (.lst xs), I1.laid (t' := s1.toks) (fun b u e => Heap.get?_push_of_some _ e) (Nat.le_refl _) ?_, rfl, q _ hf⟩
  exact ⟨z, us, 0, r, Heap.get?_push_size _ rfl⟩
end
abbrev Sp := List V → Hp → VK → XK → Prop
abbrev CXT := List Env → Hp → Shared → XK → Value → Shared → Prop
structure Env0 (P : Program) (w : World) (K : PySem.W.Frag) (mg : Str → Option Value) (base : Heap) (A : Around) (outer : List Env) (s : Shared) (H : Hp) : Prop where
  frames : A.frames = some outer
  mod : Mod K mg base
  bs : ∀ b o, base.get? b = some o → s.heap.get? b = some o ∧ H b = none
  bsz : base.objs.size ≤ s.heap.objs.size
  funs : s.heap.FunFrames base outer
  frf : ∀ b ∈ frs outer, H b = none
  hok : HOk P w H s.heap
  bare : AllBare s.gens
def CE (outer : List Env) (P : Program) (w : World) (H : Hp) (s : Shared) (Q : VK) (u : Value) (s' : Shared) : Prop :=
  ∃ v H', s'.os = s.os ∧ AllBare s'.gens ∧ Un (frs outer) [] H H' s.heap s'.heap ∧ HOk P w H' s'.heap ∧ RelV v u ∧ Q v H'
def CR (CX : CXT) (outer : List Env) (P : Program) (w : World) (H : Hp) (s : Shared) (Q : VK) (E : XK) (r : Result) (s' : Shared) : Prop :=
  match r with
  | .ok (.ret u) => CE outer P w H s Q u s'
  | .ok _ => False
  | .error e => CX outer H s E e s'
structure FnOk (P : Program) (w : World) (K : PySem.W.Frag) (mg : Str → Option Value) (base : Heap) (CX : CXT) (k : Nat) (f : Addr) (fd : FuncData) (ps : List Str) (sp : Sp) : Prop where
  len : ∀ vs H Q E, sp vs H Q E → vs.length = ps.length
  run : ∀ (A : Around) (outer : List Env) (s : Shared) (H : Hp) (args : Args) (us : List Value) (vs : List V) (Q : VK) (E : XK), Room k A → Env0 P w K mg base A outer s H → BindsTo s fd args (ps.zip us) → Vals vs us → sp vs H Q E →
    codeAny (model P w) A (.call (.ref f) args) (CR CX outer P w H s Q E) s
section
variable {X : Cx} {pins : List (Addr × Obj)} {σ : St} {H : Hp} {s s' : Shared}
theorem Inv.env0 (I : Inv X pins σ H s) : Env0 X.prog X.w X.K X.mg X.base X.A X.stack s H :=
  ⟨I.ok.frames, I.ok.mod, I.bs, Nat.le_trans I.ok.bsz I.sz, I.stack, I.stkFree, I.hok, I.bare⟩
theorem Inv.after {Q : VK} {u : Value} (I : Inv X pins σ H s) (h : CE X.stack X.prog X.w H s Q u s') : EP X pins σ Q u s' := by
  obtain ⟨v, H', os, bare, un, hok, r, q⟩ := h
  obtain ⟨hh, g, d, t, os'⟩ := s'
  obtain rfl : os' = s.os := os
  exact ⟨v, H', I.call (h' := hh) (g' := g) (d' := d) (t' := t) (ch := []) un hok bare (fun b z => absurd z (by simp)), r, q⟩
end
def tCall (sp : Sp) (dvs : List V) (E : XK) (t : TA) : TE := fun σ H Q => t σ H fun vs H1 => sp (vs ++ dvs) H1 Q E
def Binds (K : PySem.W.Frag) (fd : FuncData) (ps : List Str) (ds : List Value) : Prop :=
  ∀ (s : Shared) (us : List Value), K.In s.heap → (us ++ ds).length = ps.length → BindsTo s fd ⟨us, []⟩ (ps.zip (us ++ ds))
theorem Binds.all {K : PySem.W.Frag} {fd : FuncData} {ps : List Str} (h : ∀ us : List Value, us.length = ps.length → bindArgs fd ⟨us, []⟩ = pure (ps.zip us)) : Binds K fd ps [] := fun s us _ hl => by
  rw [List.append_nil] at hl ⊢
  exact .of_eq (h us hl)
def Passes (CX : CXT) (X : Cx) (E : XK) : Prop := ∀ (pins : List (Addr × Obj)) (σ : St) (H : Hp) (s : Shared) (e : Value) (s' : Shared), Inv X pins σ H s → CX X.stack H s E e s' → X.xe e s'
section
variable {X : Cx} {CX : CXT} {k : Nat} {f C : Addr} {fd : FuncData} {ps : List Str} {sp : Sp} {dvs : List V} {ds : List Value} {E : XK} {x m : Str} {p pos apos : Pos} {e o : Expr} {es : List Expr} {ta : TE} {t : TA}
theorem run_fn {pins : List (Addr × Obj)} {σ : St} {H : Hp} {s : Shared} {Q : VK} {us : List Value} {vs : List V} (F : FnOk X.prog X.w X.K X.mg X.base CX k f fd ps sp) (hr : Room k X.A) (hb : Binds X.K fd ps ds) (hd : Vals dvs ds) (hx : Passes CX X E)
    (I : Inv X pins σ H s) (r : Vals vs us) (h : sp (vs ++ dvs) H Q E) : wpAny (model X.prog X.w) X.A (call (.ref f) us) (EP X pins σ Q) X.xe s := by
  have r2 : Vals (vs ++ dvs) (us ++ ds) := r.append hd
  have hl : (us ++ ds).length = ps.length := by rw [← r2.length]; exact F.len _ _ _ _ h
  refine wpAny_call (codeAny_mono (F.run X.A X.stack s H ⟨us, []⟩ (us ++ ds) (vs ++ dvs) Q E hr I.env0 (hb s us I.kIn hl) r2 h) fun r s' hq => ?_)
  cases r with
  | error e => exact hx pins σ H s e s' I hq
  | ok fl =>
    cases fl with
    | ret u => exact I.after hq
    | next => exact False.elim hq
    | brk => exact False.elim hq
    | cont => exact False.elim hq
theorem pe_call (F : FnOk X.prog X.w X.K X.mg X.base CX k f fd ps sp) (hr : Room k X.A) (hg : Gl X x) (hm : X.mg x = some (.ref f)) (hk : PySem.W.keepIn X.K (.ref f) = true) (hb : Binds X.K fd ps ds) (hd : Vals dvs ds) (hx : Passes CX X E)
    (ha : PA X (e :: es) t) (hdb : (x == ("__debug__" : Str)) = false := by decide) (he : starEach (e :: es) X.env = (false, eval e X.env) :: starEach es X.env := by rfl) (hpl : (backTo pos (starEach es X.env)).any (·.1) = false := by rfl) :
    PE X (.Call (.Name x p) (e :: es) [] pos) (tCall sp dvs E t) := by
  intro pins s σ H Q I h
  refine wpAny_Call_Name_kw (ld_glob I hg hm ?_ hdb)
  refine PySem.W.callWith_K (h₀ := X.base) I.ok.mod.kin hk (thn (ha pos pins s σ H _ I h) fun us s1 ⟨vs, H1, I1, r, q⟩ => ⟨I1.kIn, ?_⟩) he hpl
  exact run_fn F hr hb hd hx I1 r q
end
section
variable {X : Cx} {CX : CXT} {k : Nat} {f C : Addr} {fd : FuncData} {ps ks : List Str} {sp : Sp} {E : XK} {x m : Str} {p pos apos kpos : Pos} {e o : Expr} {es : List Expr} {kws : List Keyword} {te ta : TE} {t tk : TA} {nm : Option Str}
variable {g : List Value → List Value → List Value} {gV : List V → List V → List V}
end
structure FnScope (N P : List Str) (sc : Scope) : Prop where
  kind : sc.kind = .function
  co : sc.isCoroutine = false
  gen : sc.isGenerator = false
  nd : N.Nodup
  pre : N.take P.length = P
  par : ∀ x ∈ P, sc.names.lookup x = some .local ∨ sc.names.lookup x = some .cell
  nofree : ∀ y ∈ sc.names, y.2 ≠ .free
theorem bindL_out {kindOf : Str → Option NameKind} {x : Str} : ∀ {binds : List (Str × Value)} {m : Str → Option Value}, (∀ v, (x, v) ∉ binds) → bindL kindOf binds m x = m x
  | [], _, _ => rfl
  | (n, v) :: r, m, h => by
    unfold bindL
    rw [bindL_out fun w hw => h w (List.mem_cons_of_mem _ hw)]
    split
    · have : x ≠ n := by rintro rfl; exact h v List.mem_cons_self
      simp [this]
    · rfl
theorem bindC_out {kindOf : Str → Option NameKind} {x : Str} : ∀ {binds : List (Str × Value)} {m : Str → Option Value}, (∀ v, (x, v) ∉ binds) → bindC kindOf binds m x = m x
  | [], _, _ => rfl
  | (n, v) :: r, m, h => by
    unfold bindC
    rw [bindC_out fun w hw => h w (List.mem_cons_of_mem _ hw)]
    split
    · rfl
    · have : x ≠ n := by rintro rfl; exact h v List.mem_cons_self
      simp [this]
theorem bindL_get {kindOf : Str → Option NameKind} {x : Str} {v : Value} : ∀ {P : List Str} {vs : List Value} {i : Nat} {m : Str → Option Value}, P.Nodup → P[i]? = some x → vs[i]? = some v → kindOf x = some .local →
    bindL kindOf (P.zip vs) m x = some v
  | [], _, _, _, _, h, _, _ => by simp at h
  | _ :: _, [], _, _, _, _, h, _ => by simp at h
  | p :: P, w :: vs, 0, m, nd, h1, h2, hk => by
    simp at h1 h2; subst h1; subst h2
    show bindL kindOf ((p, w) :: P.zip vs) m p = _
    unfold bindL
    rw [bindL_out fun v hv => (List.nodup_cons.mp nd).1 (List.of_mem_zip hv).1, if_pos hk]
    simp
  | p :: P, w :: vs, i + 1, m, nd, h1, h2, hk => by
    show bindL kindOf ((p, w) :: P.zip vs) m x = _
    unfold bindL
    exact bindL_get (i := i) (List.nodup_cons.mp nd).2 (by simpa using h1) (by simpa using h2) hk
theorem bindC_get {kindOf : Str → Option NameKind} {x : Str} {v : Value} : ∀ {P : List Str} {vs : List Value} {i : Nat} {m : Str → Option Value}, P.Nodup → P[i]? = some x → vs[i]? = some v → kindOf x ≠ some .local →
    bindC kindOf (P.zip vs) m x = some v
  | [], _, _, _, _, h, _, _ => by simp at h
  | _ :: _, [], _, _, _, _, h, _ => by simp at h
  | p :: P, w :: vs, 0, m, nd, h1, h2, hk => by
    simp at h1 h2; subst h1; subst h2
    show bindC kindOf ((p, w) :: P.zip vs) m p = _
    unfold bindC
    rw [bindC_out fun v hv => (List.nodup_cons.mp nd).1 (List.of_mem_zip hv).1, if_neg hk]
    simp
  | p :: P, w :: vs, i + 1, m, nd, h1, h2, hk => by
    show bindC kindOf ((p, w) :: P.zip vs) m x = _
    unfold bindC
    exact bindC_get (i := i) (List.nodup_cons.mp nd).2 (by simpa using h1) (by simpa using h2) hk
def start (N : List Str) (vs : List V) : St := vs.map some ++ List.replicate (N.length - vs.length) none
def cxOf (CX : CXT) (P : Program) (w : World) (K : PySem.W.Frag) (mg : Str → Option Value) (base : Heap) (N : List Str) (qual : Str) (scope : Scope) (f : Addr) (cd : Value) (A : Around) (outer : List Env) (s : Shared) (H : Hp) (E : XK) : Cx where
  prog := P
  w := w
  K := K
  mg := mg
  base := base
  A := A.deeper (envOfC qual scope s.heap.objs.size f cd)
  N := N
  s₀ := s
  H₀ := H
  env := envOfC qual scope s.heap.objs.size f cd
  outer := outer
  stack := envOfC qual scope s.heap.objs.size f cd :: outer
  ex := []
  calm := true
  fn := fun _ => true
  pn := []
  xe := fun e s' => wpAny (model P w) (A.deeper (envOfC qual scope s.heap.objs.size f cd)) (leaving (envOfC qual scope s.heap.objs.size f cd) e) (fun _ s'' => CX outer H s E e s'') (fun e' s'' => CX outer H s E e' s'') s'
theorem cell_has {sc : Scope} {n : Nat} {x : Str} (h : sc.names.lookup x = some .cell) : ∃ c, (cellsFrom n sc.names []).lookup x = some c := by
  have q := PySem.W.cellsFrom_some sc.names n [] (.inl h)
  exact Option.isSome_iff_exists.mp q
theorem inv_start {CX : CXT} {P : Program} {w : World} {K : PySem.W.Frag} {mg : Str → Option Value} {base : Heap} {N ps : List Str} {qual : Str} {scope : Scope} {f : Addr} {cd : Value} {A : Around} {outer : List Env} {s s1 : Shared} {H : Hp} {E : XK} {us : List Value} {vs : List V}
    (S : FnScope N ps scope) (hd : A.handled = none) (e0 : Env0 P w K mg base A outer s H) (hl : vs.length = ps.length) (r : Vals vs us)
    (x : InCallC s s.heap.objs.size (bindL (envOfC qual scope s.heap.objs.size f cd).kindOf (ps.zip us) fun _ => none) (cellsFrom (s.heap.objs.size + 1) scope.names []) (bindC (envOfC qual scope s.heap.objs.size f cd).kindOf (ps.zip us) fun _ => none) s1) :
    Inv (cxOf CX P w K mg base N qual scope f cd A outer s H E) [] (start N vs) H s1 := by
  have hpl : ps.length ≤ N.length := by have := congrArg List.length S.pre; rw [List.length_take] at this; omega
  obtain ⟨h1, tk, rfl, hk⟩ := x.done
  have noA : ∀ b : Addr, b ∉ (cxOf CX P w K mg base N qual scope f cd A outer s H E).ex := fun b z => absurd (show b ∈ ([] : List Addr) from z) (by simp)
  refine ⟨⟨e0.mod, S.kind, rfl, rfl, Nat.le_refl _, fun y z c h1 h2 => ?_, fun y hy => ?_, fun y c _ h => ?_, fun _ => hd, Around.frames_deeper e0.frames, .inr ⟨rfl, rfl⟩, fun b z => absurd z (noA b), e0.bs, e0.bsz, fun b _ _ => noA b, fun b z => absurd z (noA b), e0.funs, e0.frf⟩,
    rfl, e0.bare, Un.kept hk, ⟨_, x.toInCall.ns, fun i y v h1 h2 h3 => ?_⟩, fun y c h => ⟨_, x.cell y c h⟩, e0.hok.fresh (Nat.le_refl _), fun y c h => ?_, fun p hp => absurd (show p ∈ ([] : List (Addr × Obj)) from hp) (by simp), e0.hok.kept hk, ?_⟩
  · exact name_of_addr x.apart (PySem.mem_of_lookup h1) (PySem.mem_of_lookup h2)
  · have hy : scope.names.lookup y = some .cell ∨ scope.names.lookup y = some .free := hy
    rcases hy with hy | hy
    · exact cell_has hy
    · exact absurd rfl (S.nofree _ (PySem.mem_of_lookup hy))
  · exact Nat.le_of_lt (x.above y c (PySem.mem_of_lookup h))
  · have hi : i < vs.length := by
      unfold start at h2
      by_cases hi : i < vs.length
      · exact hi
      · rw [List.getElem?_append_right (by simpa using hi)] at h2
        rw [List.getElem?_replicate] at h2
        split at h2 <;> cases h2
    have ha : vs[i]? = some v := by
      unfold start at h2
      rw [List.getElem?_append_left (by simpa using hi), List.getElem?_map] at h2
      cases e : vs[i]? with
      | none => rw [e] at h2; cases h2
      | some a => rw [e] at h2; cases h2; rfl
    obtain ⟨u, hu, rv⟩ := r.get ha
    have hp : ps[i]? = some y := by
      rw [← S.pre, List.getElem?_take_of_lt (by omega)]; exact h1
    have ndP : ps.Nodup := by rw [← S.pre]; exact S.nd.sublist (List.take_sublist _ _)
    refine ⟨u, rv, ?_⟩
    rcases S.par y (List.mem_of_getElem? hp) with k | k
    · exact .inl ⟨k, bindL_get ndP hp hu k⟩
    · obtain ⟨c, e⟩ := cell_has (n := s.heap.objs.size + 1) k
      refine .inr ⟨.inl k, c, e, ?_⟩
      have q := x.cell y c e
      rw [bindC_get ndP hp hu (by show scope.names.lookup y ≠ _; rw [k]; decide)] at q
      exact q
  · exact e0.hok.fresh (Nat.le_of_lt (x.above y c (PySem.mem_of_lookup h)))
  · unfold start
    show _ = N.length
    rw [List.length_append, List.length_map, List.length_replicate]
    omega
theorem fn_of {CX : CXT} {P : Program} {w : World} {K : PySem.W.Frag} {mg : Str → Option Value} {base : Heap} {k : Nat} {f : Addr} {name qual : Str} {params : Arguments} {body : List Stmt} {scope : Scope} {dV kV doc pm cdv ct oc : Value} {an od : Option Addr}
    {osl : Array (Option Value)} {N ps : List Str} {sp : Sp} (lk : K.lookup f = some ⟨oc, od, .func (PySem.W.fnOf name qual params body scope dV kV doc pm an cdv ct), osl⟩) (hcd : PySem.W.codeIn K cdv qual = true) (S : FnScope N ps scope)
    (len : ∀ vs H Q E, sp vs H Q E → vs.length = ps.length)
    (hbody : ∀ (A : Around) (outer : List Env) (s : Shared) (H : Hp) (vs : List V) (Q : VK) (E : XK), Room k (A.deeper (envOfC qual scope s.heap.objs.size f cdv)) → sp vs H Q E →
      ∃ t, PSs (cxOf CX P w K mg base N qual scope f cdv A outer s H E) body t ∧ t { nx := fun _ H' => Q .non H', rt := Q } (start N vs) H) :
    FnOk P w K mg base CX (k + 1) f (PySem.W.fnOf name qual params body scope dV kV doc pm an cdv ct) ps sp := by
  refine ⟨len, fun A outer s H args us vs Q E hr e0 hb r hsp => ?_⟩
  have hl := len _ _ _ _ hsp
  have KX : K.In s.heap := e0.mod.kin.keeps fun b o e => (e0.bs b o e).1
  have lim : s.heap.NoLimit := e0.mod.nolimit.keeps fun b o e => (e0.bs b o e).1
  have hkind : ∀ y ∈ ps.zip us, scope.names.lookup y.1 = some .local ∨ (scope.names.lookup y.1 = some .cell ∧ ((cellsFrom (s.heap.objs.size + 1) scope.names []).lookup y.1).isSome = true) := fun ⟨n, v⟩ hy => by
    rcases S.par n (List.of_mem_zip hy).1 with q | q
    · exact .inl q
    · exact .inr ⟨q, PySem.W.cellsFrom_some _ _ _ (.inl q)⟩
  refine codeAny_call_function hr.depth (KX _ _ lk) rfl S.co S.gen rfl (PySem.W.codeRec_of KX hcd) (hb _ _ _ _ ?_)
  refine wpAny_newFunctionEnv_cells S.kind hkind fun env he s1 x => ?_
  subst he
  refine ⟨lim.keeps x.toInCall.keep, codeAny_func ?_⟩
  obtain ⟨t, ht, hq⟩ := hbody A outer s H vs Q E (hr.deeper _) hsp
  have I : Inv (cxOf CX P w K mg base N qual scope f cdv A outer s H E) [] (start N vs) H s1 := inv_start S hr.hd e0 hl r x
  refine wpAny_mono (ht [] s1 (start N vs) H _ I hq) (fun fl s' hs => ?_) fun e s' hs => hs
  have fin : ∀ {σ' : St} {H' : Hp} {v : V} {u : Value}, Inv (cxOf CX P w K mg base N qual scope f cdv A outer s H E) [] σ' H' s' → RelV v u → Q v H' → CE outer P w H s Q u s' :=
    fun {σ' H' v u} J rv q => ⟨v, H', J.os, J.bare, J.base, J.hok, rv, q⟩
  cases fl with
  | ret u =>
    obtain ⟨v, σ', H', J, rv, q⟩ := hs
    exact fin J rv q
  | next =>
    obtain ⟨σ', H', J, q⟩ := hs
    exact fin (v := V.non) (u := Value.none) J rfl q
  | brk =>
    obtain ⟨_, _, _, q⟩ := hs
    exact False.elim q
  | cont =>
    obtain ⟨_, _, _, q⟩ := hs
    exact False.elim q
end L2
namespace L2
open PySem PySem.Spec PyProof.Rows
section
variable {X : Cx} {x : Str} {p pos : Pos} {e : Expr} {es : List Expr} {t : TA} {id T : String} {r : List V → Hp → VK → Prop}
def tCB (r : List V → Hp → VK → Prop) (t : TA) : TE := fun σ H Q => t σ H fun vs H1 => r vs H1 Q
theorem pe_callB (hc : CallR X (.builtin id) r) (hg : Gl X x) (hm : X.mg x = none) (hv : bootBuiltins x = some (.builtin id)) (ha : PA X (e :: es) t) (hn : x ≠ "__name__" := by decide) (hdb : (x == ("__debug__" : Str)) = false := by decide)
    (he : starEach (e :: es) X.env = (false, eval e X.env) :: starEach es X.env := by rfl) (hpl : (backTo pos (starEach es X.env)).any (·.1) = false := by rfl) : PE X (.Call (.Name x p) (e :: es) [] pos) (tCB r t) := by
  intro pins s σ H Q I h
  refine wpAny_Call_Name_kw (ld_blt I hg hm hv ?_ hn hdb)
  exact PyProof.Rows.callWith_builtin1 (thn (ha pos pins s σ H _ I h) fun us s1 ⟨vs, H1, I1, r1, q1⟩ => hc pins s1 σ H1 vs us Q I1 r1 q1) he hpl
theorem pe_callTy (hc : CallR X (.type T) r) (hg : Gl X x) (hm : X.mg x = none) (hv : bootBuiltins x = some (.type T)) (ha : PA X (e :: es) t) (hn : x ≠ "__name__" := by decide) (hdb : (x == ("__debug__" : Str)) = false := by decide)
    (he : starEach (e :: es) X.env = (false, eval e X.env) :: starEach es X.env := by rfl) (hpl : (backTo pos (starEach es X.env)).any (·.1) = false := by rfl) : PE X (.Call (.Name x p) (e :: es) [] pos) (tCB r t) := by
  intro pins s σ H Q I h
  refine wpAny_Call_Name_kw (ld_blt I hg hm hv ?_ hn hdb)
  exact PyProof.Rows.callWith_type1 (thn (ha pos pins s σ H _ I h) fun us s1 ⟨vs, H1, I1, r1, q1⟩ => hc pins s1 σ H1 vs us Q I1 r1 q1) he hpl
end
end L2
namespace HT
open PySem PyProof.Rows
section
open PySem.SeqAt
open PySem.AutoSeq1 (wpAny_loadPart')
open PySem.MeetsSeq PySem.MeetsSeq2 PySem.MeetsSeq3
end
section
variable {prog : Program} {w : World} {A : Around} {E : Value → Shared → Prop} {s : Shared}
def sIx (n d : Nat) : Option Int → Nat
  | none => d
  | some v => if v < 0 then (v + (n : Int)).toNat else min v.toNat n
theorem sIx_none (n d : Nat) : sIx n d none = d := rfl
theorem sIx_nat (n d k : Nat) : sIx n d (some (k : Int)) = min k n := by
  show (if (k : Int) < 0 then ((k : Int) + (n : Int)).toNat else min (k : Int).toNat n) = min k n
  rw [if_neg (by omega), Int.toNat_natCast]
end
end HT
namespace L2
open PySem PySem.Spec PyProof.Rows
abbrev TO := St → Hp → (Option Int → Hp → Prop) → Prop
def PO (X : Cx) (e : Option Expr) (t : TO) : Prop :=
  ∀ (pins : List (Addr × Obj)) (s : Shared) (σ : St) (H : Hp) (Q : Option Int → Hp → Prop), Inv X pins σ H s → t σ H Q →
    wpAny (model X.prog X.w) X.A (evalPart e X.env) (fun u s' => ∃ o H', Inv X pins σ H' s' ∧ IsPart u o ∧ Q o H') X.xe s
def tNoPart : TO := fun _ H Q => Q none H
def tPart (t : TE) : TO := fun σ H Q => t σ H fun x H1 => ∃ i, x = .int i ∧ Q (some i) H1
theorem intsAre_of {ns : List Int} : ∀ {us : List Value}, Vals (ns.map V.int) us → IntsAre us ns := by
  induction ns with
  | nil => intro us r; rw [List.map_nil] at r; cases r; exact .nil
  | cons n ns ih =>
    intro us r
    rw [List.map_cons] at r
    cases r with
    | cons r1 r2 =>
      obtain ⟨t, e⟩ := r1
      subst e
      exact .cons n t (ih r2)
section
variable {X : Cx} {e : Expr} {te : TE} {lo hi : Option Expr} {tl th : TO} {pos p2 : Pos}
theorem po_none : PO X none tNoPart := by
  intro pins s σ H Q I h
  rw [evalPart_none]
  exact wpAny_pure ⟨none, H, I, .none, h⟩
theorem po_some (h : PE X e te) : PO X (some e) (tPart te) := by
  intro pins s σ H Q I hw
  rw [evalPart_some]
  refine thn (h pins s σ H _ I hw) fun u s1 ⟨x, H1, I1, r1, q1⟩ => ?_
  obtain ⟨i, rfl, q⟩ := q1
  obtain ⟨t, rfl⟩ := r1
  exact ⟨some i, H1, I1, .int i t, q⟩
def SlR (X : Cx) (r : V → Option Int → Option Int → Hp → VK → Prop) : Prop :=
  ∀ (pins : List (Addr × Obj)) (s : Shared) (σ : St) (H : Hp) (x : V) (v vl vu : Value) (lo hi : Option Int) (sl : Addr) (Q : VK), Inv X pins σ H s → RelV x v → s.heap.IsSliceOf sl vl vu .none → IsPart vl lo → IsPart vu hi → r x lo hi H Q →
    ∃ T id, typeLookup (.type T) "__getitem__" = pure (some (.builtin id)) ∧ s.TypeIs v T ∧ wpAny (model X.prog X.w) X.A (getItem v (.ref sl)) (EP X pins σ Q) X.xe s
def tSl (r : V → Option Int → Option Int → Hp → VK → Prop) (te : TE) (tl th : TO) : TE := fun σ H Q => te σ H fun x H1 => tl σ H1 fun l H2 => th σ H2 fun u H3 => r x l u H3 Q
theorem pe_slice {r : V → Option Int → Option Int → Hp → VK → Prop} (hr : SlR X r) (he : PE X e te) (hl : PO X lo tl) (hu : PO X hi th) : PE X (.Subscript e (.Slice lo hi none p2) pos) (tSl r te tl th) := by
  intro pins s σ H Q I h
  refine Subscript_ (thn (he pins s σ H _ I h) fun v s1 ⟨x, H1, I1, r1, q1⟩ => ?_)
  refine wpAny_Slice (thn (hl pins s1 σ H1 _ I1 q1) fun vl s2 ⟨l, H2, I2, pl, q2⟩ => thn (hu pins s2 σ H2 _ I2 q2) fun vu s3 ⟨u, H3, I3, pu, q3⟩ => ?_)
  rw [evalPart_none]
  refine wpAny_pure ?_
  have I4 : Inv X pins σ H3 { s3 with heap := s3.heap.push { cls := .type "slice", data := .fields #[vl, vu, .none] } } := I3.kept (t' := s3.toks) fun b ob q => Heap.get?_push_of_some _ q
  obtain ⟨T, id, hT, ht, hg⟩ := hr pins { s3 with heap := s3.heap.push { cls := .type "slice", data := .fields #[vl, vu, .none] } } σ H3 x v vl vu l u s3.heap.objs.size Q I4 r1 (Heap.IsSliceOf.new ..) pl pu q3
  show wpAny (model X.prog X.w) X.A (subscriptTail e (.Slice lo hi none p2) v (.ref s3.heap.objs.size)) (EP X pins σ Q) X.xe { s3 with heap := s3.heap.push { cls := .type "slice", data := .fields #[vl, vu, .none] } }
  exact tail_any (ops := [.ref s3.heap.objs.size, v]) ht hT hg (by with_unfolding_all rfl)
def cutV (xs : List V) (lo hi : Option Int) : List V := (xs.drop (HT.sIx xs.length 0 lo)).take (HT.sIx xs.length xs.length hi - HT.sIx xs.length 0 lo)
theorem cutV_length (xs : List V) (lo hi : Option Int) : (cutV xs lo hi).length ≤ xs.length := by
  unfold cutV
  rw [List.length_take, List.length_drop]
  omega
end
end L2
namespace L2
open PySem PySem.Spec PyProof.Rows
def ixN (n : Nat) (i : Int) : Option Nat := if 0 ≤ i then (if i < n then some i.toNat else none) else if -(n : Int) ≤ i then some (i + n).toNat else none
def atI {α : Type} (xs : List α) (i : Int) : Option α := (ixN xs.length i).bind fun j => xs[j]?
theorem ixN_seq {n : Nat} {i : Int} {j : Nat} (h : ixN n i = some j) : seqIndex? i n = some j ∧ j < n ∧ -(n : Int) ≤ i ∧ i < n := by
  unfold ixN at h
  by_cases h0 : 0 ≤ i
  · rw [if_pos h0] at h
    by_cases h1 : i < n
    · rw [if_pos h1] at h
      have e : i.toNat = j := Option.some.inj h
      exact ⟨by rw [seqIndex_of h0 h1, e], by omega, by omega, h1⟩
    · rw [if_neg h1] at h; cases h
  · rw [if_neg h0] at h
    by_cases h1 : -(n : Int) ≤ i
    · rw [if_pos h1] at h
      have e : (i + n).toNat = j := Option.some.inj h
      exact ⟨by rw [seqIndex_neg (by omega) h1, e], by omega, h1, by omega⟩
    · rw [if_neg h1] at h; cases h
theorem atI_get {α : Type} {xs : List α} {i : Int} {v : α} (h : atI xs i = some v) : ∃ j, seqIndex? i xs.length = some j ∧ xs[j]? = some v ∧ j < xs.length ∧ -(xs.length : Int) ≤ i ∧ i < xs.length := by
  unfold atI at h
  cases e : ixN xs.length i with
  | none => rw [e] at h; cases h
  | some j =>
    rw [e] at h
    obtain ⟨h1, h2, h3, h4⟩ := ixN_seq e
    exact ⟨j, h1, h, h2, h3, h4⟩
theorem atI_nat {α : Type} {xs : List α} {j : Nat} {v : α} (h : xs[j]? = some v) : atI xs (j : Int) = some v := by
  have hj : j < xs.length := (List.getElem?_eq_some_iff.mp h).1
  have e : ixN xs.length (j : Int) = some j := by
    unfold ixN
    rw [if_pos (by omega), if_pos (by omega)]; simp
  unfold atI; rw [e]; exact h
def PlainIx (b : Expr) : Prop := ∀ o i, subscripted b false o i = operate [o, i] (getItem o i)
def IxR (X : Cx) (r : R2) : Prop :=
  ∀ (value slice : Expr) (pins : List (Addr × Obj)) (s : Shared) (σ : St) (H : Hp) (x y : V) (v u : Value) (Q : VK), Inv X pins σ H s → RelV x v → RelV y u → r x y H Q →
    subscripted slice false v u = operate [v, u] (getItem v u) → wpAny (model X.prog X.w) X.A (subscriptTail value slice v u) (EP X pins σ Q) X.xe s
def MtR (X : Cx) (id : String) (r : V → List V → Hp → VK → Prop) : Prop :=
  ∀ (pins : List (Addr × Obj)) (s : Shared) (σ : St) (H : Hp) (x : V) (xs : List V) (v : Value) (us : List Value) (Q : VK), Inv X pins σ H s → RelV x v → Vals xs us → r x xs H Q →
    wpAny (model X.prog X.w) X.A (call (.builtin id) (v :: us)) (EP X pins σ Q) X.xe s
section
variable {X : Cx} {a b : Expr} {ta tb : TE} {pos : Pos}
theorem pe_ix {r : R2} (hr : IxR X r) (ha : PE X a ta) (hb : PE X b tb) (hs : PlainIx b) : PE X (.Subscript a b pos) (tOp r ta tb) := by
  intro pins s σ H Q I h
  exact Subscript_ (binT ha hb I h fun v u s2 x y H2 I2 rx ry q => hr a b pins s2 σ H2 x y v u Q I2 rx ry q (hs _ _))
def rIxL (K : PySem.W.Frag) : R2 := fun x y H Q => ∃ p xs i v, x = .ref p ∧ y = .int i ∧ SqL K H p xs ∧ atI xs i = some v ∧ Q v H
theorem ix_list : IxR X (rIxL X.K) := by
  intro value slice pins s σ H x y v u Q I rx ry h hs
  obtain ⟨p, xs, i, z, rfl, rfl, hq, he, q⟩ := h
  cases rx
  obtain ⟨t, rfl⟩ := ry
  obtain ⟨its, r, pl, hz⟩ := I.list hq
  obtain ⟨j, h1, h2, h3, h4, h5⟩ := atI_get he
  obtain ⟨w, ew, rw'⟩ := r.get h2
  have hl := r.length
  have hn := line63
  have fin : EP X pins σ Q w s := ⟨z, H, I, rw', q⟩
  by_cases h0 : 0 ≤ i
  · have hj : i.toNat = j := by
      rw [seqIndex_of h0 h5] at h1
      exact Option.some.inj h1
    exact item_listR pl.isList h0 (by omega) (by rw [hj]; simpa using ew) fin hs
  · have hj : (i + (its.toArray.size : Int)).toNat = j := by
      rw [seqIndex_neg (by omega) h4] at h1
      rw [List.size_toArray, ← hl]
      exact Option.some.inj h1
    exact subscriptTail_builtinR (x := w) pl.isList.typeIs slot_list_getitem.lookup
      (wpAny_getItem_list_neg (Q := fun r s' => r = w ∧ EP X pins σ Q r s') pl.isList (by omega) (by rw [List.size_toArray] <;> omega) (by omega) (by rw [hj]; simpa using ew) ⟨rfl, fin⟩) hs
theorem slice_bounds (lo hi : Option Int) (n : Nat) : (sliceBounds lo hi none n).1 = ((HT.sIx n 0 lo : Nat) : Int) ∧ (sliceBounds lo hi none n).2.1 = ((HT.sIx n n hi : Nat) : Int) ∧ (sliceBounds lo hi none n).2.2 = 1 := by
  refine ⟨?_, ?_, rfl⟩
  · cases lo with
    | none => simp [sliceBounds, HT.sIx]
    | some i =>
      simp only [sliceBounds, HT.sIx, Option.getD_none, show (1 : Int) > 0 by decide, if_true]
      by_cases h : i < 0
      · simp only [h, if_true] <;> omega
      · simp only [h, if_false] <;> omega
  · cases hi with
    | none => simp [sliceBounds, HT.sIx]
    | some i =>
      simp only [sliceBounds, HT.sIx, Option.getD_none, show (1 : Int) > 0 by decide, if_true]
      by_cases h : i < 0
      · simp only [h, if_true] <;> omega
      · simp only [h, if_false] <;> omega
theorem slicePick_cut (its : List Value) (lo hi : Option Int) : slicePick its.toArray lo hi none = ((its.drop (HT.sIx its.length 0 lo)).take (HT.sIx its.length its.length hi - HT.sIx its.length 0 lo)).toArray := by
  obtain ⟨h1, h2, h3⟩ := slice_bounds lo hi its.toArray.size
  unfold slicePick
  rw [h1, h2, h3]
  simp only [sliceRange_one, pick_run, List.size_toArray] <;> rfl
def rSlL (K : PySem.W.Frag) : V → Option Int → Option Int → Hp → VK → Prop := fun x lo hi H Q => ∃ a xs, x = .ref a ∧ SqL K H a xs ∧ ∀ p, H p = none → Q (.ref p) (upd H p (.lst (cutV xs lo hi)))
theorem sl_list : SlR X (rSlL X.K) := by
  intro pins s σ H x v vl vu lo hi sl Q I rx hs pl pu h
  obtain ⟨a, xs, rfl, hx, q⟩ := h
  cases rx
  obtain ⟨its, r, ht, hz⟩ := I.list hx
  have hlen := r.length
  refine ⟨"list", _, slot_list_getitem.lookup, ht.isList.typeIs, ?_⟩
  refine wpAny_getItem_list_slice ht.isList hs pl pu .none (by simp) ?_ (by rw [List.size_toArray] <;> omega)
  rw [slicePick_cut, ← hlen]
  refine ⟨.ref s.heap.objs.size, _, I.laid (t' := s.toks) (o := .lst (cutV xs lo hi)) (fun b ob q => Heap.get?_push_of_some _ q) (Nat.le_refl _) ?_, rfl, q _ (I.hok.fresh (Nat.le_refl _))⟩
  exact ⟨Nat.le_trans (cutV_length xs lo hi) hz, _, 0, (r.drop (HT.sIx xs.length 0 lo)).take (HT.sIx xs.length xs.length hi - HT.sIx xs.length 0 lo), Heap.get?_push_size _ rfl⟩
theorem call_len_seq : CallR X (.builtin "len") (fun xs H Q => ∃ p ys, xs = [.ref p] ∧ (SqL X.K H p ys ∨ SqT X.K H p ys) ∧ Q (.int ys.length) H) := by
  intro pins s σ H xs us Q I r h
  obtain ⟨p, ys, rfl, hq, q⟩ := h
  obtain ⟨u, rfl, rx⟩ := vals1 r
  cases rx
  have hn := line63
  rcases hq with hq | hq
  · obtain ⟨its, r', pl, hz⟩ := I.list hq
    have hlen := r'.length
    exact Calls.call_len_list pl.isList (by simp only [List.size_toArray] <;> omega) ⟨.int ys.length, H, I.tok _, ⟨s.toks + 1, by rw [List.size_toArray, hlen]⟩, q⟩
  · obtain ⟨its, r', pl, hz⟩ := I.tuple hq
    have hlen := r'.length
    exact len_tuple pl (by simp only [List.size_toArray] <;> omega) ⟨.int ys.length, H, I.tok _, ⟨s.toks + 1, by rw [List.size_toArray, hlen]⟩, q⟩
theorem call_list_of : CallR X (.type "list") (fun xs H Q => ∃ p ys, xs = [.ref p] ∧ (SqL X.K H p ys ∨ SqT X.K H p ys) ∧ ∀ l, H l = none → Q (.ref l) (upd H l (.lst ys))) := by
  intro pins s σ H xs us Q I r h
  obtain ⟨p, ys, rfl, hq, q⟩ := h
  obtain ⟨u, rfl, rx⟩ := vals1 r
  cases rx
  have fin : ∀ (its : List Value), Vals ys its → ys.length ≤ sizeLine → ∀ (h' : Heap) (c' : Nat), (∀ b o', s.heap.get? b = some o' → h'.get? b = some o') →
      h'.get? s.heap.objs.size = some { cls := .type "list", dict := none, data := .seq its.toArray c', slots := #[] } → EP X pins σ Q (.ref s.heap.objs.size) { s with heap := h' } := fun its r' hz h' c' kp e =>
    ⟨.ref s.heap.objs.size, _, I.laid (t' := s.toks) kp (Nat.le_refl _) (show ObjOk X.prog X.w _ h' _ (.lst ys) from ⟨hz, its, c', r', e⟩), rfl, q _ (I.hok.fresh (Nat.le_refl _))⟩
  rcases hq with hq | hq
  · obtain ⟨its, r', pl, hz⟩ := I.list hq
    have hlen := r'.length
    obtain ⟨o, ho, hc, n, hd⟩ := pl.isList
    exact call_list_seq p (.inl rfl) ho hc hd (fun h' c' kp e => fin its r' hz h' c' kp e) (by simp only [List.size_toArray] <;> omega)
  · obtain ⟨its, r', pl, hz⟩ := I.tuple hq
    have hlen := r'.length
    obtain ⟨o, ho, hc, n, hd⟩ := pl
    exact call_list_seq p (.inr rfl) ho hc hd (fun h' c' kp e => fin its r' hz h' c' kp e) (by simp only [List.size_toArray] <;> omega)
theorem call_tuple_of : CallR X (.type "tuple") (fun xs H Q => ∃ p ys, xs = [.ref p] ∧ ((SqL X.K H p ys ∧ ∀ l, H l = none → Q (.ref l) (upd H l (.tup ys))) ∨ (SqT X.K H p ys ∧ Q (.ref p) H))) := by
  intro pins s σ H xs us Q I r h
  obtain ⟨p, ys, rfl, h⟩ := h
  obtain ⟨u, rfl, rx⟩ := vals1 r
  cases rx
  rcases h with ⟨hq, q⟩ | ⟨hq, q⟩
  · obtain ⟨its, r', pl, hz⟩ := I.list hq
    have hlen := r'.length
    refine call_tuple_list pl.isList (fun h' kp => ?_) (by simp only [List.size_toArray] <;> omega)
    have I1 : Inv X pins σ H { s with heap := h' } := I.kept (t' := s.toks) kp
    have I2 : Inv X pins σ (upd H h'.objs.size (.tup ys)) { s with heap := h'.push { cls := .type "tuple", data := .seq its.toArray } } :=
      I1.laid (t' := s.toks) (fun b o e => Heap.get?_push_of_some _ e) (Nat.le_refl _) (show ObjOk X.prog X.w _ _ _ (.tup ys) from ⟨hz, its, r', IsTup.new _ _⟩)
    exact ⟨.ref h'.objs.size, _, I2, rfl, q _ (I1.hok.fresh (Nat.le_refl _))⟩
  · obtain ⟨its, r', pl, hz⟩ := I.tuple hq
    exact call_tuple_same pl ⟨.ref p, H, I, rfl, q⟩
def tyV (K : PySem.W.Frag) (T : String) (x : V) (H : Hp) : Prop := match x with
  | .str _ => T = "str"
  | .int _ => T = "int"
  | .ref p => (T = "list" ∧ ∃ xs, SqL K H p xs) ∨ (T = "tuple" ∧ ∃ o, K.lookup p = some o ∧ o.cls = .type "tuple" ∧ o.dict = none) ∨
      (T = "dict" ∧ ((∃ kvs, H p = some (.dK kvs)) ∨ ∃ kvs, H p = some (.dT kvs))) ∨ (T = "set" ∧ ∃ S n, H p = some (.set S n))
  | _ => False
theorem tyV_is {pins : List (Addr × Obj)} {σ : St} {H : Hp} {s : Shared} {T : String} {x : V} {v : Value} (I : Inv X pins σ H s) (r : RelV x v) (ty : tyV X.K T x H) :
    s.TypeIs v T ∧ ∀ a, v = .ref a → ∃ ob, s.heap.get? a = some ob ∧ ob.dict = none := by
  cases x with
  | str z =>
    obtain ⟨t, rfl⟩ := r
    cases (show T = "str" from ty)
    exact ⟨typeIs_str s z t, fun _ e => nomatch e⟩
  | int i =>
    obtain ⟨t, rfl⟩ := r
    cases (show T = "int" from ty)
    exact ⟨typeIs_int s i t, fun _ e => nomatch e⟩
  | ref p =>
    cases r
    rcases ty with ⟨rfl, xs, hq⟩ | ⟨rfl, o, hk, hc, hd⟩ | ⟨rfl, hk⟩ | ⟨rfl, S, n, hk⟩
    · obtain ⟨its, _, pl, _⟩ := I.list hq
      refine ⟨pl.isList.typeIs, fun a e => ?_⟩
      cases e
      obtain ⟨o, n, e, c, hd, _⟩ := pl
      exact ⟨o, e, hd⟩
    · refine ⟨⟨o, I.kIn p o hk, hc⟩, fun a e => ?_⟩
      cases e
      exact ⟨o, I.kIn _ o hk, hd⟩
    · have z : ∃ o, s.heap.get? p = some o ∧ o.ExactDict := by
        rcases hk with ⟨kvs, hk⟩ | ⟨kvs, hk⟩
        · obtain ⟨_, _, _, _, o, _, _, e, ex, _⟩ := I.hok p _ hk
          exact ⟨o, e, ex⟩
        · obtain ⟨_, _, _, _, o, _, _, e, ex, _⟩ := I.hok p _ hk
          exact ⟨o, e, ex⟩
      obtain ⟨o, e, ex⟩ := z
      refine ⟨⟨o, e, ex.1⟩, fun a e2 => ?_⟩
      cases e2
      exact ⟨o, e, ex.2.1⟩
    · obtain ⟨o, _, _, _, e, ex, _⟩ := I.hok p _ hk
      refine ⟨⟨o, e, ex.1⟩, fun a e2 => ?_⟩
      cases e2
      exact ⟨o, e, ex.2.1⟩
  | _ => exact False.elim ty
def tBM (K : PySem.W.Frag) (T : String) (r : V → List V → Hp → VK → Prop) (to : TE) (t : TA) : TE := fun σ H Q => to σ H fun x H1 => tyV K T x H1 ∧ t σ H1 fun xs H2 => r x xs H2 Q
variable {o e : Expr} {es : List Expr} {to : TE} {t : TA} {name : Str} {apos cpos : Pos} {T id : String} {r : V → List V → Hp → VK → Prop}
theorem pe_bm (pa : PlainAttrs T) (slot : Slot T name id) (hty : typeOf (.builtin id) = pure (.type "method_descriptor")) (hm : MtR X id r) (ho : PE X o to) (ha : PA X (e :: es) t)
    (hbase : attributeBase o name X.env (eval o X.env) = eval o X.env := by rfl)
    (hfew : ((backTo cpos (starEach (e :: es) X.env)).all (fun x => !x.1) && (backToKw cpos (keywordEach [] X.env)).all (fun x => x.1.isSome)
      && decide ((e :: es).length + ([] : List Keyword).length + (if ([] : List Keyword).isEmpty then 0 else 1) < 30)) = true := by rfl)
    (hline : (apos.endLine == cpos.line) = true := by rfl) (hs : starEach (e :: es) X.env = (false, eval e X.env) :: starEach es X.env := by rfl) (hplain : (backTo cpos (starEach es X.env)).any (·.1) = false := by rfl) :
    PE X (.Call (.Attribute o name apos) (e :: es) [] cpos) (tBM X.K T r to t) := by
  intro pins s σ H Q I h
  refine wpAny_Call_method_late hbase hfew hline rfl (thn (ho pins s σ H _ I h) fun v s1 ⟨x, H1, I1, r1, ty, q1⟩ => ?_)
  obtain ⟨h1, h2⟩ := tyV_is I1 r1 ty
  refine ⟨T, id, pa, slot, hty, h1, h2, ?_⟩
  have hA := ha cpos pins s1 σ H1 _ I1 q1
  rw [hs] at hA ⊢
  refine Calls.callWith_builtin (by show (false || (backTo cpos (starEach es X.env)).any (·.1)) = false; rw [hplain] <;> rfl) (Calls.evalArgs_plain ?_)
  exact thn hA fun us s2 ⟨vs, H2, I2, r2, q2⟩ => hm pins s2 σ H2 x vs v us Q I2 r1 r2 q2
end
end L2
namespace L2
open PySem PySem.Spec PyProof.Rows
def MtM (X : Cx) (id : String) (r : V → List V → Hp → VK → Prop) : Prop :=
  ∀ (pins : List (Addr × Obj)) (s : Shared) (σ : St) (H : Hp) (x : V) (xs : List V) (v : Value) (us : List Value) (Q : VK), Inv X pins σ H s → RelV x v → Vals xs us → r x xs H Q →
    wpAny (model X.prog X.w) X.A (call (.builtin id) (v :: us)) (EP X pins σ Q) X.xe s
theorem Vals.one : ∀ {x : V} {us : List Value}, Vals [x] us → ∃ u, us = [u] ∧ RelV x u
  | _, _, .cons r .nil => ⟨_, rfl, r⟩
section
variable {X : Cx} {pins : List (Addr × Obj)} {σ : St} {H : Hp} {s : Shared} {l b : Addr} {xs ys zs : List V}
theorem Inv.lset {its its' : List Value} {n : Nat} {f : Array Value → Array Value} {t' : Nat} (I : Inv X pins σ H s) (hH : H l = some (.lst xs))
    (e : s.heap.get? l = some { cls := .type "list", data := .seq its.toArray n }) (hf : f its.toArray = its'.toArray) (hv : Vals ys its') (hz : ys.length ≤ sizeLine) :
    Inv X pins σ (upd H l (.lst ys)) { s with heap := s.heap.update l (Obj.mapSeq f), toks := t' } := by
  have q := PySem.IsL.update e f
  rw [hf] at q
  refine I.write (x := l) (e := l) (by rw [hH]; exact trivial) (.inl rfl) (fun b' u hb hu => (Heap.get?_update_other s.heap (Obj.mapSeq f) (Ne.symm hb)).trans hu) ⟨_, q⟩ ?_
  exact ⟨hz, its', _, hv, q⟩
theorem Inv.lnew {its : List Value} {t' : Nat} (I : Inv X pins σ H s) (hv : Vals ys its) (hz : ys.length ≤ sizeLine) :
    Inv X pins σ (upd H s.heap.objs.size (.lst ys)) { s with heap := s.heap.push { cls := .type "list", data := .seq its.toArray }, toks := t' } :=
  I.laid (fun _ _ q => Heap.get?_push_of_some _ q) (Nat.le_refl _) ⟨hz, its, 0, hv, Heap.get?_push_size _ rfl⟩
theorem Inv.fresh (I : Inv X pins σ H s) : H s.heap.objs.size = none := I.hok.fresh (Nat.le_refl _)
theorem Inv.lstM (I : Inv X pins σ H s) (hH : H l = some (.lst xs)) : xs.length ≤ sizeLine ∧ ∃ (its : List Value) (n : Nat), Vals xs its ∧ xs.length = its.length ∧ s.heap.get? l = some { cls := .type "list", data := .seq its.toArray n } := by
  obtain ⟨z, its, n, r, e⟩ := I.hok l _ hH
  exact ⟨z, its, n, r, r.length, e⟩
end
section
variable {X : Cx}
def rAppend : V → List V → Hp → VK → Prop := fun x vs H Q => ∃ l xs y, x = .ref l ∧ vs = [y] ∧ H l = some (.lst xs) ∧ xs.length < sizeLine ∧ Q .non (upd H l (.lst (xs ++ [y])))
theorem mt_append : MtM X "list.append" rAppend := by
  intro pins s σ H x vs v us Q I rx rv h
  obtain ⟨l, xs, y, rfl, rfl, hH, hz, q⟩ := h
  cases rx
  obtain ⟨u, rfl, ru⟩ := rv.one
  obtain ⟨z, its, n, r, hl, e⟩ := I.lstM hH
  refine call_meets F.slot_list_append ⟨_, e, rfl⟩ F.entry_list_append (F.args_list_append_2 _ _) (PySem.list_append l its.toArray n u (by rw [List.size_toArray]; omega)) ⟨e, ?_⟩
  refine ⟨.non, _, I.lset (its' := its ++ [u]) hH e (by simp) (r.append (.cons ru .nil)) ?_, rfl, q⟩
  rw [List.length_append, List.length_singleton]
  omega
def rCat : R2 := fun x y H Q => ∃ l b xs zs, x = .ref l ∧ y = .ref b ∧ H l = some (.lst xs) ∧ H b = some (.lst zs) ∧ xs.length + zs.length ≤ sizeLine ∧ ∀ p, H p = none → Q (.ref p) (upd H p (.lst (xs ++ zs)))
theorem op_cat : OpR X (binaryOp .Add) rCat := by
  intro pins s σ H x y v u Q I rx ry h
  obtain ⟨l, b, xs, zs, rfl, rfl, hH, hB, hz, q⟩ := h
  cases rx
  cases ry
  obtain ⟨z, its, n, r, hl, e⟩ := I.lstM hH
  obtain ⟨z2, its2, n2, r2, hl2, e2⟩ := I.lstM hB
  refine PySem.P.add_list e e2 ?_ (by rw [List.size_toArray, List.size_toArray]; omega)
  have ea : its.toArray ++ its2.toArray = (its ++ its2).toArray := by simp
  rw [ea]
  exact ⟨.ref _, _, I.lnew (t' := s.toks) (r.append r2) (by rw [List.length_append]; omega), rfl, q _ I.fresh⟩
end
section
variable {prog : Program} {w : World} {A : Around} {E : Value → Shared → Prop} {s : Shared}
set_option maxRecDepth 100000 in
end
section
variable {X : Cx}
end
end L2
namespace Att
open PySem PySem.W PySem.Calls PyProof.Rows
theorem ints_of_wellAll {P : Params} {h : Heap} : ∀ (ns : List Int) (vs : List Value), WellAll P h vs (ns.map WData.int) → IntsAre vs ns := by
  intro ns
  induction ns with
  | nil =>
    intro vs w
    rw [List.map_nil] at w
    cases w
    exact .nil
  | cons n ns ih =>
    intro vs w
    rw [List.map_cons] at w
    cases w with
    | cons a b =>
      cases a
      exact .cons _ _ (ih _ b)
theorem script_of {l : OpenLaw} {n : Nat} (hn : l.most = some n) {P : Params} {h : Heap} {args : List WData} {vals : List Value}
    (hpre : l.row.toRowW.claim.pre args = true) (hwl : WellAll P h vals args) :
    ∃ a vs ns, vals = [Value.ref a] ∧ args = [WData.list (ns.map WData.int)] ∧ h.get? a = some { cls := .type "list", data := .seq vs.toArray } ∧ IntsAre vs ns ∧ ns.length ≤ n := by
  have hsh : WShape.hasAll [] args [.list .int] = true := (pre_splitW hpre).1
  have hc : l.pre.holds [] { args := args } = true := (pre_splitW hpre).2
  obtain ⟨d, r, rfl, h1, h2⟩ := hasAllW_cons hsh
  obtain rfl := hasAllW_nil h2
  obtain ⟨xs, rfl, h3⟩ := hasW_list h1
  obtain ⟨ns, rfl⟩ := items_int h3
  have hlen : ns.length ≤ n := by
    unfold OpenLaw.pre at hc
    have h4 : (WTm.not (.lt (.lit (.int (n : Int))) (.len (.arg 0)))).holds [] { args := [.list (ns.map .int)] } = true := by
      have h4 := (holds_andW hc).1
      rw [hn] at h4
      exact h4
    have h5 := condW_of h4 (w_not (w_lt w_lit (w_len_list (w_arg rfl))))
    rw [List.length_map] at h5
    refine Nat.le_of_not_lt fun q => ?_
    have q' : (n : Int) < ((ns.length : Nat) : Int) := by omega
    first
      | (rw [decide_eq_true q'] at h5; exact absurd h5 (by decide))
      | (simp at h5; omega)
  cases hwl with
  | cons w1 w2 =>
    cases w2
    cases w1 with
    | list ho hall => exact ⟨_, _, ns, rfl, rfl, ho, ints_of_wellAll ns _ hall, hlen⟩
theorem post_true (l : OpenLaw) (args : List WData) : l.row.toRowW.claim.post args (.bool true) args = true :=
  postW_of (r := l.row.toRowW) (X := (true == true))
    (show WShape.has [] (.bool true) .bool = true by first | rfl | decide | simp [WShape.has, WShape.arms, WShape.armsAll])
    (show (WTm.eq .res (.lit (.bool true))).value [] { args := args, res := some (.bool true), after := args } = some (.bool (true == true)) from w_eq_bool (w_res rfl) w_lit) rfl
theorem attach_call {l : OpenLaw} {n : Nat} {q : Program} {loose : List Str} {XP : (Str → Option Value) → Heap → Prop} {YP : World → Heap → Prop} {d : DefRec}
    (hn : l.most = some n) (hdf : d.params.defaults = [])
    (call : ∀ (w : World) (s₀ s₁ : Shared) (mg mb : Str → Option Value) (fa : Addr) (o : Obj) (pm cd doc : Value) (a : Addr) (vs : List Value) (ns : List Int),
      Ground q loose [] XP w s₀ mg mb s₁.heap → YP w s₁.heap →
      s₁.heap.get? fa = some o → o.data = .func (docDef d.name d.params d.body d.scope pm cd doc) → s₁.heap.CodeRec cd d.name → mg d.name = some (.ref fa) →
      s₁.heap.get? a = some { cls := .type "list", data := .seq vs.toArray } → IntsAre vs ns → ns.length ≤ n → s₁.gens = #[] →
      codeAny (model l.prog w) callerA (.call (.ref fa) ⟨[.ref a], []⟩) (fun r s' => r = .ok (.ret (.bool true)) ∧ OldK s₁.heap s'.heap ∧ s'.os = s₁.os ∧ AllBare s'.gens) s₁) :
    WalkO q loose XP YP l.row.toRowW d [] (fun f vs => PySem.call f vs) := by
  intro w s₀ s₁ mg mb G Y fa o pm cd doc dV kV ho hd hcd hD hmg hg args vals as hpre hlay hrd hwl hlo
  obtain rfl : dV = .none := Dflts.none hD hdf
  obtain rfl : kV = .none := Dflts.noKw hD
  obtain ⟨a, vs, ns, rfl, rfl, hobj, hints, hlen⟩ := script_of hn hpre hwl
  refine enter_call (codeAny_mono (call w s₀ s₁ mg mb fa o pm cd doc a vs ns G Y ho (fd_plain hd) hcd hmg hobj hints hlen hg) fun r s' hq => ?_)
  obtain ⟨rfl, h2, h3, h4⟩ := hq
  exact ⟨.inl ⟨.bool true, .bool true, [], rfl, fun _ => rfl, .bool true, post_true l _, fun _ => ⟨List.Pairwise.nil, fun _ hm => (nomatch hm)⟩⟩, h2, h3, h4⟩
section
variable {prog : Program} {w : World} {A : Around} {E : Value → Shared → Prop} {s : Shared} {K : Frag}
end
end Att
namespace L2
open PySem PySem.Spec PyProof.Rows
theorem vals_ints : ∀ {vs : List Value} {ns : List Int}, IntsAre vs ns → Vals (ns.map V.int) vs
  | _, _, .nil => .nil
  | _, _, .cons n t h => .cons ⟨t, rfl⟩ (vals_ints h)
def Only (H : Hp) : Prop := ∀ b, H b = none ∨ ∃ o xs, H b = some (.frz o (.lst xs))
theorem law_call {P : Program} {w : World} {K : PySem.W.Frag} {mg mb : Str → Option Value} {CX : CXT} {k : Nat} {fa a : Addr} {fd : FuncData} {x : Str} {sp : Sp} {s₁ : Shared} {vs : List Value} {ns : List Int}
    (KX : K.In s₁.heap) (hns : s₁.heap.Ns mainGlobals mg) (hb : s₁.heap.Ns builtinsNs mb) (hbb : ∀ x : Str, x ≠ "__name__" → mb x = bootBuiltins x) (hlim : s₁.heap.NoLimit) (hg : s₁.gens = #[])
    (ha : s₁.heap.get? a = some { cls := .type "list", data := .seq vs.toArray }) (hi : IntsAre vs ns) (hl : ns.length ≤ sizeLine) (hr : Room k callerA)
    (F : ∀ base : Heap, K.In base → base.Ns mainGlobals mg → FnOk P w K mg base CX k fa fd [x] sp) (hbind : ∀ (s : Shared) (u : Value), BindsTo s fd ⟨[u], []⟩ [(x, u)])
    (hsp : ∀ H : Hp, Only H → SqL K H a (ns.map V.int) → sp [.ref a] H (fun v _ => v = .bl true) fun _ _ _ => False)
    (hCX : ∀ H e s', CX [] H s₁ (fun _ _ _ => False) e s' → False) :
    codeAny (model P w) callerA (.call (.ref fa) ⟨[.ref a], []⟩) (fun r s' => r = .ok (.ret (.bool true)) ∧ OldK s₁.heap s'.heap ∧ s'.os = s₁.os ∧ AllBare s'.gens) s₁ := by
  have rv := vals_ints hi
  have lenV := hi.length
  have core : ∀ H : Hp, Only H → SqL K H a (ns.map V.int) → HOk P w H s₁.heap → (∀ b, H b ≠ none → b = a) → (H a ≠ none → K.lookup a = none) →
      codeAny (model P w) callerA (.call (.ref fa) ⟨[.ref a], []⟩) (fun r s' => r = .ok (.ret (.bool true)) ∧ OldK s₁.heap s'.heap ∧ s'.os = s₁.os ∧ AllBare s'.gens) s₁ := by
    intro H hO hS hok hA hK
    have base_of : ∀ {b : Addr} {o : Obj}, s₁.heap.get? b = some o → H b = none → (hidT s₁.heap H).get? b = some o := fun e n => hidT_get e n
    have noA : ∀ {b : Addr} {o : Obj} {es : Array DictEntry} {ep : Nat}, s₁.heap.get? b = some o → o.data = .dict es ep → H b = none := fun {b o es ep} e d => by
      cases q : H b with
      | none => rfl
      | some u =>
        have e' : b = a := hA b (by rw [q]; simp)
        subst e'
        rw [ha] at e; cases e
        have d' : Data.seq vs.toArray _ = Data.dict es ep := d
        cases d'
    have nsK : ∀ {b : Addr} {m : Str → Option Value}, s₁.heap.Ns b m → (hidT s₁.heap H).Ns b m := fun {b m} ⟨o, es, ep, e, d, r⟩ => ⟨o, es, ep, base_of e (noA e d), d, r⟩
    have hKb : K.In (hidT s₁.heap H) := fun b o e => base_of (KX b o e) (by
      cases q : H b with
      | none => rfl
      | some u =>
        have e' : b = a := hA b (by rw [q]; simp)
        subst e'
        rw [hK (by rw [q]; simp)] at e; cases e)
    have hM : Mod K mg (hidT s₁.heap H) := ⟨hKb, nsK hns, ⟨mb, nsK hb, hbb⟩, let ⟨mc, h1, h2⟩ := hlim; ⟨mc, nsK h1, h2⟩⟩
    have e0 : Env0 P w K mg (hidT s₁.heap H) callerA [] s₁ H := ⟨rfl, hM, fun b o e => of_hidT e, Nat.le_of_eq (hidT_size _ _), trivial, fun b hb => absurd (show b ∈ ([] : List Addr) from hb) (by simp), hok, .of_eq hg⟩
    refine codeAny_mono ((F _ hKb (nsK hns)).run callerA [] s₁ H ⟨[.ref a], []⟩ [.ref a] [.ref a] _ _ hr e0 (hbind s₁ (.ref a)) (.cons rfl .nil) (hsp H hO hS)) fun r s' h => ?_
    cases r with
    | error e => exact (hCX H e s' h).elim
    | ok fl =>
      cases fl with
      | next => exact False.elim h
      | brk => exact False.elim h
      | cont => exact False.elim h
      | ret u =>
        obtain ⟨v, H', os, bare, un, hok', r', q⟩ := h
        have q' : v = .bl true := q
        subst q'
        obtain rfl : u = Value.bool true := r'
        refine ⟨rfl, OldK.of_keep fun b o e => ?_, os, bare⟩
        cases q : H b with
        | none => exact un.keep b o e q (by intro z; exact absurd (show b ∈ ([] : List Addr) from z) (by simp)) (by simp)
        | some u =>
          rcases hO b with z | ⟨ob, xs, z⟩
          · rw [q] at z; cases z
          · have z2 := un.frzs b ob _ z
            obtain ⟨e1, _⟩ := hok b _ z
            obtain ⟨e2, _⟩ := hok' b _ z2
            rw [e] at e1; cases e1
            exact e2
  cases hk : K.lookup a with
  | some o =>
    have e := KX a o hk
    rw [ha] at e
    cases e
    refine core (fun _ => none) (fun _ => .inl rfl) (.inr ⟨_, vs.toArray, _, hk, rfl, rfl, rfl, by rw [List.size_toArray, lenV]; exact hl, by simpa using rv⟩) (fun b u z => by have z' : (none : Option HO) = some u := z; cases z') (fun b z => absurd rfl z) fun z => absurd rfl z
  | none =>
    refine core (fun b => if b = a then some (.frz { cls := .type "list", data := .seq vs.toArray } (.lst (ns.map V.int))) else none) (fun b => ?_) (.inl (.inr ⟨{ cls := .type "list", data := .seq vs.toArray }, if_pos rfl⟩)) (fun b u z => ?_) (fun b z => ?_) fun _ => hk
    · by_cases hb : b = a
      · exact .inr ⟨_, _, if_pos hb⟩
      · exact .inl (if_neg hb)
    · by_cases hb : b = a
      · have z' := (if_pos hb).symm.trans z
        cases z'
        subst hb
        exact ⟨ha, by rw [List.length_map]; exact hl, vs, _, rv, ha⟩
      · have z' := (if_neg hb).symm.trans z
        cases z'
    · by_cases hb : b = a
      · exact hb
      · exact absurd (if_neg hb) z
end L2
namespace L2
open PySem PySem.Spec PyProof.Rows
theorem walk_of {l : PySem.W.OpenLaw} {n k : Nat} {q : Program} {loose : List Str} {XP : (Str → Option Value) → Heap → Prop} {YP : World → Heap → Prop} {d : DefRec} {K : Params → PySem.W.Frag} {CX : World → CXT} {sp : World → Sp} {x : Str}
    (hn : l.most = some n) (hn2 : n ≤ sizeLine) (hdf : d.params.defaults = []) (hr : Room k callerA)
    (hY : ∀ (w : World) (h : Heap), YP w h → (K w.params).In h)
    (F : ∀ (w : World) (mg : Str → Option Value) (fa : Addr) (h : Heap), (K w.params).In h → h.Ns mainGlobals mg → mg d.name = some (.ref fa) →
      ∃ fd : FuncData, (∀ (s : Shared) (u : Value), BindsTo s fd ⟨[u], []⟩ [(x, u)]) ∧
        ∀ base : Heap, (K w.params).In base → base.Ns mainGlobals mg → FnOk l.prog w (K w.params) mg base (CX w) k fa fd [x] (sp w))
    (hsp : ∀ (w : World) (H : Hp) (a : Addr) (ns : List Int), ns.length ≤ n → Only H → SqL (K w.params) H a (ns.map V.int) → sp w [.ref a] H (fun v _ => v = .bl true) fun _ _ _ => False)
    (hCX : ∀ (w : World) (H : Hp) (s : Shared) (e : Value) (s' : Shared), CX w [] H s (fun _ _ _ => False) e s' → False) :
    PySem.W.WalkO q loose XP YP l.row.toRowW d [] (fun f vs => PySem.call f vs) := by
  refine Att.attach_call hn hdf fun w s₀ s₁ mg mb fa o pm cd doc a vs ns G Y ho hd hcd hmg hobj hints hlen hg => ?_
  have KX := hY w _ Y
  obtain ⟨fd, hb, hF⟩ := F w mg fa _ KX G.T.g hmg
  exact law_call KX G.T.g G.T.b G.T.builtins G.T.nolimit hg hobj hints (Nat.le_trans hlen hn2) hr hF hb (fun H hO hS => hsp w H a ns hlen hO hS) fun H e s' => hCX w H s₁ e s'
end L2
namespace L2
open PySem PySem.Spec PyProof.Rows
def defArgs (s : Stmt) : Arguments := match s with
  | .FunctionDef _ a _ _ _ _ _ _ _ _ => a
  | _ => { posonlyargs := [], args := [], vararg := none, kwonlyargs := [], kw_defaults := [], kwarg := none, defaults := [] }
def defBody (s : Stmt) : List Stmt := match s with
  | .FunctionDef _ _ b _ _ _ _ _ _ _ => b
  | _ => []
def defScope (s : Stmt) : Scope := match s with
  | .FunctionDef _ _ _ _ _ _ sc _ _ _ => sc
  | _ => { kind := .function, names := [], isGenerator := false, isCoroutine := false }
abbrev CX0 : CXT := fun _ _ _ _ _ _ => False
abbrev E0 : XK := fun _ _ _ => False
theorem pass0 {X : Cx} : Passes CX0 X E0 := fun _ _ _ _ _ _ _ h => h.elim
structure Fun (K : PySem.W.Frag) (x qual : Str) (st : Stmt) (f : Addr) (fd : FuncData) : Prop where
  ex : ∃ (oc : Value) (od : Option Addr) (kV doc pm : Value) (an : Option Addr) (cdv ct : Value) (osl : Array (Option Value)),
    fd = PySem.W.fnOf x qual (defArgs st) (defBody st) (defScope st) .none kV doc pm an cdv ct ∧ K.lookup f = some ⟨oc, od, .func fd, osl⟩ ∧ PySem.W.codeIn K cdv qual = true
  kp : PySem.W.keepIn K (.ref f) = true
section
variable {P : Program} {w : World} {K : PySem.W.Frag} {mg : Str → Option Value} {base : Heap}
theorem Fun.ok {x qual : Str} {st : Stmt} {f : Addr} {fd : FuncData} {N ps : List Str} {k : Nat} {sp : Sp} (F : Fun K x qual st f fd) (S : FnScope N ps (defScope st)) (len : ∀ vs H Q E, sp vs H Q E → vs.length = ps.length)
    (hbody : ∀ (cdv : Value) (A : Around) (outer : List Env) (s : Shared) (H : Hp) (vs : List V) (Q : VK) (E : XK), Room k (A.deeper (envOfC qual (defScope st) s.heap.objs.size f cdv)) → sp vs H Q E →
      ∃ t, PSs (cxOf CX0 P w K mg base N qual (defScope st) f cdv A outer s H E).nox (defBody st) t ∧ t { nx := fun _ H' => Q .non H', rt := Q } (start N vs) H) : FnOk P w K mg base CX0 (k + 1) f fd ps sp := by
  obtain ⟨oc, od, kV, doc, pm, an, cdv, ct, osl, rfl, lk, hcd⟩ := F.ex
  refine fn_of lk hcd S len fun A outer s H vs Q E hr hsp => ?_
  obtain ⟨t, h, q⟩ := hbody cdv A outer s H vs Q E hr hsp
  exact ⟨t, h.nox, q⟩
theorem Fun.binds {x qual : Str} {st : Stmt} {f : Addr} {fd : FuncData} {ps : List Str} (F : Fun K x qual st f fd)
    (h : ∀ (kV doc pm : Value) (an : Option Addr) (cdv ct : Value) (us : List Value), us.length = ps.length → bindArgs (PySem.W.fnOf x qual (defArgs st) (defBody st) (defScope st) .none kV doc pm an cdv ct) ⟨us, []⟩ = pure (ps.zip us)) : Binds K fd ps [] := by
  obtain ⟨oc, od, kV, doc, pm, an, cdv, ct, osl, rfl, lk, hcd⟩ := F.ex
  exact .all (h kV doc pm an cdv ct)
theorem fun_mk {x qual : Str} {st : Stmt} {f : Addr} {oc : Value} {od an : Option Addr} {osl : Array (Option Value)} {kV doc pm cdv ct : Value} (l : K.lookup f = some ⟨oc, od, .func (PySem.W.fnOf x qual (defArgs st) (defBody st) (defScope st) .none kV doc pm an cdv ct), osl⟩)
    (c : PySem.W.codeIn K cdv qual = true) (k : PySem.W.keepIn K (.ref f) = true) : Fun K x qual st f (PySem.W.fnOf x qual (defArgs st) (defBody st) (defScope st) .none kV doc pm an cdv ct) := ⟨⟨oc, od, kV, doc, pm, an, cdv, ct, osl, rfl, l, c⟩, k⟩
end
theorem small1000 {n : Nat} (h : n ≤ 1000) : n < sizeLine := Nat.lt_of_le_of_lt h (by decide)
section
variable {X : Cx}
theorem pv (i : Nat) {x : Str} {pos : Pos} (hN : X.N[i]? = some x := by rfl) (hv : Vis X.env.scope x := by first | exact Or.inl rfl | exact Or.inr (Or.inl rfl) | exact Or.inr (Or.inr rfl)) (hd : (x == ("__debug__" : Str)) = false := by decide)
    (hcd : (x == ("__classdict__" : Str)) = false := by decide) : PE X (.Name x pos) (tVar i) := pe_var hN hv hd hcd
end
theorem iteF {A B : Prop} (h : B) : if false = true then A else B := by
  rw [if_neg Bool.false_ne_true]
  exact h
theorem iteT {A B : Prop} (h : A) : if true = true then A else B := by
  rw [if_pos rfl]
  exact h
theorem ite2 {c A B : Prop} [Decidable c] (h1 : c → A) (h2 : ¬ c → B) : if c then A else B := by
  by_cases h : c
  · rw [if_pos h]
    exact h1 h
  · rw [if_neg h]
    exact h2 h
def Same (H H' : Hp) : Prop := ∀ b o, H b = some o → H' b = some o
theorem Same.refl (H : Hp) : Same H H := fun _ _ h => h
theorem Same.trans {H H1 H2 : Hp} (a : Same H H1) (b : Same H1 H2) : Same H H2 := fun c o h => b c o (a c o h)
theorem Same.seq {K : PySem.W.Frag} {H H' : Hp} {a : Addr} {xs : List V} (e : Same H H') (h : SqL K H a xs) : SqL K H' a xs := by
  rcases h with (h | ⟨o, h⟩) | h
  · exact .inl (.inl (e _ _ h))
  · exact .inl (.inr ⟨o, e _ _ h⟩)
  · exact .inr h
end L2
namespace L2
open PySem PySem.Spec PyProof.Rows
section
variable {κ : Type} [DecidableEq κ]
def putK (kvs : List (κ × V)) (k : κ) (v : V) : List (κ × V) :=
  if (kvs.any fun kv => decide (kv.1 = k)) = true then kvs.map (fun kv => if kv.1 = k then (kv.1, v) else kv) else kvs ++ [(k, v)]
theorem length_putK (kvs : List (κ × V)) (k : κ) (v : V) : (putK kvs k v).length ≤ kvs.length + 1 := by
  unfold putK
  split
  · rw [List.length_map]; omega
  · rw [List.length_append, List.length_cons, List.length_nil]; omega
theorem KV.any {kvs : List (κ × V)} {vs : List (κ × Value)} (r : KV kvs vs) (k : κ) : (kvs.any fun kv => decide (kv.1 = k)) = vs.any fun kv => decide (kv.1 = k) := by
  unfold KV at r
  induction r with
  | nil => rfl
  | cons h t ih => rw [List.any_cons, List.any_cons, ih, h.1]
theorem KV.repl {kvs : List (κ × V)} {vs : List (κ × Value)} (r : KV kvs vs) (k : κ) {y : V} {u : Value} (ry : RelV y u) :
    KV (kvs.map fun kv => if kv.1 = k then (kv.1, y) else kv) (vs.map fun kv => if kv.1 = k then (kv.1, u) else kv) := by
  unfold KV at r ⊢
  induction r with
  | nil => exact .nil
  | @cons p q ps qs h t ih =>
    rw [List.map_cons, List.map_cons]
    refine .cons ?_ ih
    obtain ⟨h1, h2⟩ := h
    by_cases e : p.1 = k
    · rw [if_pos e, if_pos (h1.symm.trans e)]; exact ⟨h1, ry⟩
    · rw [if_neg e, if_neg (fun z => e (h1.trans z))]; exact ⟨h1, h2⟩
theorem KV.put {kvs : List (κ × V)} {vs : List (κ × Value)} (r : KV kvs vs) (k : κ) {y : V} {u : Value} (ry : RelV y u) : KV (putK kvs k y) (stored vs k u) := by
  unfold putK stored
  rw [r.any k]
  by_cases e : (vs.any fun kv => decide (kv.1 = k)) = true
  · rw [if_pos e, if_pos e]; exact r.repl k ry
  · rw [if_neg e, if_neg e]; exact Paired.snoc r ⟨rfl, ry⟩
end
theorem kV_is {P : Program} {w : World} {k : Key} {u : Value} (r : RelV (kV k) u) : (mixKind P w).is k u = true := by
  cases k with
  | inl i => obtain ⟨t, e⟩ := (show ∃ t, u = Value.int i t from r); subst e; exact mixKind_int P w i t
  | inr x => obtain ⟨t, e⟩ := (show ∃ t, u = Value.str x t from r); subst e; exact mixKind_str P w x t
section
variable {P : Program} {w : World} {H : Hp} {h : Heap} {a : Addr}
theorem rd_of {u : HO} (ok : HOk P w H h) (e : Rd H a u) : ObjOk P w H h a u := e.ok ok
theorem dk_rd {kvs : List (Key × V)} (ok : HOk P w H h) (e : Rd H a (.dK kvs)) : kvs.length ≤ sizeLine ∧ (a == sysModules) = false ∧ ∃ vs, KV kvs vs ∧ h.DictOf (mixKind P w) a vs :=
  show ObjOk P w H h a (.dK kvs) from rd_of ok e
theorem dk_of {kvs : List (Key × V)} (ok : HOk P w H h) (e : H a = some (.dK kvs)) : kvs.length ≤ sizeLine ∧ (a == sysModules) = false ∧ ∃ vs, KV kvs vs ∧ h.DictOf (mixKind P w) a vs := dk_rd ok (.inl e)
end
section
variable {X : Cx} {pins : List (Addr × Obj)} {σ : St} {H : Hp} {s : Shared} {a : Addr} {y v : V} {u r : Value} {o : Option V} {A : Around} {E : Value → Shared → Prop}
theorem Inv.big (I : Inv X pins σ H s) : sysModules < s.heap.objs.size := by
  have h : mainGlobals < s.heap.objs.size := (I.mod.glob.keeps I.bk).lt
  exact Nat.lt_trans (by decide) h
theorem d_write {h' : Heap} {t' : Nat} {ob : HO} (I : Inv X pins σ H s) (mu : Mut (H a)) (hs : Heap.SameBut a s.heap h') (he : ∃ q, h'.get? a = some q) (new : ObjOk X.prog X.w (upd H a ob) h' a ob) :
    Inv X pins σ (upd H a ob) { s with heap := h', toks := t' } :=
  I.write (x := a) (e := a) mu (.inl rfl) (fun b q hb z => (hs.2 b hb).trans z) he new
theorem dk_new {P : Program} {w : World} {H' : Hp} {h' : Heap} {kvs : List (Key × V)} {vs : List (Key × Value)} (z : kvs.length ≤ sizeLine) (hd : (a == sysModules) = false) (rel : KV kvs vs) (dd : h'.DictOf (mixKind P w) a vs) :
    ObjOk P w H' h' a (.dK kvs) := ⟨z, hd, vs, rel, dd⟩
end
section
variable {X : Cx} {pins : List (Addr × Obj)} {σ : St} {H : Hp} {s : Shared} {a : Addr} {kvs : List (Key × V)} {k : Key} {u : Value} {A : Around} {E : Value → Shared → Prop}
end
section
variable {X : Cx} {o i e value : Expr} {pos pos' tpos : Pos} {td ty tv : TE}
end
theorem dk_empty {P : Program} {w : World} {H : Hp} (h : Heap) (hb : sysModules < h.objs.size) : ObjOk P w H (h.push { cls := .type "dict", data := .dict #[] }) h.objs.size (.dK []) :=
  ⟨Nat.zero_le _, beq_eq_false_iff_ne.mpr (Ne.symm (Nat.ne_of_lt hb)), [], .nil, Heap.DictOf.new h⟩
section
variable {X : Cx} {pos : Pos}
end
section
variable {X : Cx} {pins : List (Addr × Obj)} {σ : St} {H : Hp} {s : Shared} {a : Addr} {y d : V} {u r : Value} {o : Option V} {A : Around} {E : Value → Shared → Prop}
end
section
variable {X : Cx} {o e f : Expr} {apos cpos : Pos} {td ty tx : TE}
end
section
variable {X : Cx} {pins : List (Addr × Obj)} {σ : St} {H : Hp} {s : Shared} {a : Addr} {kvs : List (Key × V)} {A : Around} {E : Value → Shared → Prop}
end
section
variable {X : Cx} {pins : List (Addr × Obj)} {σ : St} {H : Hp} {s : Shared} {a : Addr} {y : V} {u : Value} {A : Around} {E : Value → Shared → Prop}
end
end L2
namespace L2
open PySem PySem.Spec PyProof.Rows
section
variable {κ : Type} [DecidableEq κ]
end
end L2
namespace L2
open PySem PySem.Spec PyProof.Rows
def Sz (n : Nat) (x : Int) : Prop := x.natAbs < 2 ^ n
section
variable {m n : Nat} {x y : Int}
theorem Sz.bits (h : Sz n x) : Builtin.Int.intBits x ≤ n := intBits_le_iff.mpr h
theorem Sz.of_bits (h : Builtin.Int.intBits x ≤ n) : Sz n x := intBits_le_iff.mp h
theorem Sz.mul (h : Sz m x) (k : Sz n y) : Sz (m + n) (x * y) := .of_bits (intBits_mul_le h.bits k.bits)
theorem Sz.add (h : Sz m x) (k : Sz n y) : Sz (max m n + 1) (x + y) := .of_bits (intBits_add_le h.bits k.bits)
theorem szd (n : Nat) {x : Int} (h : decide (x.natAbs < 2 ^ n) = true := by decide +kernel) : Sz n x := (show x.natAbs < 2 ^ n from of_decide_eq_true h)
theorem sz_of (h : -(2 ^ n : Nat) < x) (k : x < (2 ^ n : Nat)) : Sz n x := by
  unfold Sz
  generalize 2 ^ n = p at h k ⊢
  omega
end
def CMulB (i j : Int) : Prop := ∃ m n, Sz m i ∧ Sz n j ∧ m + n ≤ 134217728
theorem mulB {i j : Int} {m n : Nat} (h : Sz m i) (k : Sz n j) (l : decide (m + n ≤ 134217728) = true := by decide +kernel) : CMulB i j := ⟨m, n, h, k, of_decide_eq_true l⟩
def CDivB (_ j : Int) : Prop := j ≠ 0 ∧ Sz 9000 j
section
variable {X : Cx}
theorem op_mulB : OpR X (binaryOp .Mult) (rI CMulB fun i j => .int (i * j)) := opI fun _ _ _ _ _ _ _ hc q =>
  mul_int q (let ⟨_, _, a, b, c⟩ := hc; IntMulOk.of_le a.bits b.bits c)
theorem op_fdivB : OpR X (binaryOp .FloorDiv) (rI CDivB fun i j => .int (i.fdiv j)) := opI fun _ j _ _ _ _ _ hc q =>
  floordiv_int hc.1 q (.inl (PyProof.noPylong_of_log2 ((Nat.log2_lt (by have := hc.1; omega)).mpr hc.2)))
theorem call_isi : CallR X (.builtin "isinstance") (fun xs H Q => ∃ x t c b, xs = [x, .ty c] ∧ TyOf X.K H x t ∧ PySem.W.kitOne X.K t (.type c) = some b ∧ Q (.bl b) H) := by
  intro pins s σ H xs us Q I rv h
  obtain ⟨x, t, c, b, rfl, ty, e, q⟩ := h
  obtain ⟨u, u', rfl, r1, r2⟩ := vals2 rv
  cases (show u' = Value.type c from r2)
  exact isinst_ok I r1 ty e fun tk => ⟨.bl b, H, I.tok tk, rfl, q⟩
end
section
variable {K : PySem.W.Frag}
theorem kit_int_int : PySem.W.kitOne K (.type "int") (.type "int") = some true := by
  show (if ((Value.type "int") == (Value.type "int")) = true then some true else (if PySem.W.kitMeta "int" = true then (PySem.fastBuiltinMro "int").map (·.contains (Value.type "int")) else none)) = some true
  decide +kernel
theorem kit_int_bool : PySem.W.kitOne K (.type "int") (.type "bool") = some false := by
  show (if ((Value.type "int") == (Value.type "bool")) = true then some true else (if PySem.W.kitMeta "bool" = true then (PySem.fastBuiltinMro "int").map (·.contains (Value.type "bool")) else none)) = some false
  decide +kernel
theorem kit_bool_bool : PySem.W.kitOne K (.type "bool") (.type "bool") = some true := by
  show (if ((Value.type "bool") == (Value.type "bool")) = true then some true else (if PySem.W.kitMeta "bool" = true then (PySem.fastBuiltinMro "bool").map (·.contains (Value.type "bool")) else none)) = some true
  decide +kernel
theorem kit_tuple_tuple : PySem.W.kitOne K (.type "tuple") (.type "tuple") = some true := by
  show (if ((Value.type "tuple") == (Value.type "tuple")) = true then some true else (if PySem.W.kitMeta "tuple" = true then (PySem.fastBuiltinMro "tuple").map (·.contains (Value.type "tuple")) else none)) = some true
  decide +kernel
theorem kit_list_list : PySem.W.kitOne K (.type "list") (.type "list") = some true := by
  show (if ((Value.type "list") == (Value.type "list")) = true then some true else (if PySem.W.kitMeta "list" = true then (PySem.fastBuiltinMro "list").map (·.contains (Value.type "list")) else none)) = some true
  decide +kernel
end
def tIfJ (c : TT) (t u : TS) : TS := fun D σ H => ∃ M : St → Hp → Prop, (c σ H fun b H1 => if b = true then t { D with nx := M } σ H1 else u { D with nx := M } σ H1) ∧ ∀ σ' H', M σ' H' → D.nx σ' H'
theorem ps_ifJ {X : Cx} {c : Expr} {a b : List Stmt} {tc : TT} {t u : TS} {pos : Pos} (hc : PT X c tc) (ha : PSs X a t) (hb : PSs X b u) : PS X (.If c a b pos) (tIfJ tc t u) := by
  intro pins s σ H D I h
  obtain ⟨M, h, hM⟩ := h
  have up : ∀ (f : Flow) (s' : Shared), SP X pins { D with nx := M } f s' → SP X pins D f s' := fun f s' q => by
    cases f with
    | next =>
      obtain ⟨σ', H', I', q⟩ := q
      exact ⟨σ', H', I', hM σ' H' q⟩
    | ret v => exact q
    | brk => exact q
    | cont => exact q
  refine wpAny_If (thn (hc pins s σ H _ I h) fun d s1 ⟨H1, I1, q1⟩ => ?_)
  cases d with
  | true => exact thn (ha pins s1 σ H1 _ I1 q1) up
  | false => exact thn (hb pins s1 σ H1 _ I1 q1) up
theorem cpow40 : CPow 10 40 := ⟨by decide, by decide, by decide⟩
theorem small63 {n : Nat} (h : n ≤ 1000) : n ≤ sizeLine := Nat.le_of_lt (small1000 h)
theorem item_at {ns : List Int} {k : Int} (h0 : 0 ≤ k) (h : k < (ns.length : Int)) : ∃ v : Int, atI (ns.map V.int) k = some (.int v) := by
  have hk : k.toNat < ns.length := by omega
  have ek : k = ((k.toNat : Nat) : Int) := by omega
  have q : atI (ns.map V.int) ((k.toNat : Nat) : Int) = some (.int ns[k.toNat]) := atI_nat (by rw [List.getElem?_map, List.getElem?_eq_getElem hk] <;> rfl)
  rw [← ek] at q
  exact ⟨_, q⟩
end L2
namespace L2
open PySem PySem.Spec PyProof.Rows
def Cx.inComp (X : Cx) (Nc : List Str) (sc : Scope) (cl : List (Str × Addr)) (s : Shared) (H : Hp) (ex : List Addr) : Cx :=
  { X with N := Nc, s₀ := s, H₀ := H, env := compEnvC sc cl s.heap.objs.size X.env, outer := X.stack, stack := X.stack, ex := ex, fn := fun _ => false, pn := [], xe := fun _ _ => False }
theorem closure_go {env : Env} {f : Str × NameKind → List (Str × Addr) → Sem (ForInStep (List (Str × Addr)))}
    (hf : ∀ n k r, f (n, k) r = if (k == NameKind.free) = true then (cellOf env n >>= fun c => pure (ForInStep.yield ((n, c) :: r))) else pure (ForInStep.yield r)) :
    ∀ (l : List (Str × NameKind)) (cs : List (Str × Addr)), (∀ x ∈ l, x.2 = .free → ∃ c, env.cells.lookup x.1 = some c) →
      ∃ cl, (forIn l cs f : Sem (List (Str × Addr))) = pure cl ∧ (∀ p ∈ cl, p ∈ cs ∨ env.cells.lookup p.1 = some p.2) ∧ (∀ p ∈ cs, p ∈ cl) ∧ ∀ x ∈ l, x.2 = .free → ∃ c, (x.1, c) ∈ cl := by
  intro l
  induction l with
  | nil =>
    intro cs _
    exact ⟨cs, by rw [List.forIn_nil], fun p hp => .inl hp, fun p hp => hp, fun x hx => absurd hx (by simp)⟩
  | cons y r ih =>
    intro cs h
    obtain ⟨n, k⟩ := y
    by_cases hk : k = .free
    · subst hk
      obtain ⟨c, hc⟩ := h (n, .free) (by simp) rfl
      have e : cellOf env n = pure c := by
        unfold cellOf
        rw [show env.cells.lookup n = some c from hc]
      obtain ⟨cl, h1, h2, h3, h4⟩ := ih ((n, c) :: cs) fun x hx => h x (List.mem_cons_of_mem _ hx)
      refine ⟨cl, ?_, fun p hp => ?_, fun p hp => h3 p (List.mem_cons_of_mem _ hp), fun x hx hf' => ?_⟩
      · rw [List.forIn_cons, hf, if_pos (by decide), e]
        simp only [pure_bind]
        exact h1
      · rcases h2 p hp with z | z
        · rcases List.mem_cons.mp z with z | z
          · subst z; exact .inr hc
          · exact .inl z
        · exact .inr z
      · rcases List.mem_cons.mp hx with z | z
        · subst z; exact ⟨c, h3 _ (by simp)⟩
        · exact h4 x z hf'
    · have hb : (k == NameKind.free) = false := by simpa using hk
      obtain ⟨cl, h1, h2, h3, h4⟩ := ih cs fun x hx => h x (List.mem_cons_of_mem _ hx)
      refine ⟨cl, ?_, h2, h3, fun x hx hf' => ?_⟩
      · rw [List.forIn_cons, hf, hb, if_neg (by decide)]
        simp only [pure_bind]
        exact h1
      · rcases List.mem_cons.mp hx with z | z
        · subst z; exact absurd hf' hk
        · exact h4 x z hf'
theorem lookup_has {α : Type} : ∀ {l : List (Str × α)} {n : Str} {c : α}, (n, c) ∈ l → ∃ d, l.lookup n = some d
  | (k, v) :: r, n, c, h => by
    rw [List.lookup_cons]
    cases hx : (n == k) with
    | true => exact ⟨v, rfl⟩
    | false =>
      rcases List.mem_cons.mp h with z | z
      · cases z
        simp at hx
      · exact lookup_has z
theorem closure_ok {env : Env} {sc : Scope} (h : ∀ x ∈ sc.names, x.2 = .free → ∃ c, env.cells.lookup x.1 = some c) :
    ∃ cl, closureFor sc env = pure cl ∧ (∀ y c, cl.lookup y = some c → env.cells.lookup y = some c) ∧ ∀ x ∈ sc.names, x.2 = .free → ∃ c, cl.lookup x.1 = some c := by
  obtain ⟨cl, h1, h2, _, h4⟩ := closure_go (env := env) (f := fun x r => if (x.2 == NameKind.free) = true then (cellOf env x.1 >>= fun c => pure (ForInStep.yield ((x.1, c) :: r))) else pure (ForInStep.yield r)) (fun _ _ _ => rfl) sc.names [] h
  refine ⟨cl, ?_, fun y c e => ?_, fun x hx hf => ?_⟩
  · unfold closureFor
    have : (forIn sc.names ([] : List (Str × Addr)) fun x r => (match x with | (name, kind) => if (kind == NameKind.free) = true then (do let __do_lift ← cellOf env name; pure (ForInStep.yield ((name, __do_lift) :: r))) else pure (ForInStep.yield r)) : Sem (List (Str × Addr))) = pure cl := h1
    first
      | (simp only [this, pure_bind]; done)
      | (simp only [h1, pure_bind]; done)
      | (rw [show (forIn sc.names ([] : List (Str × Addr)) _ : Sem (List (Str × Addr))) = pure cl from h1]; rfl)
  · rcases h2 (y, c) (PySem.mem_of_lookup e) with z | z
    · exact absurd z (by simp)
    · exact z
  · obtain ⟨c, hc⟩ := h4 x hx hf
    exact lookup_has hc
theorem lookup_relabel (env : Env) : ∀ (names : List (Str × NameKind)) (y : Str),
    (names.map fun (n, k) => if (k == NameKind.free && env.scope.kind == .function && env.kindOf n == some .cell) then (n, NameKind.cell) else (n, k)).lookup y
      = (names.lookup y).map fun k => if (k == NameKind.free && env.scope.kind == .function && env.kindOf y == some .cell) then NameKind.cell else k
  | [], y => rfl
  | (n, k) :: r, y => by
    have ih := lookup_relabel env r y
    rw [List.map_cons]
    dsimp only
    cases hx : (y == n) with
    | true =>
      have e : y = n := by simpa using hx
      subst e
      by_cases c : (k == NameKind.free && env.scope.kind == .function && env.kindOf y == some .cell) = true
      · rw [if_pos c]; simp only [List.lookup_cons, hx, Option.map_some]; rw [if_pos c]
      · rw [if_neg c]; simp only [List.lookup_cons, hx, Option.map_some]; rw [if_neg c]
    | false =>
      by_cases c : (k == NameKind.free && env.scope.kind == .function && env.kindOf n == some .cell) = true
      · rw [if_pos c]; simp only [List.lookup_cons, hx]; exact ih
      · rw [if_neg c]; simp only [List.lookup_cons, hx]; exact ih
def PIfs (X : Cx) (ifs : List Expr) (t : TT) : Prop :=
  ∀ (pins : List (Addr × Obj)) (s : Shared) (σ : St) (H : Hp) (Q : Bool → Hp → Prop), Inv X pins σ H s → t σ H Q →
    wpAny (model X.prog X.w) X.A (forIn ifs true fun c r => if r = true then do let ok ← isTrue c X.env (eval c X.env); pure (ForInStep.yield ok) else pure (ForInStep.yield r)) (TP X pins σ Q) X.xe s
def tYes : TT := fun _ H Q => Q true H
theorem yes {σ : St} {H : Hp} {Q : Bool → Hp → Prop} (h : Q true H) : tYes σ H Q := h
theorem pif_nil {X : Cx} : PIfs X [] tYes := by
  intro pins s σ H Q I h
  rw [List.forIn_nil]
  exact wpAny_pure ⟨H, I, h⟩
theorem pif_one {X : Cx} {c : Expr} {t : TT} (hc : PT X c t) : PIfs X [c] t := by
  intro pins s σ H Q I h
  rw [List.forIn_cons, if_pos rfl]
  refine wpAny_bind (wpAny_bind (thn (hc pins s σ H Q I h) fun b s1 q => wpAny_pure ?_))
  dsimp only
  rw [List.forIn_nil]
  exact wpAny_pure q
theorem thnF {α : Type} {t : Sem α} {Q Q' : α → Shared → Prop} {M : Model} {A : Around} {E : Value → Shared → Prop} {s : Shared} (h : wpAny M A t Q (fun _ _ => False) s) (hQ : ∀ a s, Q a s → Q' a s) : wpAny M A t Q' E s := wpAny_mono h hQ fun _ _ z => z.elim
def tComp (wi : TI) (tt : TT) (te : TE) : TE := fun σ H Q => wi σ H fun J H1 => ∀ D, H1 D = none → ∃ W : Nat → Nat → List V → Hp → Prop, (∃ m, W 0 m [] (upd H1 D (.lst []))) ∧ ∀ i m ys H2, W i m ys H2 →
  H2 D = some (.lst ys) ∧ ((J.stop i H2 ∧ Q (.ref D) H2) ∨ (J.go i H2 ∧ ys.length < sizeLine ∧ ∀ x H3, J.yld i H2 x H3 → tt (σ ++ [some x]) H3 fun b H4 => if b = true then te (σ ++ [some x]) H4 fun y H5 => H5 D = some (.lst ys) ∧ ∃ m', m' < m ∧ W (i + 1) m' (ys ++ [y]) (upd H5 D (.lst (ys ++ [y])))
    else ∃ m', m' < m ∧ W (i + 1) m' ys H4))
structure CompN (N Nc : List Str) (x : Str) (sc fsc : Scope) : Prop where
  kind : sc.kind = .function
  cell : ∀ y ∈ sc.names, y.2 ≠ .cell
  nm : ∀ y ∈ sc.names, y.2 = .local → sc.names.lookup y.1 = some .local
  own : sc.names.lookup x = some .local
  fr : ∀ y ∈ sc.names, y.2 = .free → fsc.names.lookup y.1 = some .cell ∨ fsc.names.lookup y.1 = some .free
  len : Nc.length = N.length + 1
  nd : Nc.Nodup
  last : Nc[N.length]? = some x
  slot : ((List.range N.length).all fun i => match Nc[i]? with
    | some y => (match sc.names.lookup y with | some .free => N[i]? == some y | some .local => false | some .cell => false | _ => true)
    | none => true) = true
theorem CompN.at {N Nc : List Str} {x : Str} {sc fsc : Scope} (C : CompN N Nc x sc fsc) {i : Nat} {y : Str} (hi : i < N.length) (h : Nc[i]? = some y) : sc.names.lookup y ≠ some .local ∧ sc.names.lookup y ≠ some .cell ∧ (sc.names.lookup y = some .free → N[i]? = some y) := by
  have q := List.all_eq_true.mp C.slot i (List.mem_range.mpr hi)
  rw [h] at q
  dsimp only at q
  cases e : sc.names.lookup y with
  | none => exact ⟨fun z => (nomatch z), fun z => (nomatch z), fun z => (nomatch z)⟩
  | some k =>
    rw [e] at q
    cases k with
    | «local» => exact absurd (show false = true from q) Bool.false_ne_true
    | cell => exact absurd (show false = true from q) Bool.false_ne_true
    | free => exact ⟨fun z => (nomatch z), fun z => (nomatch z), fun _ => by simpa using q⟩
    | _ => exact ⟨fun z => (nomatch z), fun z => (nomatch z), fun z => (nomatch z)⟩
section
variable {X : Cx} {elt iter : Expr} {x : Str} {px pos : Pos} {ifs : List Expr} {sc fsc : Scope} {N Nc : List Str} {wi : TI} {tt : TT} {te : TE}
structure CLoc (X : Cx) (pins : List (Addr × Obj)) (H : Hp) (C : Addr) : Prop where
  free : H C = none
  ne : C ≠ X.env.locals
  new : X.s₀.heap.objs.size ≤ C
  cells : ∀ x c, X.env.cells.lookup x = some c → c ≠ C
  pins : ∀ p ∈ X.pn ++ pins, p.1 ≠ C
theorem Inv.sameBut {pins : List (Addr × Obj)} {σ : St} {H : Hp} {s : Shared} {C : Addr} {h' : Heap} (I : Inv X pins σ H s) (c : CLoc X pins H C) (k : Heap.SameBut C s.heap h') : Inv X pins σ H { s with heap := h' } :=
  I.turned (t' := s.toks) (it := C) (fun b o hb e => (k.2 b hb).trans e) c.free c.ne (.inr c.new) c.cells c.pins
theorem set_last {σ : St} {o v : Option V} : (σ ++ [o]).set σ.length v = σ ++ [v] := by
  rw [List.set_append_right _ _ (Nat.le_refl _), Nat.sub_self]
  rfl
theorem comp_core (hE : X.env.scope = fsc) (hXN : X.N = N) (cn : CompN N Nc x sc fsc) (hc : X.calm = true)
    (ht : ∀ cl s H ex, PIfs (X.inComp Nc sc cl s H ex) ifs tt) (he : ∀ cl s H ex, PE (X.inComp Nc sc cl s H ex) elt te)
    {cl : List (Str × Addr)} (clS : ∀ y c, cl.lookup y = some c → X.env.cells.lookup y = some c) (clH : ∀ y ∈ sc.names, y.2 = .free → ∃ c, cl.lookup y.1 = some c)
    {pins : List (Addr × Obj)} {σ : St} {H2 : Hp} {s2 : Shared} {it : Addr} {fp : List Addr} {tn : Nat → Heap → Prop} {J : It} {Q : VK} {E : Value → Shared → Prop}
    (I2 : Inv X pins σ H2 s2) (T : Turn X.prog X.w X.K (.Name x px) J fp it tn) (st2 : tn 0 s2.heap) (f2 : ∀ b ∈ fp, FpOk X pins H2 b)
    (h2 : ∀ D, H2 D = none → ∃ W : Nat → Nat → List V → Hp → Prop, (∃ m, W 0 m [] (upd H2 D (.lst []))) ∧ ∀ i m ys H2, W i m ys H2 →
      H2 D = some (.lst ys) ∧ ((J.stop i H2 ∧ Q (.ref D) H2) ∨ (J.go i H2 ∧ ys.length < sizeLine ∧ ∀ x H3, J.yld i H2 x H3 → tt (σ ++ [some x]) H3 fun b H4 => if b = true then te (σ ++ [some x]) H4 fun y H5 => H5 D = some (.lst ys) ∧ ∃ m', m' < m ∧ W (i + 1) m' (ys ++ [y]) (upd H5 D (.lst (ys ++ [y])))
        else ∃ m', m' < m ∧ W (i + 1) m' ys H4))) :
    wpAny (model X.prog X.w) X.A (newList []) (fun acc s₃ => wpAny (model X.prog X.w) X.A (newFunctionEnv sc X.env.globals cl [] X.env.qual none .none (some X.env)) (fun cenv s₄ =>
      codeAny (model X.prog X.w) X.A (.compStart (.ListComp elt [⟨.Name x px, iter, ifs, 0⟩] sc pos) 0 (.ref it) acc { cenv with scope := relabel sc X.env })
        (fun r s' => r = .ok .next ∧ ∃ D H', acc = .ref D ∧ Inv X pins σ H' s' ∧ Q (.ref D) H' ∧ CLoc X pins H' cenv.locals ∧ ∃ m, s'.heap.Ns cenv.locals m) s₄) E s₃) E s2 := by
  refine wpAny_newObj_type (wpAny_newFunctionEnv cn.cell (by intro y hy; simp at hy) (fun h₁ hns₁ hsb₁ => ?_) cn.kind)
  dsimp only at hns₁ hsb₁ ⊢
  have hD : H2 s2.heap.objs.size = none := I2.hok.fresh (Nat.le_refl _)
  obtain ⟨W, ⟨m0, w0⟩, turn⟩ := h2 s2.heap.objs.size hD
  have I3 : Inv X pins σ (upd H2 s2.heap.objs.size (.lst [])) { s2 with heap := s2.heap.push { cls := .type "list", dict := none, data := .seq ([] : List Value).toArray } } :=
    I2.laid (t' := s2.toks) (fun b u e => Heap.get?_push_of_some _ e) (Nat.le_refl _) ⟨Nat.zero_le _, [], 0, .nil, Heap.get?_push_size _ rfl⟩
  generalize hs3 : ({ s2 with heap := s2.heap.push { cls := .type "list", dict := none, data := .seq ([] : List Value).toArray } } : Shared) = s3 at I3
  have eh : s3.heap = s2.heap.push { cls := .type "list", dict := none, data := .seq ([] : List Value).toArray } := by rw [← hs3]
  have e2 : ({ s2 with heap := h₁, toks := s2.toks + ([] : List (Str × Value)).length } : Shared) = { s3 with heap := h₁, toks := s3.toks } := by rw [← hs3]; rfl
  generalize hH3 : upd H2 s2.heap.objs.size (.lst []) = H3 at I3 w0
  rw [← eh] at hns₁ hsb₁ ⊢
  rw [e2]
  have below2 : ∀ b, b ∈ fp → b < s3.heap.objs.size := fun b hb => by
    obtain ⟨o, e, _⟩ := T.obj _ _ st2 b hb
    have : s2.heap.objs.size ≤ s3.heap.objs.size := by rw [eh, Heap.size_push]; exact Nat.le_succ _
    exact Nat.lt_of_lt_of_le (Heap.lt_size e) this
  have old : ∀ b o, s3.heap.get? b = some o → h₁.get? b = some o := fun b o e => (hsb₁.2 b (Nat.ne_of_lt (Heap.lt_size e))).trans (Heap.get?_push_of_some _ e)
  have old2 : ∀ b o, s2.heap.get? b = some o → s3.heap.get? b = some o := fun b o e => by rw [eh]; exact Heap.get?_push_of_some _ e
  have hsz3 : s2.heap.objs.size < s3.heap.objs.size := by rw [eh, Heap.size_push]; exact Nat.lt_succ_self _
  have fpFree : ∀ b ∈ fp, H3 b = none := fun b hb => by
    rw [← hH3, upd_ne (fun z => ?_)]
    · exact (f2 b hb).1
    · obtain ⟨o, e, _⟩ := T.obj _ _ st2 b hb
      have := Heap.lt_size e
      rw [z] at this
      exact Nat.lt_irrefl _ this
  have rl : ∀ y, (relabel sc X.env).names.lookup y = (sc.names.lookup y).map fun k => if (k == NameKind.free && X.env.scope.kind == .function && X.env.kindOf y == some .cell) then NameKind.cell else k := fun y => lookup_relabel X.env sc.names y
  have freeOf : ∀ y, sc.names.lookup y = some .free → ∃ c, cl.lookup y = some c := fun y e => clH (y, .free) (PySem.mem_of_lookup e) rfl
  have noCell : ∀ y, sc.names.lookup y ≠ some .cell := fun y e => cn.cell (y, .cell) (PySem.mem_of_lookup e) rfl
  have isFree : ∀ y, ((relabel sc X.env).names.lookup y = some .cell ∨ (relabel sc X.env).names.lookup y = some .free) → sc.names.lookup y = some .free := fun y h => by
    rw [rl y] at h
    cases e : sc.names.lookup y with
    | none => rw [e] at h; rcases h with z | z <;> exact absurd z (by simp)
    | some k =>
      rw [e] at h
      cases k with
      | free => rfl
      | cell => exact absurd e (noCell y)
      | «local» => rcases h with z | z <;> exact absurd z (by simp)
      | _ => rcases h with z | z <;> exact absurd z (by simp)
  have ownLoc : (relabel sc X.env).names.lookup x = some .local := by rw [rl x, cn.own]; rfl
  have exOk : ∀ b ∈ fp, b ≠ s3.heap.objs.size ∧ (∀ y c, X.env.cells.lookup y = some c → c ≠ b) ∧ b ∉ frs X.stack := fun b hb => by
    obtain ⟨g0, g1, g2, g3, g4, g5⟩ := f2 b hb
    refine ⟨Nat.ne_of_lt (below2 b hb), g4, fun z => ?_⟩
    rcases List.mem_cons.mp (I2.stkSub b z) with z | z
    · exact g1 z
    · exact g2 z
  have hCnew : X.s₀.heap.objs.size ≤ s3.heap.objs.size := I3.sz
  have hCcell : ∀ y c, X.env.cells.lookup y = some c → c ≠ s3.heap.objs.size := fun y c e z => by
    obtain ⟨v, q⟩ := I3.cell y c e
    have := q.lt
    rw [z] at this
    exact Nat.lt_irrefl _ this
  have hCpin : ∀ p ∈ X.pn ++ pins, p.1 ≠ s3.heap.objs.size := fun p hp z => by
    have := Heap.lt_size (I3.pin p hp).1
    rw [z] at this
    exact Nat.lt_irrefl _ this
  have okc : (X.inComp Nc sc cl s3 H3 fp).Ok := by
    refine ⟨I3.ok.mod, cn.kind, I3.ok.glob, I3.ok.blt, Nat.le_refl _, fun y z c h1 h2 => I3.ok.inj y z c (clS y c h1) (clS z c h2), fun y hy => freeOf y (isFree y hy), fun y c hf => absurd (show false = true from hf) Bool.false_ne_true, I3.ok.hd, I3.ok.frames, .inl rfl,
      fun b hb => ⟨(exOk b hb).1, fun y c e => (exOk b hb).2.1 y c (clS y c e)⟩, fun b o e => I3.bs b o e, Nat.le_trans I3.ok.bsz I3.sz, fun b o e hb => ?_, fun b hb => (exOk b hb).2.2, I3.stack, I3.stkFree⟩
    obtain ⟨g0, g1, g2, g3, g4, g5⟩ := f2 b hb
    rcases g3 with z | z
    · exact I3.ok.noex b o e z
    · exact absurd (Heap.lt_size (I3.ok.bs b o e).1) (Nat.not_lt.mpr z)
  have hlen : σ.length = N.length := by rw [I3.len, hXN]
  have Ic : Inv (X.inComp Nc sc cl s3 H3 fp) [] (σ ++ [none]) H3 { s3 with heap := h₁, toks := s3.toks } := by
    refine ⟨okc, rfl, I3.bare, Un.kept old, ⟨_, hns₁, fun i y v h1 h2 h3 => ?_⟩, fun y c e => ?_, I3.hok.fresh (Nat.le_refl _), fun y c e => I3.freeC y c (clS y c e), fun p hp => absurd (show p ∈ ([] : List (Addr × Obj)) from hp) (by simp), I3.hok.kept old, ?_⟩
    · have hi : i < σ.length := by
        by_cases hi : i < σ.length
        · exact hi
        · rw [List.getElem?_append_right (Nat.not_lt.mp hi)] at h2
          cases e : i - σ.length with
          | zero => rw [e] at h2; cases h2
          | succ k => rw [e] at h2; simp at h2
      rw [List.getElem?_append_left hi] at h2
      have hi' : i < N.length := by rw [← hlen]; exact hi
      obtain ⟨n1, n2, n3⟩ := cn.at hi' h1
      have hf : sc.names.lookup y = some .free := by
        rcases h3 with z | z
        · exfalso
          have z' : (relabel sc X.env).names.lookup y = some .local := z
          rw [rl y] at z'
          cases e : sc.names.lookup y with
          | none => rw [e] at z'; simp at z'
          | some k =>
            rw [e] at z'
            cases k with
            | «local» => exact n1 e
            | cell => exact n2 e
            | free =>
              simp only [Option.map_some, Option.some.injEq] at z'
              split at z' <;> cases z'
            | _ => simp at z'
        · exact isFree y z
      have hN : X.N[i]? = some y := by rw [hXN]; exact n3 hf
      obtain ⟨m, hn, hl⟩ := I3.loc
      have hv : fsc.names.lookup y = some .cell ∨ fsc.names.lookup y = some .free := cn.fr (y, .free) (PySem.mem_of_lookup hf) rfl
      have hv' : X.env.scope.names.lookup y = some .cell ∨ X.env.scope.names.lookup y = some .free := by rw [hE]; exact hv
      obtain ⟨u, ru, lk⟩ := hl i y v hN h2 (.inr hv')
      refine ⟨u, ru, .inr ⟨?_, ?_⟩⟩
      · show (relabel sc X.env).names.lookup y = some .cell ∨ (relabel sc X.env).names.lookup y = some .free
        rw [rl y, hf]
        simp only [Option.map_some, Option.some.injEq]
        split
        · exact .inl rfl
        · exact .inr rfl
      · rcases lk with ⟨kl, _⟩ | ⟨_, c, hc, hcell⟩
        · exfalso
          have kl' : X.env.scope.names.lookup y = some .local := kl
          rw [kl'] at hv'
          rcases hv' with z | z <;> cases z
        · obtain ⟨d, hd⟩ := freeOf y hf
          have ed := clS y d hd
          rw [hc] at ed
          cases ed
          exact ⟨c, hd, hcell.keeps old⟩
    · obtain ⟨v, q⟩ := I3.cell y c (clS y c e)
      exact ⟨v, q.keeps old⟩
    · show (σ ++ [none]).length = Nc.length
      rw [List.length_append, hlen, cn.len]
      rfl
  have stc : tn 0 ({ s3 with heap := h₁, toks := s3.toks } : Shared).heap := T.keep _ _ _ st2 fun b _ o e => old b o (old2 b o e)
  have hDf : s2.heap.objs.size ∉ fp := fun hm => by
    obtain ⟨o, e, _⟩ := T.obj _ _ st2 _ hm
    exact Nat.lt_irrefl _ (Heap.lt_size e)
  have fpc : ∀ {pins' : List (Addr × Obj)} {H' : Hp}, pins' = [] → (∀ b ∈ fp, H' b = none) → ∀ b ∈ fp, FpOk (X.inComp Nc sc cl s3 H3 fp) pins' H' b := fun {pins' H'} hp hn b hb => by
    subst hp
    exact ⟨hn b hb, (exOk b hb).1, (exOk b hb).2.2, .inl hb, fun y c e => (exOk b hb).2.1 y c (clS y c e), fun p hp => absurd (show p ∈ ([] : List (Addr × Obj)) from hp) (by simp)⟩
  have hg : PG (X.inComp Nc sc cl s3 H3 fp) (.Name x px) (gName σ.length) := pg_name (X := X.inComp Nc sc cl s3 H3 fp) cn.nd (by show Nc[σ.length]? = some x; rw [hlen]; exact cn.last) (.inl ownLoc) (.inr ownLoc)
  have loop : ∀ s₄ : Shared, s₄ = { s3 with heap := h₁, toks := s3.toks } →
      codeAny (model X.prog X.w) X.A (.compLoop (.ListComp elt [⟨.Name x px, iter, ifs, 0⟩] sc pos) 0 (.ref it) (.ref s2.heap.objs.size) (compEnvC sc cl s3.heap.objs.size X.env))
        (fun r s' => r = .ok .next ∧ ∃ D H', (Value.ref s2.heap.objs.size) = .ref D ∧ Inv X pins σ H' s' ∧ Q (.ref D) H' ∧ CLoc X pins H' s3.heap.objs.size ∧ ∃ m, s'.heap.Ns s3.heap.objs.size m) s₄ := by
    rintro s₄ rfl
    refine codeAny_compLoop_tests (fun n s' => ∃ (i : Nat) (o : Option V) (H' : Hp) (ys : List V), Inv (X.inComp Nc sc cl s3 H3 fp) [] (σ ++ [o]) H' s' ∧ tn i s'.heap ∧ (∀ b ∈ fp, H' b = none) ∧ W i n ys H') ?_ m0 ⟨0, none, H3, [], Ic, stc, fpFree, w0⟩
    rintro n s' ⟨i, o, H', ys, I', st', fr', w'⟩
    obtain ⟨hDl, tw⟩ := turn i n ys H' w'
    rcases tw with ⟨stop, q⟩ | ⟨go, hz, step⟩
    ·
      refine thn (T.done (X.inComp Nc sc cl s3 H3 fp) rfl rfl rfl hc i [] s' _ H' _ I' (fpc rfl fr') st' stop) fun r s5 ⟨hr, I5⟩ => ?_
      subst hr
      have Ix : Inv X pins σ H' s5 := I3.call' (ch := fp) I5.os I5.base I5.hok I5.bare fun b hb => by
        obtain ⟨g0, g1, g2, g3, g4, g5⟩ := f2 b hb
        exact ⟨g3, g1, g4, g5⟩
      have hCf : H' s3.heap.objs.size = none := I5.free
      obtain ⟨m, hn, _⟩ := I5.loc
      exact ⟨rfl, s2.heap.objs.size, H', rfl, Ix, q, ⟨hCf, fun z => Nat.lt_irrefl _ (by have := I3.lt; rw [← z] at this; exact this), hCnew, hCcell, hCpin⟩, m, hn⟩
    ·
      refine thn (T.item (X.inComp Nc sc cl s3 H3 fp) rfl rfl rfl hc i [] s' _ H' _ I' (fpc rfl fr') st' go) fun r s5 ⟨u, hr, h4⟩ => ?_
      subst hr
      dsimp only
      have e0 : letOwnedTupleGo (.Name x px) (.ref it) u = pure () := rfl
      have e1 : (letOwnedTupleGo (.Name x px) (.ref it) u >>= fun _ => assign (.Name x px) (compEnvC sc cl s3.heap.objs.size X.env) u) = assign (.Name x px) (compEnvC sc cl s3.heap.objs.size X.env) u := by rw [e0, pure_bind]
      rw [← e1]
      refine wpAny_bind (thn h4 fun _ s6 ⟨xv, H5, I5, r5, y5, st5, fr5⟩ => ?_)
      have I5' := I5.pinned (fpc rfl fr5) (T.obj _ _ st5)
      have again : ∀ {H7 : Hp} {s7 : Shared} {m' : Nat} {ys' : List V}, Inv (X.inComp Nc sc cl s3 H3 fp) ([] ++ pinsAt fp s6.heap) (σ ++ [some xv]) H7 s7 → m' < n → W (i + 1) m' ys' H7 →
          ∃ m, m < n ∧ ∃ (i : Nat) (o : Option V) (H' : Hp) (ys : List V), Inv (X.inComp Nc sc cl s3 H3 fp) [] (σ ++ [o]) H' s7 ∧ tn i s7.heap ∧ (∀ b ∈ fp, H' b = none) ∧ W i m ys H' := fun {H7 s7 m' ys'} I7 hm w7 => by
        refine ⟨m', hm, i + 1, some xv, H7, ys', I7.unpinned, T.keep _ _ _ st5 fun b hb o e => (I7.pin (b, o) (List.mem_append_right _ (List.mem_append_right _ (mem_pinsAt hb e)))).1, fun b hb => ?_, w7⟩
        obtain ⟨o', e, d⟩ := T.obj _ _ st5 b hb
        exact (I7.pin (b, o') (List.mem_append_right _ (List.mem_append_right _ (mem_pinsAt hb e)))).2.1
      refine thnF (hg _ s6 _ H5 xv u (fun σ' H'' => σ' = σ ++ [some xv] ∧ H'' = H5) I5' r5 ⟨set_last, rfl⟩) fun _ s7 ⟨σ7, H7, I7, e7, e7'⟩ => ?_
      subst e7
      subst e7'
      refine thnF (ht cl s3 H3 fp _ s7 _ _ _ I7 (step xv _ y5)) fun b s8 ⟨H8, I8, q8⟩ => ?_
      cases b with
      | false =>
        rw [if_neg Bool.false_ne_true] at q8 ⊢
        obtain ⟨m', hm, w8⟩ := q8
        exact again I8 hm w8
      | true =>
        rw [if_pos rfl] at q8 ⊢
        refine thnF (he cl s3 H3 fp _ s8 _ H8 _ I8 q8) fun y s9 ⟨yv, H9, I9, r9, hD9, m', hm, w9⟩ => ?_
        refine thnF (mt_append _ s9 _ H9 (.ref s2.heap.objs.size) [yv] (.ref s2.heap.objs.size) [y] (fun v H => v = .non ∧ H = upd H9 s2.heap.objs.size (.lst (ys ++ [yv]))) I9 rfl (.cons r9 .nil) ⟨_, ys, yv, rfl, rfl, hD9, hz, rfl, rfl⟩) fun _ s10 ⟨v10, H10, I10, r10, e10, e11⟩ => ?_
        subst e11
        exact again I10 hm w9
  exact codeAny_compStart_list (loop _ rfl) (T.self _ 0 _ _ _ stc (loop _ rfl))
theorem comp_has (I : ∀ y, (X.env.kindOf y = some .cell ∨ X.env.kindOf y = some .free) → ∃ c, X.env.cells.lookup y = some c) (hE : X.env.scope = fsc) (cn : CompN N Nc x sc fsc) : ∀ y ∈ sc.names, y.2 = .free → ∃ c, X.env.cells.lookup y.1 = some c := fun y hy hf => by
  refine I y.1 ?_
  show X.env.scope.names.lookup y.1 = some .cell ∨ X.env.scope.names.lookup y.1 = some .free
  rw [hE]
  exact cn.fr y hy hf
theorem pe_comp (hE : X.env.scope = fsc) (hXN : X.N = N) (cn : CompN N Nc x sc fsc) (hc : X.calm = true) (hi : PI X (.Name x px) iter wi)
    (ht : ∀ cl s H ex, PIfs (X.inComp Nc sc cl s H ex) ifs tt) (he : ∀ cl s H ex, PE (X.inComp Nc sc cl s H ex) elt te)
    (hs : ∀ v, foldedSetIterable iter X.env v = pure v := by intro _; rfl) : PE X (.ListComp elt [⟨.Name x px, iter, ifs, 0⟩] sc pos) (tComp wi tt te) := by
  intro pins s σ H Q I h
  obtain ⟨cl, hcl, clS, clH⟩ := closure_ok (env := X.env) (sc := sc) (comp_has I.ok.has hE cn)
  rw [eval_ListComp]
  refine wpAny_comprehension_free (use := none) rfl hs hcl cn.kind cn.nm (thn (hi pins s σ H _ I h) fun v s1 h1 => thn h1 fun itv s2 h2 => ?_)
  obtain ⟨it, fp, tn, J, H2, rfl, I2, T, st2, f2, h2⟩ := h2
  refine thn (comp_core (pos := pos) (iter := iter) hE hXN cn hc ht he clS clH I2 T st2 f2 h2) fun acc s3 h3 => thn h3 fun cenv s4 h4 => codeAny_mono h4 fun r s' h5 => ?_
  obtain ⟨rfl, D, H', rfl, I', q, cloc, m, hn⟩ := h5
  exact ⟨m, hn, fun h' k => ⟨.ref D, H', I'.sameBut cloc k, rfl, q⟩⟩
theorem ps_setC {j : Nat} {y : Str} {py spos : Pos} (hE : X.env.scope = fsc) (hXN : X.N = N) (cn : CompN N Nc x sc fsc) (hc : X.calm = true) (hnd : X.N.Nodup) (hj : X.N[j]? = some y) (hy : X.env.scope.names.lookup y = some .local) (hi : PI X (.Name x px) iter wi)
    (ht : ∀ cl s H ex, PIfs (X.inComp Nc sc cl s H ex) ifs tt) (he : ∀ cl s H ex, PE (X.inComp Nc sc cl s H ex) elt te)
    (hsw : swapsWith (.ListComp elt [⟨.Name x px, iter, ifs, 0⟩] sc pos) (some (.Name y py)) spos.line X.env = pure true)
    (hs : ∀ v, foldedSetIterable iter X.env v = pure v := by intro _; rfl) : PS X (.Assign [.Name y py] (.ListComp elt [⟨.Name x px, iter, ifs, 0⟩] sc pos) spos) (tAsg (tComp wi tt te) (gName j)) := by
  intro pins s σ H D I h
  obtain ⟨cl, hcl, clS, clH⟩ := closure_ok (env := X.env) (sc := sc) (comp_has I.ok.has hE cn)
  rw [exec_Assign_Name_used _ _ _ _ hsw]
  refine wpAny_bind (wpAny_standAt (wpAny_bind ?_))
  show wpAny _ X.A (do let _ ← comprehension (.ListComp elt [⟨.Name x px, iter, ifs, 0⟩] sc pos) sc X.env _ (newList []) false (eval iter X.env) (some (assign (.Name y py) X.env))) _ _ s
  refine wpAny_bind (thn (wpAny_comprehension_free (Q := fun _ s' => SP X pins D .next s') rfl hs hcl cn.kind cn.nm (thn (hi pins s σ H _ I h) fun v s1 h1 => thn h1 fun itv s2 h2 => ?_)) fun _ s' hq => wpAny_pure (wpAny_pure hq))
  obtain ⟨it, fp, tn, J, H2, rfl, I2, T, st2, f2, h2⟩ := h2
  refine thn (comp_core (pos := pos) (iter := iter) (Q := fun x H1 => gName j x σ H1 D.nx) hE hXN cn hc ht he clS clH I2 T st2 f2 h2) fun acc s3 h3 => thn h3 fun cenv s4 h4 => codeAny_mono h4 fun r s' h5 => ?_
  obtain ⟨rfl, D', H', rfl, I', q, cloc, m, hn⟩ := h5
  refine wpAny_assign_Name (store_ok2 (v := .ref D') I' hnd hj (.inl hy) rfl (fun s6 I6 sb => ?_) (.inr hy))
  obtain ⟨a, k, ha⟩ := sb
  refine ⟨m, hn.sameBut k (fun z => ?_), fun h' k' => ⟨_, H', I6.sameBut cloc k', q⟩⟩
  rcases ha with ha | ha
  · exact cloc.ne (z.trans ha)
  · exact cloc.cells _ _ ha z.symm
end
theorem comp_range {lo : Int} {n : Nat} {tt : TT} {te : TE} {σ : St} {H1 : Hp} {Q : Addr → Hp → Prop} (hn : n ≤ sizeLine) (Pv : Addr → Nat → List V → Hp → Prop)
    (h0 : ∀ D, H1 D = none → Pv D 0 [] (upd H1 D (.lst []))) (hD : ∀ D i ys H, Pv D i ys H → H D = some (.lst ys) ∧ ys.length ≤ i)
    (hs : ∀ D i ys H (K1 : VK) (K2 : Hp → Prop), H1 D = none → i < n → Pv D i ys H → (∀ y H5, H5 D = some (.lst ys) → Pv D (i + 1) (ys ++ [y]) (upd H5 D (.lst (ys ++ [y]))) → K1 y H5) → (∀ H4, Pv D (i + 1) ys H4 → K2 H4) →
      tt (σ ++ [some (.int (lo + i))]) H fun b H4 => if b = true then te (σ ++ [some (.int (lo + i))]) H4 K1 else K2 H4)
    (hd : ∀ D ys H, H1 D = none → Pv D n ys H → Q D H) :
    ∀ D, H1 D = none → ∃ W : Nat → Nat → List V → Hp → Prop, (∃ m, W 0 m [] (upd H1 D (.lst []))) ∧ ∀ i m ys H2, W i m ys H2 →
      H2 D = some (.lst ys) ∧ (((Itr lo n).stop i H2 ∧ Q D H2) ∨ ((Itr lo n).go i H2 ∧ ys.length < sizeLine ∧ ∀ x H3, (Itr lo n).yld i H2 x H3 → tt (σ ++ [some x]) H3 fun b H4 => if b = true then te (σ ++ [some x]) H4 fun y H5 => H5 D = some (.lst ys) ∧ ∃ m', m' < m ∧ W (i + 1) m' (ys ++ [y]) (upd H5 D (.lst (ys ++ [y])))
        else ∃ m', m' < m ∧ W (i + 1) m' ys H4)) := by
  intro D hDn
  refine ⟨fun i m ys H => m = n - i ∧ i ≤ n ∧ Pv D i ys H, ⟨n, rfl, Nat.zero_le _, h0 D hDn⟩, ?_⟩
  rintro i m ys H2 ⟨rfl, hi, p⟩
  obtain ⟨e, l⟩ := hD D i ys H2 p
  refine ⟨e, ?_⟩
  by_cases hlt : i < n
  · refine .inr ⟨hlt, Nat.lt_of_le_of_lt l (Nat.lt_of_lt_of_le hlt hn), fun x H3 y => ?_⟩
    obtain ⟨e1, e2⟩ := y
    subst e1 e2
    exact hs D i ys _ _ _ hDn hlt p (fun y H5 h5 p5 => ⟨h5, n - (i + 1), by omega, rfl, hlt, p5⟩) fun H4 p4 => ⟨n - (i + 1), by omega, rfl, hlt, p4⟩
  · have ei : i = n := by omega
    subst ei
    exact .inl ⟨Nat.le_refl _, hd D ys H2 hDn p⟩
theorem comp_list {K : PySem.W.Frag} {a : Addr} {xs : List V} {tt : TT} {te : TE} {σ : St} {H1 : Hp} {Q : Addr → Hp → Prop} (hn : xs.length ≤ sizeLine) (Pv : Addr → Nat → List V → Hp → Prop)
    (h0 : ∀ D, H1 D = none → Pv D 0 [] (upd H1 D (.lst []))) (hD : ∀ D i ys H, Pv D i ys H → H D = some (.lst ys) ∧ ys.length ≤ i) (hl : ∀ D i ys H, H1 D = none → Pv D i ys H → SqL K H a xs)
    (hs : ∀ D i x ys H (K1 : VK) (K2 : Hp → Prop), H1 D = none → xs[i]? = some x → Pv D i ys H → (∀ y H5, H5 D = some (.lst ys) → Pv D (i + 1) (ys ++ [y]) (upd H5 D (.lst (ys ++ [y]))) → K1 y H5) → (∀ H4, Pv D (i + 1) ys H4 → K2 H4) →
      tt (σ ++ [some x]) H fun b H4 => if b = true then te (σ ++ [some x]) H4 K1 else K2 H4)
    (hd : ∀ D ys H, H1 D = none → Pv D xs.length ys H → Q D H) :
    ∀ D, H1 D = none → ∃ W : Nat → Nat → List V → Hp → Prop, (∃ m, W 0 m [] (upd H1 D (.lst []))) ∧ ∀ i m ys H2, W i m ys H2 →
      H2 D = some (.lst ys) ∧ (((Itl K a).stop i H2 ∧ Q D H2) ∨ ((Itl K a).go i H2 ∧ ys.length < sizeLine ∧ ∀ x H3, (Itl K a).yld i H2 x H3 → tt (σ ++ [some x]) H3 fun b H4 => if b = true then te (σ ++ [some x]) H4 fun y H5 => H5 D = some (.lst ys) ∧ ∃ m', m' < m ∧ W (i + 1) m' (ys ++ [y]) (upd H5 D (.lst (ys ++ [y])))
        else ∃ m', m' < m ∧ W (i + 1) m' ys H4)) := by
  intro D hDn
  refine ⟨fun i m ys H => m = xs.length - i ∧ i ≤ xs.length ∧ Pv D i ys H, ⟨xs.length, rfl, Nat.zero_le _, h0 D hDn⟩, ?_⟩
  rintro i m ys H2 ⟨rfl, hi, p⟩
  obtain ⟨e, l⟩ := hD D i ys H2 p
  have q := hl D i ys H2 hDn p
  refine ⟨e, ?_⟩
  by_cases hlt : i < xs.length
  · refine .inr ⟨⟨xs, xs[i], q, by simp [hlt]⟩, Nat.lt_of_le_of_lt l (Nat.lt_of_lt_of_le hlt hn), fun x H3 y => ?_⟩
    obtain ⟨e1, y⟩ := y
    subst e1
    exact hs D i x ys _ _ _ hDn (y xs q) p (fun y H5 h5 p5 => ⟨h5, xs.length - (i + 1), by omega, rfl, hlt, p5⟩) fun H4 p4 => ⟨xs.length - (i + 1), by omega, rfl, hlt, p4⟩
  · have ei : i = xs.length := by omega
    subst ei
    exact .inl ⟨⟨xs, q, Nat.le_refl _⟩, hd D ys H2 hDn p⟩
section
variable {X : Cx}
theorem ix_listK (K : PySem.W.Frag) (h : X.K = K := by rfl) : IxR X (rIxL K) := by subst h; exact ix_list
end
end L2
namespace L2
open PySem PySem.Spec PyProof.Rows
section
variable {X : Cx}
theorem call_sum (hc : X.calm = true) : CallR X (.builtin "sum") (fun xs H Q => ∃ (p : Addr) (ns : List Int), xs = [.ref p] ∧ SqL X.K H p (ns.map V.int) ∧ Q (.int ns.sum) H) := by
  intro pins s σ H xs us Q I rv h
  obtain ⟨p, ns, rfl, hS, q⟩ := h
  obtain ⟨u, rfl, r⟩ := vals1 rv
  cases r
  obtain ⟨its, rv, pl, hz⟩ := I.list hS
  have hi := intsAre_of rv
  obtain ⟨xs, e⟩ := hi.allInts.items
  have en : xs.toList.map (·.1) = ns := by
    have := nums_intItems xs
    rw [← e, show its.toArray.toList = its from rfl, hi.numsOf] at this
    exact this.symm
  refine sum_intListG (I.ok.hd hc) (by rw [← e]; exact pl.isList) fun h' tk t' hk => ?_
  rw [preSum_eq, List.take_of_length_le (by simp), en]
  exact ⟨.int ns.sum, H, I.kept hk, ⟨_, rfl⟩, q⟩
end
theorem cut_take {xs : List V} {j : Nat} : cutV xs none (some (j : Int)) = xs.take j := by
  unfold cutV
  rw [HT.sIx_none, HT.sIx_nat, List.drop_zero, Nat.sub_zero]
  by_cases h : j ≤ xs.length
  · rw [Nat.min_eq_left h]
  · rw [Nat.min_eq_right (by omega), List.take_of_length_le (Nat.le_refl _), List.take_of_length_le (by omega)]
end L2
namespace L2
open PySem PySem.Spec PyProof.Rows
def Rec (h : Heap) (e : Addr) (cls : Value) (od T : Option Addr) (fl : Value) : Prop :=
  ∃ oe vs, h.get? e = some oe ∧ oe.cls = cls ∧ oe.dict = od ∧ oe.data = .fields vs ∧
    match T with
    | none => vs[1]? = some .none
    | some t => vs[1]? = some (.ref t) ∧ t ≠ e ∧ ∃ oT ts, h.get? t = some oT ∧ oT.data = .fields ts ∧ ts[3]? = some fl
structure Keep (fs xs : List Addr) (h h' : Heap) : Prop where
  keep : ∀ b o, h.get? b = some o → b ∉ fs → b ∉ xs → h'.get? b = some o
  slot : ∀ b o, h.get? b = some o → b ∈ fs → b ∉ xs → ∃ sl, h'.get? b = some { o with slots := sl }
  there : ∀ b o, h.get? b = some o → ∃ o', h'.get? b = some o'
theorem Keep.any {fs xs : List Addr} {h h' : Heap} (k : Keep fs xs h h') {b : Addr} {o : Obj} (e : h.get? b = some o) (n : b ∉ xs) : ∃ sl, h'.get? b = some { o with slots := sl } := by
  by_cases hb : b ∈ fs
  · exact k.slot b o e hb n
  · exact ⟨o.slots, k.keep b o e hb n⟩
theorem Keep.mono {fs fs' xs xs' : List Addr} {h h' : Heap} (k : Keep fs xs h h') (hf : ∀ b ∈ fs, b ∈ fs') (hx : ∀ b ∈ xs, b ∈ xs') : Keep fs' xs' h h' :=
  ⟨fun b o e n m => k.keep b o e (fun z => n (hf b z)) fun z => m (hx b z), fun b o e _ m => k.any e fun z => m (hx b z), k.there⟩
theorem dict_mf (f : Array Value → Array Value) (o : Obj) : (Obj.mapFields f o).dict = o.dict := by
  obtain ⟨c, d, dt, sl⟩ := o
  cases dt <;> rfl
section
variable {M : Model} {A : Around} {E : Value → Shared → Prop} {s : Shared} {env : Env} {outer : List Env} {L e : Addr} {base : Heap}
theorem entry_ok {oe : Obj} {vs : Array Value} {head : Value} {nx : Bool} {Q : Unit → Shared → Prop} (fr : A.frames = some (env :: outer)) (hl : s.heap.FunFrames base (env :: outer)) (hf : env.frame = some L)
    (he : s.heap.get? e = some oe) (hd : oe.data = .fields vs) (sz : 1 < vs.size)
    (k : ∀ h' oT ts, Keep (frs (env :: outer)) [e] s.heap h' → h'.get? e = some (oe.mapFields (·.setIfInBounds 1 (.ref s.heap.objs.size))) → h'.get? s.heap.objs.size = some oT → oT.data = .fields ts → ts[3]? = some (rawInt L) → Q () { s with heap := h' }) :
    wpAny M A (do let a ← frameOf env; let pl ← entryPlaceOf L nx; let b ← EntryCells.newEntry head a .none (rawInt L) .none pl; setField (.ref e) 1 b) Q E s := by
  have ne : e ∉ frs (env :: outer) := fun hm => by
    obtain ⟨_, o, ho, hn⟩ := hl.mem hm
    rw [he] at ho
    cases ho
    exact hn vs hd
  refine wpAny_bind (wpAny_frameOf_fun fr hl hf fun h₁ q => ?_)
  obtain ⟨q1, q2, q3⟩ := q
  refine wpAny_bind (wpAny_entryPlaceOf fun pl hp => ?_)
  simp only [EntryCells.newEntry, newFields]
  refine wpAny_bind (wpAny_newObj_type ?_ (hp.sizeOk5 _ _ _ _ _))
  rw [q1]
  generalize hT : ({ cls := .type "traceback", dict := none, data := .fields ([head, Value.ref L, .none, rawInt L, .none] ++ (if pl.isEmpty then List.replicate 6 Value.none else pl)).toArray } : Obj) = oT
  have e1 : h₁.get? e = some oe := (q2 e ne).trans he
  have e2 : (h₁.push oT).get? e = some oe := Heap.get?_push_of_some _ e1
  have lt : s.heap.objs.size ≠ e := Nat.ne_of_gt (Heap.lt_size he)
  have hT0 : (h₁.push oT).get? s.heap.objs.size = some oT := by
    have := Heap.get?_push_size h₁ (o := oT) (by rw [← hT]; rfl)
    rw [q1] at this
    exact this
  refine wpAny_setField e2 hd sz ?_
  have d3 := Obj.data_mapFields hd (·.setIfInBounds 1 (Value.ref s.heap.objs.size))
  have oth : ∀ b o, b ≠ e → h₁.get? b = some o → ((h₁.push oT).update e (Obj.mapFields (·.setIfInBounds 1 (Value.ref s.heap.objs.size)))).get? b = some o := fun b o hb z => by
    rw [Heap.get?_update_other _ _ (Ne.symm hb)]
    exact Heap.get?_push_of_some _ z
  have es := Heap.get?_update_self (Obj.mapFields (·.setIfInBounds 1 (Value.ref s.heap.objs.size))) e2 (Obj.isFreed_of_fields d3)
  refine k _ oT _ ⟨fun b o z hb hx => ?_, fun b o z hb hx => ?_, fun b o z => ?_⟩ es ?_ (by rw [← hT]) ?_
  · exact oth b o (fun y => hx (by rw [y]; exact List.mem_singleton.mpr rfl)) ((q2 b hb).trans z)
  · obtain ⟨sl, z1⟩ := q3 b o z
    exact ⟨sl, oth b _ (fun y => hx (by rw [y]; exact List.mem_singleton.mpr rfl)) z1⟩
  · by_cases hb : b = e
    · rw [hb]; exact ⟨_, es⟩
    · obtain ⟨sl, z1⟩ := q3 b o z
      exact ⟨_, oth b _ hb z1⟩
  · rw [Heap.get?_update_other _ _ (Ne.symm lt)]; exact hT0
  · rcases hp with rfl | ⟨_, _, _, _, _, _, _, rfl⟩ <;> simp
theorem note_rec {cls : Value} {od T : Option Addr} {fl : Value} {Q : Unit → Shared → Prop} (fr : A.frames = some (env :: outer)) (hl : s.heap.FunFrames base (env :: outer)) (hf : env.frame = some L) (R : Rec s.heap e cls od T fl)
    (hfl : T = none ∨ fl = .none ∨ fl = rawInt L)
    (k : ∀ h' t, Rec h' e cls od (some t) (rawInt L) → (T = some t ∨ t = s.heap.objs.size) → Keep (frs (env :: outer)) (e :: T.toList) s.heap h' → Q () { s with heap := h' }) : wpAny M A (noteFrame (.ref e) env) Q E s := by
  obtain ⟨oe, vs, he, hc, ho, hd, hT⟩ := R
  have lt : s.heap.objs.size ≠ e := Nat.ne_of_gt (Heap.lt_size he)
  unfold noteFrame
  simp only [hf]
  cases T with
  | none =>
    have h1 : vs[1]? = some Value.none := hT
    have sz := (Array.getElem?_eq_some_iff.mp h1).1
    refine wpAny_bind (wpAny_field he hd h1 ?_)
    rw [if_neg (by decide)]
    refine entry_ok fr hl hf he hd sz fun h' oT ts kp e' t1 t2 t3 => k h' _ ?_ (.inr rfl) kp
    exact ⟨_, _, e', by rw [Obj.cls_mapFields]; exact hc, by rw [dict_mf]; exact ho, Obj.data_mapFields hd _, by simp [sz], lt, oT, ts, t1, t2, t3⟩
  | some t =>
    obtain ⟨h1, ne, oT, ts, ht, hdt, h3⟩ := hT
    have sz := (Array.getElem?_eq_some_iff.mp h1).1
    have sz3 := (Array.getElem?_eq_some_iff.mp h3).1
    refine wpAny_bind (wpAny_field he hd h1 ?_)
    rw [if_pos (show (Value.ref t != Value.none) = true from by simp)]
    refine wpAny_bind (wpAny_field ht hdt h3 ?_)
    by_cases hh : fl = rawInt L
    · subst hh
      rw [if_pos (show (rawInt L == rawInt L) = true from by simp)]
      exact wpAny_pure (k s.heap t ⟨oe, vs, he, hc, ho, hd, h1, ne, oT, ts, ht, hdt, h3⟩ (.inl rfl) ⟨fun _ _ z _ _ => z, fun _ o z _ _ => ⟨o.slots, z⟩, fun _ o z => ⟨o, z⟩⟩)
    · have hn : fl = .none := by
        rcases hfl with z | z | z
        · cases z
        · exact z
        · exact absurd z hh
      subst hn
      rw [if_neg (show ¬ ((Value.none == rawInt L) = true) from by simp [rawInt])]
      refine wpAny_bind (wpAny_setField ht hdt sz3 ?_)
      have oth : ∀ b, b ≠ t → (s.heap.update t (Obj.mapFields (·.setIfInBounds 3 Value.none))).get? b = s.heap.get? b := fun b hb => Heap.get?_update_other _ _ (Ne.symm hb)
      have nf : ∀ b o, s.heap.get? b = some o → (∀ vs, o.data ≠ .fields vs) → b ≠ t := fun b o hb hnf q => by
        rw [q, ht] at hb
        cases hb
        exact hnf ts hdt
      have ts' := Heap.get?_update_self (Obj.mapFields (·.setIfInBounds 3 Value.none)) ht (Obj.isFreed_of_fields (Obj.data_mapFields hdt _))
      have zs : (s.heap.update t (Obj.mapFields (·.setIfInBounds 3 Value.none))).objs.size = s.heap.objs.size := by first | exact Heap.size_update _ _ _ | simp [Heap.update]
      refine entry_ok (s := { s with heap := s.heap.update t (Obj.mapFields (·.setIfInBounds 3 Value.none)) }) fr (hl.of_keeps fun b o hb hnf => ⟨o, (oth b (nf b o hb hnf)).trans hb, rfl⟩) hf ((oth e (Ne.symm ne)).trans he) hd sz
        fun h' oT' ts'' kp e' t1 t2 t3 => k h' _ ?_ (.inr zs) ?_
      · rw [show ({ s with heap := s.heap.update t (Obj.mapFields (·.setIfInBounds 3 Value.none)) } : Shared).heap.objs.size = s.heap.objs.size from zs] at *
        exact ⟨_, _, e', by rw [Obj.cls_mapFields]; exact hc, by rw [dict_mf]; exact ho, Obj.data_mapFields hd _, by simp [sz], lt, oT', ts'', t1, t2, t3⟩
      · refine ⟨fun b o z hb hx => ?_, fun b o z hb hx => ?_, fun b o z => ?_⟩
        · have hbe : b ≠ e := fun y => hx (by rw [y]; simp)
          have hbt : b ≠ t := fun y => hx (by rw [y]; simp)
          exact kp.keep b o ((oth b hbt).trans z) hb (by simpa using hbe)
        · have hbe : b ≠ e := fun y => hx (by rw [y]; simp)
          have hbt : b ≠ t := fun y => hx (by rw [y]; simp)
          exact kp.slot b o ((oth b hbt).trans z) hb (by simpa using hbe)
        · by_cases hbt : b = t
          · rw [hbt]; exact kp.there t _ ts'
          · exact kp.there b o ((oth b hbt).trans z)
theorem flight_rec {cls : Value} {od : Option Addr} {t : Addr} {fl : Value} {f : Option Addr} {Q : Unit → Shared → Prop} (R : Rec s.heap e cls od (some t) fl)
    (k : ∀ h', Rec h' e cls od (some t) (f.elim .none fun a => rawInt a) → Keep [] [t] s.heap h' → Q () { s with heap := h' }) : wpAny M A (setFlight (.ref e) f) Q E s := by
  obtain ⟨oe, vs, he, hc, ho, hd, h1, ne, oT, ts, ht, hdt, h3⟩ := R
  have sz3 := (Array.getElem?_eq_some_iff.mp h3).1
  unfold setFlight
  refine wpAny_bind (wpAny_field he hd h1 ?_)
  rw [if_pos (show (Value.ref t != Value.none) = true from by simp)]
  have oth : ∀ b, b ≠ t → (s.heap.update t (Obj.mapFields (·.setIfInBounds 3 (f.elim .none fun a => rawInt a)))).get? b = s.heap.get? b := fun b hb => Heap.get?_update_other _ _ (Ne.symm hb)
  have ts' := Heap.get?_update_self (Obj.mapFields (·.setIfInBounds 3 (f.elim .none fun a => rawInt a))) ht (Obj.isFreed_of_fields (Obj.data_mapFields hdt _))
  refine wpAny_setField ht hdt sz3 (k _ ?_ ⟨fun b o z _ hx => (oth b fun y => hx (by rw [y]; simp)).trans z, fun b o z _ hx => ⟨o.slots, (oth b fun y => hx (by rw [y]; simp)).trans z⟩, fun b o z => ?_⟩)
  · exact ⟨oe, vs, (oth e (Ne.symm ne)).trans he, hc, ho, hd, h1, ne, _, _, ts', Obj.data_mapFields hdt _, by simp [sz3]⟩
  · by_cases hbt : b = t
    · rw [hbt]; exact ⟨_, ts'⟩
    · exact ⟨o, (oth b hbt).trans z⟩
end
end L2
namespace L2
open PySem PySem.Spec PyProof.Rows
structure Mine (X : Cx) (pins : List (Addr × Obj)) (H : Hp) (b : Addr) : Prop where
  un : H b = none
  new : X.s₀.heap.get? b = none
  loc : b ≠ X.env.locals
  cel : ∀ x c, X.env.cells.lookup x = some c → c ≠ b
  pin : ∀ p ∈ X.pn ++ pins, p.1 ≠ b
def Fly (X : Cx) (pins : List (Addr × Obj)) (H : Hp) (e : Addr) (cls : Value) (od : Option Addr) (s : Shared) : Prop :=
  ∃ T fl, Rec s.heap e cls od T fl ∧ (T = none ∨ fl = .none ∨ ∃ L : Addr, X.env.frame = some L ∧ fl = rawInt L) ∧ ∀ b ∈ e :: T.toList, Mine X pins H b
def Held (X : Cx) (pins : List (Addr × Obj)) (H : Hp) (e : Addr) (cls : Value) (od : Option Addr) (fl : Value) (s : Shared) : Prop :=
  ∃ t, Rec s.heap e cls od (some t) fl ∧ ∀ b ∈ [e, t], Mine X pins H b
structure Body (X : Cx) : Prop where
  stk : X.stack = X.env :: X.outer
  fr : X.env.frame = some X.env.locals
  ex : X.ex = []
theorem HOk.there {P : Program} {w : World} {H : Hp} {h : Heap} {a : Addr} {o : HO} (k : HOk P w H h) (z : H a = some o) : ∃ ob, h.get? a = some ob := by
  have x := k a o z
  cases o with
  | lst xs => obtain ⟨_, _, _, _, e⟩ := x; exact ⟨_, e⟩
  | tup xs => obtain ⟨_, _, _, ob, e, _⟩ := x; exact ⟨ob, e⟩
  | dK kvs => obtain ⟨_, _, _, _, ob, _, _, e, _⟩ := x; exact ⟨ob, e⟩
  | dT kvs => obtain ⟨_, _, _, _, ob, _, _, e, _⟩ := x; exact ⟨ob, e⟩
  | set S n => obtain ⟨ob, _, _, _, e, _⟩ := x; exact ⟨ob, e⟩
  | ins C dx fs => obtain ⟨_, _, _, e, _⟩ := x; exact ⟨_, e⟩
  | own y => exact x
  | xd fs => obtain ⟨_, ⟨ob, _, _, e, _⟩, _⟩ := x; exact ⟨ob, e⟩
  | rng lo hi => obtain ⟨_, _, _, e⟩ := x; exact ⟨_, e⟩
  | frz ob u => obtain ⟨e, _⟩ := x; exact ⟨ob, e⟩
  | tbl ps => exact ⟨_, (show h.get? a = some _ from x)⟩
  | met f y => exact ⟨_, (show h.get? a = some _ from x)⟩
  | ext φ => obtain ⟨_, e, _⟩ := x; exact e
section
variable {X : Cx} {pins : List (Addr × Obj)} {σ : St} {H : Hp} {s : Shared} {e : Addr} {cls : Value} {od : Option Addr}
theorem Inv.mine {b : Addr} (B : Body X) (I : Inv X pins σ H s) (hb : s.heap.get? b = none) : Mine X pins H b where
  un := by
    cases z : H b with
    | none => rfl
    | some o =>
      obtain ⟨ob, y⟩ := I.hok.there z
      rw [hb] at y; cases y
  new := by
    cases z : X.s₀.heap.get? b with
    | none => rfl
    | some o =>
      obtain ⟨ob, y⟩ := I.base.there b o z (by rw [B.ex]; simp)
      rw [hb] at y; cases y
  loc := fun z => by
    obtain ⟨m, ⟨o, _, _, y, _⟩, _⟩ := I.loc
    rw [← z, hb] at y; cases y
  cel := fun x c y z => by
    obtain ⟨v, o, ho, _⟩ := I.cell x c y
    rw [z, hb] at ho; cases ho
  pin := fun p hp z => by
    have y := (I.pin p hp).1
    rw [z, hb] at y; cases y
theorem Inv.kept2 {xs : List Addr} {h' : Heap} (I : Inv X pins σ H s) (k : Keep (frs X.stack) xs s.heap h') (hx : ∀ b ∈ xs, Mine X pins H b) : Inv X pins σ H { s with heap := h' } := by
  have tr : ∀ c w, H c = some w → c ∉ frs X.stack ∧ c ∉ xs := fun c w z => ⟨fun y => (by rw [I.stkFree c y] at z; cases z), fun y => (by rw [(hx c y).un] at z; cases z)⟩
  have sub : ∀ b ∈ X.fs, b ∈ frs X.stack := fun b hb => by
    rcases I.ok.stk with z | ⟨z, _⟩
    · rw [z]; exact hb
    · rw [z]
      unfold frs
      rw [List.filterMap_cons]
      split
      · exact hb
      · exact List.mem_cons_of_mem _ hb
  have nf : ∀ b, b ∈ frs X.stack → b ∉ X.fs → b = X.env.locals := fun b hb hn => by
    rcases List.mem_cons.mp (I.stkSub b hb) with z | z
    · exact z
    · exact absurd z hn
  refine ⟨I.ok, I.os, I.bare, ⟨fun b o z n hb he => ?_, fun b o z n hb he => ?_, I.base.free, fun b o z he => ?_, I.base.tups, I.base.frzs, I.base.tbls⟩, ?_, fun x c z => ?_, I.free, I.freeC, fun p hp => ?_, fun b u z => ?_, I.len⟩
  · have y := I.base.keep b o z n hb he
    have nx : b ∉ xs := fun q => by rw [(hx b q).new] at z; cases z
    refine k.keep b o y (fun q => ?_) nx
    have := nf b q hb
    exact absurd (Nat.lt_of_lt_of_le (Heap.lt_size z) I.ok.above) (by rw [this]; exact Nat.lt_irrefl _)
  · obtain ⟨sl, y⟩ := I.base.slot b o z n hb he
    have nx : b ∉ xs := fun q => by rw [(hx b q).new] at z; cases z
    obtain ⟨sl', y'⟩ := k.any y nx
    exact ⟨sl', y'⟩
  · obtain ⟨o', y⟩ := I.base.there b o z he
    exact k.there b o' y
  · obtain ⟨m, ⟨o, es, ep, ho, r⟩, hl⟩ := I.loc
    obtain ⟨sl, y⟩ := k.any ho fun q => (hx _ q).loc rfl
    refine ⟨m, ⟨_, es, ep, y, r⟩, fun i x v e1 e2 e3 => ?_⟩
    obtain ⟨u, ru, l⟩ := hl i x v e1 e2 e3
    refine ⟨u, ru, ?_⟩
    rcases l with l | ⟨kd, c, e, oc, hoc, hd⟩
    · exact .inl l
    · obtain ⟨sl, y⟩ := k.any hoc fun q => (hx _ q).cel x c e rfl
      exact .inr ⟨kd, c, e, _, y, hd⟩
  · obtain ⟨v, o, ho, hd⟩ := I.cell x c z
    obtain ⟨sl, y⟩ := k.any ho fun q => (hx _ q).cel x c z rfl
    exact ⟨v, _, y, hd⟩
  · obtain ⟨e, n, ne, nfs, d⟩ := I.pin p hp
    exact ⟨k.keep p.1 p.2 e (fun q => ne (nf _ q nfs)) fun q => (hx _ q).pin p hp rfl, n, ne, nfs, d⟩
  · refine (I.hok b u z).stay (fun c v hc q => ?_) (fun _ q => q) fun _ _ q => q
    have t : ∃ w, H c = some w := by
      rcases hc with y | y
      · exact ⟨u, by rw [y]; exact z⟩
      · exact ⟨_, y⟩
    obtain ⟨w, t⟩ := t
    exact k.keep c v q (tr c w t).1 (tr c w t).2
theorem Inv.note {A : Around} {E : Value → Shared → Prop} {Q : Unit → Shared → Prop} (B : Body X) (fr : A.frames = some X.stack) (I : Inv X pins σ H s) (F : Fly X pins H e cls od s)
    (k : ∀ s', Inv X pins σ H s' → Held X pins H e cls od (rawInt X.env.locals) s' → Q () s') : wpAny (model X.prog X.w) A (noteFrame (.ref e) X.env) Q E s := by
  obtain ⟨T, fl, R, hfl, hm⟩ := F
  have st := I.stack
  rw [B.stk] at st fr
  refine note_rec fr st B.fr R ?_ fun h' t R' ht kp => ?_
  · rcases hfl with z | z | ⟨L, z1, z2⟩
    · exact .inl z
    · exact .inr (.inl z)
    · rw [B.fr] at z1
      cases z1
      exact .inr (.inr z2)
  · refine k _ (I.kept2 (by rw [B.stk]; exact kp) hm) ⟨t, R', fun b hb => ?_⟩
    rcases List.mem_cons.mp hb with z | z
    · rw [z]; exact hm e (by simp)
    · have z' : b = t := by simpa using z
      rcases ht with y | y
      · rw [z']; exact hm t (by rw [y]; simp)
      · exact I.mine B (by rw [z', y]; exact Heap.get?_none_of_le (Nat.le_refl _))
theorem Inv.flight {A : Around} {E : Value → Shared → Prop} {Q : Unit → Shared → Prop} {fl : Value} {f : Option Addr} (I : Inv X pins σ H s) (F : Held X pins H e cls od fl s)
    (k : ∀ s', Inv X pins σ H s' → Held X pins H e cls od (f.elim .none fun a => rawInt a) s' → Q () s') : wpAny (model X.prog X.w) A (setFlight (.ref e) f) Q E s := by
  obtain ⟨t, R, hm⟩ := F
  refine flight_rec R fun h' R' kp => k _ (I.kept2 (kp.mono (fun _ z => absurd z (by simp)) fun b z => z) fun b hb => ?_) ⟨t, R', hm⟩
  have z : b = t := by simpa using hb
  rw [z]; exact hm t (by simp)
theorem Mine.less {b : Addr} (m : Mine X pins H b) : Mine X [] H b := ⟨m.un, m.new, m.loc, m.cel, fun p hp => m.pin p (by rw [List.append_nil] at hp; exact List.mem_append_left _ hp)⟩
theorem Fly.less (F : Fly X pins H e cls od s) : Fly X [] H e cls od s := by
  obtain ⟨T, fl, R, hf, hm⟩ := F
  exact ⟨T, fl, R, hf, fun b hb => (hm b hb).less⟩
theorem Inv.nopins (I : Inv X pins σ H s) : Inv X [] σ H s := I.pins_of fun _ z => absurd z (by simp)
end
def Wish (X : Cx) (W : St → XK) (ev : Value) (s : Shared) : Prop := ∃ σ H e cls od, ev = .ref e ∧ Inv X [] σ H s ∧ Fly X [] H e cls od s ∧ W σ cls od H
abbrev Cx.wants (X : Cx) (W : St → XK) : Cx := X.wish (Wish X W)
def CX1 (P : Program) (w : World) : CXT := fun outer H s E ev s' => ∃ e cls od H' t, ev = .ref e ∧ s'.os = s.os ∧ AllBare s'.gens ∧ Un (frs outer) [] H H' s.heap s'.heap ∧ HOk P w H' s'.heap ∧
  Rec s'.heap e cls od (some t) .none ∧ (∀ b ∈ [e, t], H' b = none ∧ s.heap.get? b = none) ∧ E cls od H'
theorem pass1 {X : Cx} {P : Program} {w : World} : Passes (CX1 P w) X E0 := by
  rintro _ _ _ _ _ _ _ ⟨_, _, _, _, _, _, _, _, _, _, _, _, z⟩
  exact z.elim
section
variable {X : Cx} {pins : List (Addr × Obj)} {σ : St} {H : Hp} {s s' : Shared} {E : XK} {ev : Value}
theorem Inv.flew (B : Body X) (I : Inv X pins σ H s) (h : CX1 X.prog X.w X.stack H s E ev s') : ∃ e cls od H', ev = .ref e ∧ Inv X pins σ H' s' ∧ Fly X pins H' e cls od s' ∧ E cls od H' := by
  obtain ⟨e, cls, od, H', t, rfl, os, bare, un, hok, R, hm, q⟩ := h
  have I' : Inv X pins σ H' s' := I.call' (ch := []) os un hok bare fun _ z => absurd z (by simp)
  refine ⟨e, cls, od, H', rfl, I', ⟨some t, .none, R, .inr (.inl rfl), fun b hb => ?_⟩, q⟩
  obtain ⟨m1, m2⟩ := hm b hb
  have q := I.mine B m2
  exact ⟨m1, q.new, q.loc, q.cel, q.pin⟩
end
theorem leaves {P : Program} {w : World} {K : PySem.W.Frag} {mg : Str → Option Value} {base : Heap} {N : List Str} {qual : Str} {sc : Scope} {f : Addr} {cd : Value} {A : Around} {outer : List Env} {s : Shared} {H : Hp} {E : XK} {ev : Value} {s1 : Shared}
    (h : Wish (cxOf (CX1 P w) P w K mg base N qual sc f cd A outer s H E) (fun _ => E) ev s1) : (cxOf (CX1 P w) P w K mg base N qual sc f cd A outer s H E).xe ev s1 := by
  obtain ⟨σ, H1, e, cls, od, rfl, I, F, q⟩ := h
  show wpAny _ _ (leaving _ _) _ _ _
  unfold leaving
  have B : Body (cxOf (CX1 P w) P w K mg base N qual sc f cd A outer s H E) := ⟨rfl, rfl, rfl⟩
  refine wpAny_bind (I.note B I.ok.frames F fun s2 I2 F2 => I2.flight F2 fun s3 I3 F3 => ?_)
  obtain ⟨t, R, hm⟩ := F3
  exact ⟨e, cls, od, H1, t, rfl, I3.os, I3.bare, I3.base, I3.hok, R, fun b hb => ⟨(hm b hb).un, (hm b hb).new⟩, q⟩
theorem Fun.okX {P : Program} {w : World} {K : PySem.W.Frag} {mg : Str → Option Value} {base : Heap} {x qual : Str} {st : Stmt} {f : Addr} {fd : FuncData} {N ps : List Str} {k : Nat} {sp : Sp} (F : Fun K x qual st f fd) (S : FnScope N ps (defScope st)) (len : ∀ vs H Q E, sp vs H Q E → vs.length = ps.length)
    (hbody : ∀ (cdv : Value) (A : Around) (outer : List Env) (s : Shared) (H : Hp) (vs : List V) (Q : VK) (E : XK), Room k (A.deeper (envOfC qual (defScope st) s.heap.objs.size f cdv)) → sp vs H Q E →
      ∃ t, PSs ((cxOf (CX1 P w) P w K mg base N qual (defScope st) f cdv A outer s H E).wants fun _ => E) (defBody st) t ∧ t { nx := fun _ H' => Q .non H', rt := Q } (start N vs) H) : FnOk P w K mg base (CX1 P w) (k + 1) f fd ps sp := by
  obtain ⟨oc, od, kV, doc, pm, an, cdv, ct, osl, rfl, lk, hcd⟩ := F.ex
  refine fn_of lk hcd S len fun A outer s H vs Q E hr hsp => ?_
  obtain ⟨t, h, q⟩ := hbody cdv A outer s H vs Q E hr hsp
  refine ⟨t, fun pins s1 σ H1 D I hw => ?_, q⟩
  exact wpAny_mono (h pins s1 σ H1 D (I.wish _) hw) (fun _ _ z => z.unwish) fun ev s2 z => leaves z
def tCallW (sp : Sp) (dvs : List V) (W : St → XK) (t : TA) : TE := fun σ H Q => t σ H fun vs H1 => sp (vs ++ dvs) H1 Q (W σ)
section
variable {X : Cx} {W : St → XK} {k : Nat} {f : Addr} {fd : FuncData} {ps : List Str} {sp : Sp} {dvs : List V} {ds : List Value} {x : Str} {p pos : Pos} {e : Expr} {es : List Expr} {t : TA}
theorem run_fnW {pins : List (Addr × Obj)} {σ : St} {H : Hp} {s : Shared} {Q : VK} {us : List Value} {vs : List V} (B : Body X) (F : FnOk X.prog X.w X.K X.mg X.base (CX1 X.prog X.w) k f fd ps sp) (hr : Room k X.A) (hb : Binds X.K fd ps ds) (hd : Vals dvs ds)
    (I : Inv (X.wants W) pins σ H s) (r : Vals vs us) (h : sp (vs ++ dvs) H Q (W σ)) : wpAny (model X.prog X.w) X.A (call (.ref f) us) (EP (X.wants W) pins σ Q) (Wish X W) s := by
  have r2 : Vals (vs ++ dvs) (us ++ ds) := r.append hd
  have hl : (us ++ ds).length = ps.length := by rw [← r2.length]; exact F.len _ _ _ _ h
  refine wpAny_call (codeAny_mono (F.run X.A X.stack s H ⟨us, []⟩ (us ++ ds) (vs ++ dvs) Q (W σ) hr I.unwish.env0 (hb s us I.kIn hl) r2 h) fun r s' hq => ?_)
  cases r with
  | error ev =>
    obtain ⟨e, cls, od, H', rfl, I', F', q⟩ := I.unwish.flew B hq
    exact ⟨σ, H', e, cls, od, rfl, I'.nopins, F'.less, q⟩
  | ok fl =>
    cases fl with
    | ret u => exact I.after hq
    | next => exact False.elim hq
    | brk => exact False.elim hq
    | cont => exact False.elim hq
theorem pe_callW (B : Body X) (F : FnOk X.prog X.w X.K X.mg X.base (CX1 X.prog X.w) k f fd ps sp) (hr : Room k X.A) (hg : Gl X x) (hm : X.mg x = some (.ref f)) (hk : PySem.W.keepIn X.K (.ref f) = true) (hb : Binds X.K fd ps ds) (hd : Vals dvs ds)
    (ha : PA (X.wants W) (e :: es) t) (hdb : (x == ("__debug__" : Str)) = false := by decide) (he : starEach (e :: es) X.env = (false, eval e X.env) :: starEach es X.env := by rfl) (hpl : (backTo pos (starEach es X.env)).any (·.1) = false := by rfl) :
    PE (X.wants W) (.Call (.Name x p) (e :: es) [] pos) (tCallW sp dvs W t) := by
  intro pins s σ H Q I h
  refine wpAny_Call_Name_kw (ld_glob I hg hm ?_ hdb)
  refine PySem.W.callWith_K (h₀ := X.base) I.ok.mod.kin hk (thn (ha pos pins s σ H _ I h) fun us s1 ⟨vs, H1, I1, r, q⟩ => ⟨I1.kIn, ?_⟩) he hpl
  exact run_fnW B F hr hb hd I1 r q
end
end L2
namespace L2
open PySem PySem.Spec PyProof.Rows
abbrev veMro : List Value := [.type "ValueError", .type "Exception", .type "BaseException", .type "object"]
abbrev XCls (K : PySem.W.Frag) (C : Addr) : Prop := PySem.W.excIn K C veMro "ValueError.__new__" = true
theorem own_obj {K : PySem.W.Frag} {h : Heap} {C : Addr} (X : K.In h) (q : XCls K C) : ∃ bm N nm qn bs hd sn sub ab col dd k0 k1 k2 k3 k5 mN,
    h.get? C = some (excClassObj nm qn C N bs bm hd sn sub ab col dd k0 k1 k2 k3 k5 "ValueError.__new__") ∧ h.Ns N mN ∧ mN "__init__" = none ∧ OwnTail h veMro bm := by
  unfold XCls PySem.W.excIn at q
  split at q
  · rename_i d1 c1 s1 look
    split at q
    · rename_i C1 bm j0 j1 j2 j3 n1 j5 e1 e2
      simp only [Bool.and_eq_true, beq_iff_eq, Bool.not_eq_true'] at q
      obtain ⟨⟨⟨⟨⟨r1, r2⟩, r3⟩, r4⟩, r5⟩, r6⟩ := q
      subst r1 r2
      obtain ⟨nm, bs, mro, ns, qn, hd, sn, sub, ab, col, del⟩ := c1
      dsimp only at e1 r3 r5 r6
      subst e1 r3
      have es : s1 = #[j0, j1, j2, j3, some (.builtin "ValueError.__new__"), j5] := Array.toList_inj.mp (by rw [e2])
      subst es
      exact ⟨bm, ns, nm, qn, bs, hd, sn, sub, ab, col, d1, j0, j1, j2, j3, j5, _, X _ _ look, .of_isNs (PySem.W.isNs_of_in X r5), PySem.W.nsMap_none_of_in X r5 r6, PySem.W.tail_of_in X r4⟩
    · exact absurd q Bool.false_ne_true
  · exact absurd q Bool.false_ne_true
def tRaise (C : Addr) (W : St → XK) (t : TA) : TS := fun _ σ H => t σ H fun vs H1 => vs.length ≤ sizeLine ∧ W σ (.ref C) none H1
section
variable {X : Cx} {W : St → XK} {C : Addr} {x : Str} {p cpos pos : Pos} {e : Expr} {es : List Expr} {t : TA}
theorem Inv.raised {pins : List (Addr × Obj)} {σ : St} {H : Hp} {s : Shared} {h' : Heap} {a : Addr} {us : List Value} (B : Body X) (I : Inv X pins σ H s) (m : Heap.MadeExcOf s.heap h' a (.ref C) us) (w : W σ (.ref C) none H) :
    Wish X W (.ref a) { s with heap := h' } := by
  obtain ⟨t, m1, _, _⟩ := m.there
  refine ⟨σ, H, a, .ref C, none, rfl, (I.kept m.keeps).nopins, ⟨none, .none, ⟨_, _, m1, rfl, rfl, rfl, rfl⟩, .inl rfl, fun b hb => ?_⟩, w⟩
  have z : b = a := by simpa using hb
  have q := I.nopins.mine B m.new
  rw [z]
  exact q
theorem ps_raise (B : Body X) (hc : X.calm = true) (hg : Gl X x) (hm : X.mg x = some (.ref C)) (q : XCls X.K C) (ha : PA (X.wants W) (e :: es) t) (hdb : (x == ("__debug__" : Str)) = false := by decide)
    (he : starEach (e :: es) X.env = (false, eval e X.env) :: starEach es X.env := by rfl) (hpl : (backTo cpos (starEach es X.env)).any (·.1) = false := by rfl) :
    PS (X.wants W) (.Raise (some (.Call (.Name x p) (e :: es) [] cpos)) none pos) (tRaise C W t) := by
  intro pins s σ H D I h
  obtain ⟨bm, N, nm, qn, bs, hd, sn, sub, ab, col, dd, k0, k1, k2, k3, k5, mN, hC, hN, hni, TL⟩ := own_obj I.ok.mod.kin q
  refine wpAny_Raise_call_subT (C := C) (nm := nm) (q := qn) (N := N) (bs := bs) (bm := bm) (hdct := hd) (sn := sn) (sub := sub) (ab := ab) (col := col) (dd := dd) (k0 := k0) (k1 := k1) (k2 := k2) (k3 := k3) (k5 := k5) (mN := mN)
    PySem.F.excBase_ValueError (TL.hasType PySem.F.excBase_ValueError.hasBase) (I.ok.hd hc) (by show (backTo cpos (starEach (e :: es) X.env)).any (·.1) = false; rw [he]; show (false || (backTo cpos (starEach es X.env)).any (·.1)) = false; rw [hpl]; rfl) hni (ld_glob I hg hm ⟨rfl, ?_⟩ hdb)
  have hA := ha cpos pins s σ H _ I h
  rw [he] at hA ⊢
  refine Calls.evalArgs_plain (thn hA fun us s1 ⟨vs, H1, I1, r, lv, w⟩ => ?_)
  refine ⟨rfl, ?_, I1.bk _ _ hC, hN.keeps I1.bk, TL.keeps I1.bk, fun h' a m => I1.unwish.raised B m w⟩
  show us.length ≤ sizeLine
  rw [← r.length]; exact lv
end
def ExcO (e : Addr) (cls : Value) (od : Option Addr) : Heap → Prop := fun h => ∃ oe vs, h.get? e = some oe ∧ oe.cls = cls ∧ oe.dict = od ∧ oe.data = .fields vs
abbrev hoX (e : Addr) (cls : Value) (od : Option Addr) : HO := .ext (ExcO e cls od)
theorem ExcO.ok {P : Program} {w : World} {H : Hp} {h : Heap} {e : Addr} {cls : Value} {od : Option Addr} (x : ExcO e cls od h) : ObjOk P w H h e (hoX e cls od) := by
  refine ⟨x, ?_, fun h1 h2 y k => ?_⟩
  · obtain ⟨oe, _, z, _⟩ := x; exact ⟨oe, z⟩
  · obtain ⟨oe, vs, z, r⟩ := y; exact ⟨oe, vs, k _ z, r⟩
section
variable {X : Cx} {pins : List (Addr × Obj)} {σ : St} {H : Hp} {s : Shared} {e : Addr} {cls : Value} {od : Option Addr}
theorem Inv.track {o : HO} (I : Inv X pins σ H s) (m : Mine X pins H e) (ok : ObjOk X.prog X.w (upd H e o) s.heap e o) : Inv X pins σ (upd H e o) s := by
  have nt : ∀ b u, H b = some u → b ≠ e := fun b u z => ne_of_none z m.un
  refine ⟨I.ok, I.os, I.bare, ⟨I.base.keep, I.base.slot, fun b ob z n hx => ?_, I.base.there, fun b xs z => ?_, fun b ob u z => ?_, fun b ps z => ?_⟩, I.loc, I.cell, ?_, fun x c z => ?_, fun p hp => ?_, fun b u z => ?_, I.len⟩
  · rw [upd_ne fun y => by rw [y, m.new] at z; cases z]
    exact I.base.free b ob z n hx
  · have y := I.base.tups b xs z
    rw [upd_ne (nt b _ y)]; exact y
  · have y := I.base.frzs b ob u z
    rw [upd_ne (nt b _ y)]; exact y
  · obtain ⟨more, y⟩ := I.base.tbls b ps z
    exact ⟨more, by rw [upd_ne (nt b _ y)]; exact y⟩
  · rw [upd_ne (Ne.symm m.loc)]; exact I.free
  · rw [upd_ne (m.cel x c z)]; exact I.freeC x c z
  · obtain ⟨z, n, r⟩ := I.pin p hp
    exact ⟨z, by rw [upd_ne (m.pin p hp)]; exact n, r⟩
  · by_cases hb : b = e
    · subst hb; rw [upd_same] at z; cases z; exact ok
    · rw [upd_ne hb] at z
      exact (I.hok b u z).stay (fun c v _ y => y) (fun c y => by rw [upd_ne (nt c _ y)]; exact y) fun c xs y => by rw [upd_ne (nt c _ y)]; exact y
end
abbrev Cx.suite (X : Cx) (e : Addr) : Cx := { X with A := X.A.mark (some (.ref e)), calm := false, xe := fun _ _ => False }
theorem Inv.suite {X : Cx} {pins : List (Addr × Obj)} {σ : St} {H : Hp} {s : Shared} (I : Inv X pins σ H s) (e : Addr) : Inv (X.suite e) pins σ H s :=
  ⟨⟨I.ok.mod, I.ok.kind, I.ok.glob, I.ok.blt, I.ok.above, I.ok.inj, I.ok.has, I.ok.cab, (fun z => absurd (show false = true from z) Bool.false_ne_true), I.ok.frames, I.ok.stk, I.ok.exf, I.ok.bs, I.ok.bsz, I.ok.noex, I.ok.exfs, I.ok.funs, I.ok.frf⟩, I.os, I.bare, I.base, I.loc, I.cell, I.free, I.freeC, I.pin, I.hok, I.len⟩
theorem Inv.unsuite {X : Cx} {pins : List (Addr × Obj)} {σ : St} {H : Hp} {s : Shared} {e : Addr} (ok : X.Ok) (I : Inv (X.suite e) pins σ H s) : Inv X pins σ H s :=
  ⟨ok, I.os, I.bare, I.base, I.loc, I.cell, I.free, I.freeC, I.pin, I.hok, I.len⟩
abbrev Cx.pin (X : Cx) (pins : List (Addr × Obj)) : Cx := { X with pn := X.pn ++ pins }
theorem Cx.Ok.pin {X : Cx} (ok : X.Ok) (pins : List (Addr × Obj)) : (X.pin pins).Ok :=
  ⟨ok.mod, ok.kind, ok.glob, ok.blt, ok.above, ok.inj, ok.has, ok.cab, ok.hd, ok.frames, ok.stk, ok.exf, ok.bs, ok.bsz, ok.noex, ok.exfs, ok.funs, ok.frf⟩
theorem Inv.pnd {X : Cx} {pins : List (Addr × Obj)} {σ : St} {H : Hp} {s : Shared} (I : Inv X pins σ H s) : Inv (X.pin pins) [] σ H s :=
  ⟨I.ok.pin pins, I.os, I.bare, I.base, I.loc, I.cell, I.free, I.freeC, fun p hp => I.pin p (by rw [List.append_nil] at hp; exact hp), I.hok, I.len⟩
theorem Inv.unpnd {X : Cx} {pins : List (Addr × Obj)} {σ : St} {H : Hp} {s : Shared} (ok : X.Ok) (I : Inv (X.pin pins) [] σ H s) : Inv X pins σ H s :=
  ⟨ok, I.os, I.bare, I.base, I.loc, I.cell, I.free, I.freeC, fun p hp => I.pin p (by rw [List.append_nil]; exact hp), I.hok, I.len⟩
theorem Fly.unpinned {X : Cx} {pins : List (Addr × Obj)} {H : Hp} {s : Shared} {e : Addr} {cls : Value} {od : Option Addr} (F : Fly (X.pin pins) [] H e cls od s) : Fly X pins H e cls od s := by
  obtain ⟨T, fl, R, hf, hm⟩ := F
  exact ⟨T, fl, R, hf, fun b hb => let m := hm b hb; ⟨m.un, m.new, m.loc, m.cel, fun p hp => m.pin p (by rw [List.append_nil]; exact hp)⟩⟩
abbrev TH := Value → Option Addr → TS
def PH (X : Cx) (hs : List ExceptHandler) (th : TH) : Prop := ∀ (pins : List (Addr × Obj)) (s : Shared) (σ : St) (H : Hp) (D : Ends) (e : Addr) (cls : Value) (od : Option Addr), Inv X pins σ H s → Held X pins H e cls od .none s → th cls od D σ H →
  wpAny (model X.prog X.w) X.A (handleBy (.ref e) X.env hs) (SP X pins D) X.xe s
def tTry (tb : (St → XK) → TS) (th : TH) : TS := fun D σ H => tb (fun σ' cls od H' => th cls od D σ' H') D σ H
theorem ps_try {X : Cx} {body : List Stmt} {h₀ : ExceptHandler} {hs : List ExceptHandler} {pos : Pos} {tb : (St → XK) → TS} {th : TH} (B : Body X) (hb : ∀ pins W, PSs ((X.pin pins).wants W) body (tb W)) (hh : PH X (h₀ :: hs) th) :
    PS X (.Try body (h₀ :: hs) [] [] pos) (tTry tb th) := by
  intro pins s σ H D I h
  have un : ∀ f s', SP ((X.pin pins).wants fun σ' cls od H' => th cls od D σ' H') [] D f s' → SP X pins D f s' := fun f s' z => by
    have z := z.unwish
    cases f with
    | next => obtain ⟨σ', H', J, q⟩ := z; exact ⟨σ', H', J.unpnd I.ok, q⟩
    | brk => obtain ⟨σ', H', J, q⟩ := z; exact ⟨σ', H', J.unpnd I.ok, q⟩
    | cont => obtain ⟨σ', H', J, q⟩ := z; exact ⟨σ', H', J.unpnd I.ok, q⟩
    | ret u => obtain ⟨v, σ', H', J, r, q⟩ := z; exact ⟨v, σ', H', J.unpnd I.ok, r, q⟩
  refine wpAny_Try_except (wpAny_mono (hb pins (fun σ' cls od H' => th cls od D σ' H') [] s σ H D (I.pnd.wish _) h) (fun f s1 z => ?_) fun ev s1 z => ?_)
  · cases f with
    | next => exact wpAny_execs_nil (un .next s1 z)
    | brk => exact un _ s1 z
    | cont => exact un _ s1 z
    | ret u => exact un _ s1 z
  · obtain ⟨σ1, H1, e, cls, od, rfl, J, F, q⟩ := z
    have J' := J.unpnd I.ok
    refine J'.note B J'.ok.frames F.unpinned fun s2 I2 F2 => I2.flight F2 fun s3 I3 F3 => ?_
    exact hh pins s3 σ1 H1 D e cls od I3 F3 q
structure HCls (K : PySem.W.Frag) (C : Addr) : Prop where
  ty : PySem.W.typeIn K (.ref C) = some (.type "type")
  ex : PySem.W.mroIn K C (.type "BaseException") = some true
theorem HCls.isTy {K : PySem.W.Frag} {C : Addr} (c : HCls K C) {M : Model} {h : Heap} (X : K.In h) : PySem.W.Looks M h (isType (.ref C)) true := by
  obtain ⟨cd, h1, _⟩ := Option.bind_eq_some_iff.mp c.ex
  unfold PySem.W.clsIn at h1
  split at h1
  · rename_i look
    intro A Q E s k q
    unfold isType loadHead
    exact wpAny_bind (wpAny_loadPart (k _ _ (X _ _ look)) (wpAny_pure q))
  · cases h1
theorem exc_match {K : PySem.W.Frag} {M : Model} {A : Around} {E : Value → Shared → Prop} {s : Shared} {e C : Addr} {cls : Value} {b : Bool} {Q : Bool → Shared → Prop} (X : K.In s.heap) (c : HCls K C) (he : ∃ oe, s.heap.get? e = some oe ∧ oe.cls = cls)
    (hs : PySem.W.subIn K cls (.ref C) = some b) (h : Q b s) : wpAny M A (excMatches (.ref e) (.ref C)) Q E s := by
  obtain ⟨oe, e1, e2⟩ := he
  have L2 : PySem.W.Looks M s.heap (isExcClass (.ref C)) true := by
    unfold isExcClass
    refine (c.isTy X).andThen ?_
    simp only [if_true]
    exact PySem.W.looks_mroIn X c.ex
  have L3 : PySem.W.Looks M s.heap (typeOf (.ref e)) cls := e2 ▸ (PySem.W.Looks.ld e1).andThen .now
  have L4 : PySem.W.Looks M s.heap (isSubtype cls (.ref C)) b := PySem.W.looks_subIn X hs
  have LT : PySem.W.Looks M s.heap (isInstance (.ref C) (.type "tuple")) false := (PySem.W.looks_typeIn X c.ty).andThen (PySem.W.Looks.of_pure tc_notTuple)
  obtain ⟨hp, g, d, tk, os⟩ := s
  unfold excMatches
  refine wpAny_bind (LT.at ?_)
  simp only [Bool.false_eq_true, if_false]
  refine wpAny_bind (wpAny_pure ?_)
  simp only [List.forIn_cons, List.forIn_nil]
  refine wpAny_bind (wpAny_bind (wpAny_bind (L2.at ?_)))
  simp only [Bool.not_true, Bool.false_eq_true, if_false]
  refine wpAny_pure (wpAny_pure (wpAny_bind (L3.at (wpAny_bind (wpAny_bind (wpAny_bind (L4.at ?_)))))))
  cases b with
  | true => simp only [if_true]; exact wpAny_pure (wpAny_pure (wpAny_pure h))
  | false => simp only [Bool.false_eq_true, if_false]; exact wpAny_pure (wpAny_pure (wpAny_pure h))
def ends (D : Ends) (i : Nat) : Ends := { nx := fun σ H => D.nx (σ.set i none) H, rt := D.rt, bk := fun σ H => D.bk (σ.set i none) H, ct := fun σ H => D.ct (σ.set i none) H }
def thAs (K : PySem.W.Frag) (C : Addr) (i : Nat) (ts : TS) (tr : TH) : TH := fun cls od D σ H => ∃ b, PySem.W.subIn K cls (.ref C) = some b ∧
  if b = true then ∀ e, H e = none → ts (ends D i) (σ.set i (some (.ref e))) (upd H e (hoX e cls od)) else tr cls od D σ H
def thC (K : PySem.W.Frag) (C : Addr) (ts : TS) (tr : TH) : TH := fun cls od D σ H => ∃ b, PySem.W.subIn K cls (.ref C) = some b ∧
  if b = true then ∀ e, H e = none → ts D σ (upd H e (hoX e cls od)) else tr cls od D σ H
section
variable {X : Cx} {pins : List (Addr × Obj)} {σ : St} {H : Hp} {s : Shared} {e C : Addr} {cls : Value} {od : Option Addr} {x n : Str} {i : Nat} {np pos : Pos} {b₀ : Stmt} {suite : List Stmt} {rest : List ExceptHandler} {ts : TS} {tr : TH}
theorem Inv.forget {h' : Heap} {v : Option Value} {m : Str → Option Value} {tk : Nat} (I : Inv X pins σ H s) (hN : X.N.Nodup) (hi : X.N[i]? = some n) (hn : s.heap.Ns X.env.locals m) (hl : ∀ (j : Nat) (y : Str) (v : V), X.N[j]? = some y → σ[j]? = some (some v) → Vis X.env.scope y → ∃ u, RelV v u ∧ Look X.env s.heap m y u)
    (hn' : h'.Ns X.env.locals (fun y => if y = n then v else m y)) (hs : Heap.SameBut X.env.locals s.heap h') : Inv X pins (σ.set i none) H { s with heap := h', toks := tk } := by
  have iσ : i < σ.length := by rw [I.len]; exact (List.getElem?_eq_some_iff.mp hi).1
  have old : ∀ b o, X.s₀.heap.get? b = some o → b ≠ X.env.locals := fun b o z => Nat.ne_of_lt (Nat.lt_of_lt_of_le (Heap.lt_size z) I.ok.above)
  refine ⟨I.ok, I.os, I.bare, ⟨fun b o z n hb hx => ?_, fun b o z n hb hx => ?_, I.base.free, fun b o z hx => ?_, I.base.tups, I.base.frzs, I.base.tbls⟩, ⟨_, hn', fun j y v' e1 e2 e3 => ?_⟩, fun y c z => ?_, I.free, I.freeC, fun p hp => ?_, fun b u z => ?_, by simpa using I.len⟩
  · exact (hs.2 b (old b o z)).trans (I.base.keep b o z n hb hx)
  · obtain ⟨sl, y⟩ := I.base.slot b o z n hb hx
    exact ⟨sl, (hs.2 b (old b o z)).trans y⟩
  · obtain ⟨o', y⟩ := I.base.there b o z hx
    exact ⟨o', (hs.2 b (old b o z)).trans y⟩
  · by_cases hj : j = i
    · subst hj
      rw [List.getElem?_set_self iσ] at e2
      cases e2
    · rw [List.getElem?_set_ne (Ne.symm hj)] at e2
      obtain ⟨u, r, q⟩ := hl j y v' e1 e2 e3
      refine ⟨u, r, ?_⟩
      rcases q with ⟨k, q⟩ | ⟨k, c, q, z⟩
      · refine .inl ⟨k, ?_⟩
        have : y ≠ n := fun z => hj (nodup_ix hN e1 (z ▸ hi))
        simp [this, q]
      · exact .inr ⟨k, c, q, z.sameBut hs (I.cne y c q)⟩
  · obtain ⟨w, q⟩ := I.cell y c z
    exact ⟨w, q.sameBut hs (I.cne y c z)⟩
  · obtain ⟨z, n, ne, r⟩ := I.pin p hp
    exact ⟨(hs.2 p.1 ne).trans z, n, ne, r⟩
  · refine (I.hok b u z).stay (fun c w hc q => (hs.2 c ?_).trans q) (fun _ q => q) fun _ _ q => q
    rintro rfl
    rcases hc with y | y
    · rw [← y, I.free] at z; cases z
    · rw [I.free] at y; cases y
theorem ph_as (B : Body X) (hc : HCls X.K C) (hg : Gl X x) (hm : X.mg x = some (.ref C)) (nd : X.N.Nodup) (hi : X.N[i]? = some n) (hl : X.env.scope.names.lookup n = some .local) (hs : ∀ e, PSs (X.suite e) (b₀ :: suite) ts) (hr : PH X rest tr)
    (hdb : (x == ("__debug__" : Str)) = false := by decide) : PH X (.ExceptHandler (some (.Name x np)) (some n) (b₀ :: suite) pos :: rest) (thAs X.K C i ts tr) := by
  intro pins s σ H D e cls od I F h
  obtain ⟨b, sb, h⟩ := h
  have I0 : Inv (X.suite e) pins σ H s := I.suite e
  have rec0 : ∃ oe, s.heap.get? e = some oe ∧ oe.cls = cls := by
    obtain ⟨t, ⟨oe, _, z, y, _⟩, _⟩ := F
    exact ⟨oe, z, y⟩
  refine wpAny_handleBy_cons (codeAny_handlers_test (ld_glob (X := X.suite e) I0 hg hm (exc_match I.kIn hc rec0 sb ?_) hdb)) (by intro z; cases z)
  cases b with
  | false => exact hr pins s σ H D e cls od I F h
  | true =>
    have h := h
    rw [if_pos rfl] at h
    refine codeAny_handlers_suite_as ?_
    refine Inv.flight (X := X.suite e) (f := none) I0 (let ⟨t, R, hm⟩ := F; ⟨t, R, fun b hb => let m := hm b hb; ⟨m.un, m.new, m.loc, m.cel, m.pin⟩⟩) fun s1 I1 F1 => ?_
    obtain ⟨t, R, hm1⟩ := F1
    have m := hm1 e (by simp)
    have xo : ExcO e cls od s1.heap := let ⟨oe, vs, r1, r2, r3, r4, _⟩ := R; ⟨oe, vs, r1, r2, r3, r4⟩
    have I2 := I1.track (o := hoX e cls od) m xo.ok
    refine store_ok (X := X.suite e) (v := .ref e) I2 nd hi (.inl hl) rfl (fun s2 I3 => ?_) (.inr hl)
    refine wpAny_mono (hs e pins s2 _ _ (ends D i) I3 (h e m.un)) (fun f s3 z => ?_) fun _ _ z => z.elim
    have fin : ∀ (σ3 : St) (H3 : Hp) (Q : Unit → Shared → Prop), Inv (X.suite e) pins σ3 H3 s3 → (∀ s4, Inv X pins (σ3.set i none) H3 s4 → Q () s4) → wpAny (model X.prog X.w) X.A (do bindName X.env n .none; unbindBehindTheSuite X.env n pos) Q X.xe s3 := fun σ3 H3 Q J k => by
      have J' := J.unsuite I.ok
      obtain ⟨m0, hn, hlk⟩ := id J'.loc
      exact wpAny_nameGoes_keeps hl hn (by rw [I.ok.kind]; rfl) fun h' v hn' hs' => k _ (J'.forget nd hi hn hlk hn' hs')
    cases f with
    | next => obtain ⟨σ3, H3, J, q⟩ := z; exact fin σ3 H3 _ J fun s4 J4 => ⟨_, H3, J4, q⟩
    | brk => obtain ⟨σ3, H3, J, q⟩ := z; exact fin σ3 H3 _ J fun s4 J4 => ⟨_, H3, J4, q⟩
    | cont => obtain ⟨σ3, H3, J, q⟩ := z; exact fin σ3 H3 _ J fun s4 J4 => ⟨_, H3, J4, q⟩
    | ret u => obtain ⟨v, σ3, H3, J, r, q⟩ := z; exact fin σ3 H3 _ J fun s4 J4 => ⟨v, _, H3, J4, r, q⟩
theorem ph_c (B : Body X) (hc : HCls X.K C) (hg : Gl X x) (hm : X.mg x = some (.ref C)) (hs : ∀ e, PSs (X.suite e) (b₀ :: suite) ts) (hr : PH X rest tr)
    (hdb : (x == ("__debug__" : Str)) = false := by decide) : PH X (.ExceptHandler (some (.Name x np)) none (b₀ :: suite) pos :: rest) (thC X.K C ts tr) := by
  intro pins s σ H D e cls od I F h
  obtain ⟨b, sb, h⟩ := h
  have I0 : Inv (X.suite e) pins σ H s := I.suite e
  have rec0 : ∃ oe, s.heap.get? e = some oe ∧ oe.cls = cls := by
    obtain ⟨t, ⟨oe, _, z, y, _⟩, _⟩ := F
    exact ⟨oe, z, y⟩
  refine wpAny_handleBy_cons (codeAny_handlers_test (ld_glob (X := X.suite e) I0 hg hm (exc_match I.kIn hc rec0 sb ?_) hdb)) (by intro z; cases z)
  cases b with
  | false => exact hr pins s σ H D e cls od I F h
  | true =>
    have h := h
    rw [if_pos rfl] at h
    refine codeAny_handlers_suite ?_
    refine Inv.flight (X := X.suite e) (f := none) I0 (let ⟨t, R, hm⟩ := F; ⟨t, R, fun b hb => let m := hm b hb; ⟨m.un, m.new, m.loc, m.cel, m.pin⟩⟩) fun s1 I1 F1 => ?_
    obtain ⟨t, R, hm1⟩ := F1
    have m := hm1 e (by simp)
    have xo : ExcO e cls od s1.heap := let ⟨oe, vs, r1, r2, r3, r4, _⟩ := R; ⟨oe, vs, r1, r2, r3, r4⟩
    have I2 := I1.track (o := hoX e cls od) m xo.ok
    refine wpAny_mono (hs e pins s1 _ _ D I2 (h e m.un)) (fun f s3 z => ?_) fun _ _ z => z.elim
    cases f with
    | next => obtain ⟨σ3, H3, J, q⟩ := z; exact ⟨_, H3, J.unsuite I.ok, q⟩
    | brk => obtain ⟨σ3, H3, J, q⟩ := z; exact ⟨_, H3, J.unsuite I.ok, q⟩
    | cont => obtain ⟨σ3, H3, J, q⟩ := z; exact ⟨_, H3, J.unsuite I.ok, q⟩
    | ret u => obtain ⟨v, σ3, H3, J, r, q⟩ := z; exact ⟨v, _, H3, J.unsuite I.ok, r, q⟩
theorem ph_never : PH X [] fun _ _ _ _ _ => False := fun _ _ _ _ _ _ _ _ _ _ z => z.elim
end
end L2
namespace L2
open PySem PySem.Spec PyProof.Rows
structure XGet (K : PySem.W.Frag) (C : Addr) : Prop where
  ga : PySem.W.findIn K (.ref C) "__getattribute__" = some (some (.builtin "BaseException.__getattribute__"))
  gh : PySem.W.findIn K (.ref C) "__getattr__" = some none
  be : PySem.W.mroIn K C (.type "BaseException") = some true
section
variable {prog : Program} {w : World} {A : Around} {E : Value → Shared → Prop} {s : Shared} {K : PySem.W.Frag} {a C : Addr} {o : Obj} {od : Option Obj} {name : Str} {tk : Tok}
theorem xga_entry {r : Builtin.ObjectAttr.Found} {Q : Fin → Shared → Prop} (X : K.In s.heap) (I : PySem.W.InstAt s.heap a o C od) (hf : PySem.W.findObj K C od name = some r)
    (h : wpAny (model prog w) A (match r with | .value v => ret v | .bind g b => Builtin.ObjectAttr.bindTo g b (.ref a) (.ref C) | .missing => unsupported "no") Q E s) (hr : r ≠ .missing) :
    wpAny (model prog w) A (Builtin.«object.__getattribute__» ⟨[.ref a, .str name tk], []⟩) Q E s := by
  obtain ⟨hh, g, d, t, os⟩ := s
  have L0 := I.type (M := model prog w)
  have L1 := PySem.W.looks_find (M := model prog w) X I hf
  unfold Builtin.«object.__getattribute__»
  refine wpAny_bind (wpAny_pure ?_)
  refine wpAny_bind (wpAny_pure ?_)
  refine wpAny_bind (L0.at (wpAny_bind (L1.at ?_)))
  cases r with
  | value v => exact h
  | bind g b => exact h
  | missing => exact absurd rfl hr
theorem xga_check {M : Model} {v : Value} {Q : Unit → Shared → Prop} (c : XGet K C) (X : K.In s.heap) (I : PySem.W.InstAt s.heap a o C od) (h : Q () s) : wpAny M A (checkBuiltinCall "BaseException.__getattribute__" ⟨[.ref a, v], []⟩) Q E s := by
  obtain ⟨hh, g, d, t, os⟩ := s
  have kd : builtinKind "BaseException.__getattribute__" = some .slot := by decide +kernel
  have sp : splitId "BaseException.__getattribute__" = some ("BaseException", "__getattribute__") := by decide +kernel
  have L0 := I.type (M := M)
  have L1 := PySem.W.looks_mroIn (M := M) X c.be
  have LI : PySem.W.Looks M hh (isInstance (.ref a) (.type "BaseException")) true := L0.andThen L1
  have ha := PySem.F.args_bexc_ga (.ref a) v
  simp only [checkBuiltinCall, kd, sp]
  refine wpAny_bind (LI.at ?_)
  repeat (any_goals (first | assumption | wp_step))
theorem xattr_by {fill ex : Bool} {Q : Value → Shared → Prop} (c : XGet K C) (X : K.In s.heap) (I : PySem.W.InstAt s.heap a o C od)
    (h : wpAny (model prog w) A.in1 (Builtin.«object.__getattribute__» ⟨[.ref a, .str name tk], []⟩) (fun fin s' => match fin with | .done (.ret v) => wpAny (model prog w) A (handedOut v) Q E s' | _ => False) (fun _ _ => False) s) :
    wpAny (model prog w) A (getAttrBy (.ref a) (.str name tk) fill ex) Q E s := by
  have L0 := I.type (M := model prog w)
  have L1 := PySem.W.looks_findIn (M := model prog w) X c.ga
  have L2 := PySem.W.looks_findIn (M := model prog w) X c.gh
  have f3 := PySem.F.attr_ValueError.ga.bind (.ref a)
  have n0 : (Value.builtin "BaseException.__getattribute__" == Value.builtin "object.__getattribute__") = false := by decide +kernel
  have n1 : (onTheHeap (Value.ref C) && Value.builtin "BaseException.__getattribute__" == Value.builtin "object.__getattribute__") = false := by rw [n0, Bool.and_false]
  have n2 : (ex && onTheHeap (Value.builtin "BaseException.__getattribute__")) = false := by cases ex <;> rfl
  have ck := fun (E' : Value → Shared → Prop) (Q' : Unit → Shared → Prop) (z : Q' () s) => xga_check (M := model prog w) (A := A.in1) (E := E') (v := .str name tk) (Q := Q') c X I z
  obtain ⟨hh, g, d, t, os⟩ := s
  unfold getAttrBy
  refine wpAny_holding (wpAny_bind (L0.at (wpAny_bind (L1.at ?_))))
  simp only [n1, Bool.false_eq_true, if_false]
  unfold getAttrByItsOwn hookBefore
  refine wpAny_bind ?_
  rw [if_pos (show onTheHeap (Value.ref C) = true from rfl)]
  refine L2.at ?_
  refine wpAny_bind (wpAny_attempt ?_)
  unfold callGetattribute
  simp only [n2, Bool.false_eq_true, if_false]
  refine wpAny_holding ?_
  unfold boundAndCalled
  refine wpAny_bind (wpAny_of_eq f3 ?_)
  refine wpAny_call (codeAny_call_builtin PySem.F.attr_ValueError.ga.plain PySem.F.entry_bexc_ga (ck _ _ ?_))
  refine wpAny_mono h (fun fin s' z => ?_) fun _ _ z => z.elim
  rcases fin with (_ | _ | _ | _) | _ <;> first | exact z | exact z.elim
theorem xget_class {Q : Option Value → Shared → Prop} (c : XGet K C) (X : K.In s.heap) (I : PySem.W.InstAt s.heap a o C od) (hf : PySem.W.findObj K C od "__class__" = some (.bind (.builtin "getset_descriptor.__get__") (.builtin "object.__class__"))) (hm : PySem.W.mroIn K C (.type "object") = some true)
    (h : Q (some (.ref C)) { s with toks := s.toks + 1 }) : wpAny (model prog w) A (getAttr? (.ref a) "__class__") Q E s := by
  unfold getAttr? getAttrBy?
  refine wpAny_bind (wpAny_mkText (wpAny_bind (wpAny_attempt ?_)))
  refine xattr_by (s := { s with toks := s.toks + 1 }) c X I (xga_entry (s := { s with toks := s.toks + 1 }) X I hf ?_ (by intro z; cases z))
  show wpAny _ _ (holding _ _ >>= ret) _ _ _
  refine wpAny_bind (wpAny_holding (wpAny_call (PySem.W.class_get (s := { s with toks := s.toks + 1 }) X I hm ?_)))
  exact wpAny_pure (PySem.W.handed_on rfl (wpAny_pure h))
end
structure XKit (K : PySem.W.Frag) (C : Addr) : Prop extends XGet K C where
  cl : PySem.W.findIn K (.ref C) "__class__" = some (some (.builtin "object.__class__"))
  gt : PySem.W.specialIn K (.builtin "object.__class__") "__get__" = some (some (.builtin "getset_descriptor.__get__"))
  tk : PySem.W.takesIn K (.builtin "object.__class__") = some true
  ob : PySem.W.mroIn K C (.type "object") = some true
theorem XKit.find {K : PySem.W.Frag} {C : Addr} (c : XKit K C) (od : Option Obj) : PySem.W.findObj K C od "__class__" = some (.bind (.builtin "getset_descriptor.__get__") (.builtin "object.__class__")) := by
  obtain ⟨cd, h1, _⟩ := Option.bind_eq_some_iff.mp c.ob
  unfold PySem.W.findObj
  rw [h1, Option.bind_some, c.cl, Option.bind_some]
  simp only [c.gt, Option.bind_some, c.tk]
theorem ExcO.inst {h : Heap} {e C : Addr} (x : ExcO e (.ref C) none h) : ∃ o, PySem.W.InstAt h e o C none := by
  obtain ⟨o, vs, h1, h2, h3, h4⟩ := x
  refine ⟨o, h1, h2, ?_, ?_⟩
  · unfold PySem.W.notCls; rw [h4]
  · rw [h3]; trivial
theorem ExcO.instD {h : Heap} {e C dx : Addr} {od : Obj} (x : ExcO e (.ref C) (some dx) h) (hd : h.get? dx = some od) : ∃ o, PySem.W.InstAt h e o C (some od) := by
  obtain ⟨o, vs, h1, h2, h3, h4⟩ := x
  refine ⟨o, h1, h2, ?_, ?_⟩
  · unfold PySem.W.notCls; rw [h4]
  · rw [h3]; exact hd
theorem kitx_exc {K : PySem.W.Frag} {e C : Addr} {od : Option Obj} (c : XKit K C) : PySem.W.KitX K (.ref e) (.ref C) (fun h => ∃ o, PySem.W.InstAt h e o C od) := by
  have cd : ∃ c' d' cd sl, K.lookup C = some ⟨c', d', .cls cd, sl⟩ := by
    obtain ⟨cd, h1, _⟩ := Option.bind_eq_some_iff.mp c.ob
    unfold PySem.W.clsIn at h1
    split at h1
    · rename_i look; exact ⟨_, _, _, _, look⟩
    · cases h1
  obtain ⟨c', d', cd, sl, look⟩ := cd
  refine ⟨fun M h X ⟨o, I⟩ => I.type, fun M h X _ => ?_, fun h tp dd its n sl' X z => ?_, fun {_ _ _ _ _ s} X ⟨o, I⟩ q => xget_class c.toXGet X I (c.find od) c.ob q⟩
  · intro A Q E s k q
    unfold isType loadHead
    exact wpAny_bind (wpAny_loadPart (k _ _ (X _ _ look)) (wpAny_pure q))
  · refine Bool.eq_false_iff.mpr fun q => ?_
    obtain rfl : C = tp := Value.ref.inj (beq_iff_eq.mp q)
    cases (X _ _ look).symm.trans z
def XdO (dx : Addr) (fs : List (Str × V)) : Heap → Prop := fun h => ∃ mA, h.Ns1 dx mA ∧ (∀ f, RelO (fs.lookup f) (mA f)) ∧ PySem.Within mA (fs.map (·.1))
abbrev hoD (dx : Addr) (fs : List (Str × V)) : HO := .ext (XdO dx fs)
def XDict (H : Hp) (od : Option Addr) : Prop := od = none ∨ ∃ dx fs, od = some dx ∧ H dx = some (hoD dx fs)
section
variable {X : Cx}
theorem exc_kit {pins : List (Addr × Obj)} {σ : St} {H : Hp} {s : Shared} {e C : Addr} {od : Option Addr} (I : Inv X pins σ H s) (c : XKit X.K C) (ha : H e = some (hoX e (.ref C) od)) (hd : XDict H od) :
    ∃ P : Heap → Prop, P s.heap ∧ PySem.W.KitX X.K (.ref e) (.ref C) P := by
  obtain ⟨xo, _, _⟩ := (show ObjOk X.prog X.w H s.heap e (hoX e (.ref C) od) from I.hok e _ ha)
  rcases hd with rfl | ⟨dx, fs, rfl, hx⟩
  · exact ⟨_, xo.inst, kitx_exc c⟩
  · obtain ⟨ob, y⟩ := I.hok.there hx
    exact ⟨_, xo.instD y, kitx_exc (od := some ob) c⟩
def vCls : V → Option Value
  | .ref a => some (.ref a)
  | .ty n => some (.type n)
  | _ => none
theorem vCls_rel {c : V} {u v : Value} (h : vCls c = some u) (r : RelV c v) : v = u := by
  cases c with
  | ref a => cases h; exact r
  | ty n => cases h; exact r
  | _ => cases h
theorem vCls_all : ∀ {cs : List V} {us vs : List Value}, cs.map vCls = us.map some → Vals cs vs → vs = us
  | [], [], _, _, .nil => rfl
  | [], _ :: _, _, h, _ => by cases h
  | _ :: _, [], _, h, _ => by cases h
  | c :: cs, u :: us, _, h, .cons r rs => by
    rw [List.map_cons, List.map_cons] at h
    injection h with h1 h2
    rw [vCls_rel h1 r, vCls_all h2 rs]
def rIsX (K : PySem.W.Frag) : List V → Hp → VK → Prop := fun xs H Q => ∃ e C od c u b, xs = [.ref e, c] ∧ H e = some (hoX e (.ref C) od) ∧ XDict H od ∧ XKit K C ∧ vCls c = some u ∧ PySem.W.kitOne K (.ref C) u = some b ∧ Q (.bl b) H
theorem call_isx {K : PySem.W.Frag} (hK : X.K = K := by rfl) : CallR X (.builtin "isinstance") (rIsX K) := by
  subst hK
  intro pins s σ H xs us Q I rv h
  obtain ⟨e, C, od, c, u, b, rfl, ha, hd, ck, rc, k, q⟩ := h
  obtain ⟨u1, u2, rfl, r1, r2⟩ := vals2 rv
  obtain rfl : u1 = Value.ref e := r1
  obtain rfl := vCls_rel rc r2
  obtain ⟨P, p, Z⟩ := exc_kit I ck ha hd
  exact PySem.W.kia_one Z I.kIn p k (fun z => nomatch z) fun tk => ⟨.bl b, H, I.tok tk, rfl, q⟩
def rIsXT (K : PySem.W.Frag) : List V → Hp → VK → Prop := fun xs H Q => ∃ e C od t cs us b, xs = [.ref e, .ref t] ∧ H e = some (hoX e (.ref C) od) ∧ XDict H od ∧ XKit K C ∧ SqT K H t cs ∧ cs.map vCls = us.map some ∧ PySem.W.kitAny K (.ref C) us = some b ∧ Q (.bl b) H
theorem call_isxT {K : PySem.W.Frag} (hK : X.K = K := by rfl) : CallR X (.builtin "isinstance") (rIsXT K) := by
  subst hK
  intro pins s σ H xs us Q I rv h
  obtain ⟨e, C, od, t, cs, vs, b, rfl, ha, hd, ck, ht, rc, k, q⟩ := h
  obtain ⟨u1, u2, rfl, r1, r2⟩ := vals2 rv
  obtain rfl : u1 = Value.ref e := r1
  obtain rfl : u2 = Value.ref t := r2
  obtain ⟨P, p, Z⟩ := exc_kit I ck ha hd
  obtain ⟨its, rt, tt, _⟩ := I.tuple ht
  obtain rfl := vCls_all rc rt
  obtain ⟨⟨c1, d1, dt, sl⟩, h1, h2, n, h3⟩ := tt
  dsimp only at h2 h3
  subst h2 h3
  exact PySem.W.kia_tup Z I.kIn p h1 k (fun z => nomatch z) fun tk => ⟨.bl b, H, I.tok tk, rfl, q⟩
end
end L2
namespace L2
open PySem PySem.Spec PyProof.Rows
section
variable {X : Cx}
end
section
variable {K : PySem.W.Frag} {H H' : Hp} {x : V} {b : Bool}
theorem kit_tt {T c : String} (h : (if ((Value.type T) == (Value.type c)) = true then some true else (if PySem.W.kitMeta c = true then (PySem.fastBuiltinMro T).map (·.contains (Value.type c)) else none)) = some b) : PySem.W.kitOne K (.type T) (.type c) = some b := h
def Wh (K : PySem.W.Frag) (H : Hp) (x : V) (b : Bool) : Prop := ∃ t b1 b2, TyOf K H x t ∧ PySem.W.kitOne K t (.type "int") = some b1 ∧ PySem.W.kitOne K t (.type "bool") = some b2 ∧ (b1 && !b2) = b
theorem Wh.int (i : Int) : Wh K H (.int i) true := ⟨_, _, _, .int i, kit_int_int, kit_int_bool, rfl⟩
theorem Wh.bl (c : Bool) : Wh K H (.bl c) false := ⟨_, true, true, .bl c, kit_tt (by decide +kernel), kit_bool_bool, rfl⟩
theorem Wh.non : Wh K H .non false := ⟨_, false, false, .non, kit_tt (by decide +kernel), kit_tt (by decide +kernel), rfl⟩
theorem Wh.str (z : Str) : Wh K H (.str z) false := ⟨_, false, false, .str z, kit_tt (by decide +kernel), kit_tt (by decide +kernel), rfl⟩
theorem Wh.tup {a : Addr} {xs : List V} (h : H a = some (.tup xs)) : Wh K H (.ref a) false := ⟨_, false, false, .tup h, kit_tt (by decide +kernel), kit_tt (by decide +kernel), rfl⟩
theorem Wh.lst {a : Addr} {xs : List V} (h : H a = some (.lst xs)) : Wh K H (.ref a) false := ⟨_, false, false, .lst h, kit_tt (by decide +kernel), kit_tt (by decide +kernel), rfl⟩
theorem TyOf.same {t : Value} (e : Same H H') (h : TyOf K H x t) : TyOf K H' x t := by
  cases h with
  | non => exact .non
  | bl c => exact .bl c
  | int i => exact .int i
  | str z => exact .str z
  | flt z => exact .flt z
  | lst q => exact .lst (e _ _ q)
  | frz q => exact .frz (e _ _ q)
  | tup q => exact .tup (e _ _ q)
  | dK q => exact .dK (e _ _ q)
  | dT q => exact .dT (e _ _ q)
  | ins q cl ha hn htk hm => exact .ins (e _ _ q) cl ha hn htk hm
theorem Wh.same (e : Same H H') (h : Wh K H x b) : Wh K H' x b := by
  obtain ⟨t, b1, b2, ty, r⟩ := h
  exact ⟨t, b1, b2, ty.same e, r⟩
end
section
variable {K : PySem.W.Frag} {A B : Addr}
theorem HCls.some {C : Addr} (c : HCls K C) : (PySem.W.clsIn K C).isSome = true := by
  obtain ⟨cd, h1, _⟩ := Option.bind_eq_some_iff.mp c.ex
  rw [h1]; rfl
theorem kit_cc {b : Bool} (c : HCls K B) (h : PySem.W.subIn K (.ref A) (.ref B) = some b) (s : PySem.W.subIn K (.ref A) (.ref A) = some true) : PySem.W.kitOne K (.ref A) (.ref B) = some b := by
  unfold PySem.W.kitOne
  by_cases e : A = B
  · subst e
    rw [h] at s
    cases s
    rw [if_pos (beq_self_eq_true _)]
  · rw [if_neg (fun q => e (Value.ref.inj (beq_iff_eq.mp q)))]
    show (if ((PySem.W.clsIn K B).isSome && PySem.W.typeIn K (.ref B) == some (.type "type")) = true then PySem.W.subIn K (.ref A) (.ref B) else none) = _
    rw [c.some, c.ty, if_pos (by rfl)]
    exact h
theorem kit_cv {T : String} {b : Bool} (m : PySem.W.kitMeta T = true) (h : PySem.W.subIn K (.ref A) (.type T) = some b) : PySem.W.kitOne K (.ref A) (.type T) = some b := by
  unfold PySem.W.kitOne
  rw [if_neg (fun q => by cases beq_iff_eq.mp q)]
  show (if PySem.W.kitMeta T = true then PySem.W.subIn K (.ref A) (.type T) else none) = _
  rw [if_pos m]
  exact h
theorem kitMeta_ve : PySem.W.kitMeta "ValueError" = true := by decide +kernel
end
end L2
namespace L2
open PySem PySem.Spec PyProof.Rows
end L2
namespace L2
open PySem PySem.Spec PyProof.Rows
section
variable {prog : Program} {w : World} {A : Around} {E : Value → Shared → Prop} {s : Shared} {K : PySem.W.Frag} {C P f x : Addr} {ox : Obj} {od : Option Obj} {name : Str} {v : Value}
end
end L2
namespace L2
open PySem PySem.Spec PyProof.Rows
section
variable {prog : Program} {w : World} {A : Around} {E : Value → Shared → Prop} {h : Heap} {g : Array GenState} {d : Drawn} {t : Nat} {os : OsState}
variable {nm q : Str} {C N : Addr} {bs bm : List Value} {hd : Bool} {sn : List Str} {sub : List Value} {ab : Bool} {col : Option Bool} {dd : Option Addr} {k0 k1 k2 k3 k5 : Option Value}
end
section
variable {X : Cx} {W : St → XK} {C P fi : Addr} {k : Nat} {fd : FuncData} {ps ns : List Str} {x : Str} {p cpos pos : Pos} {e : Expr} {es : List Expr} {t : TA}
end
end L2
namespace L2
open PySem PySem.Spec PyProof.Rows
mutual
inductive Rep (K : PySem.W.Frag) (H : Hp) : V → PyData → Prop
  | non : Rep K H .non .none
  | bl (b : Bool) : Rep K H (.bl b) (.bool b)
  | int (i : Int) : Rep K H (.int i) (.int i)
  | str (x : Str) : Rep K H (.str x) (.str x)
  | lst {a : Addr} {xs : List V} {ds : List PyData} : SqL K H a xs → Reps K H xs ds → Rep K H (.ref a) (.list ds)
  | tup {a : Addr} {xs : List V} {ds : List PyData} : SqT K H a xs → Reps K H xs ds → Rep K H (.ref a) (.tuple ds)
inductive Reps (K : PySem.W.Frag) (H : Hp) : List V → List PyData → Prop
  | nil : Reps K H [] []
  | cons {x : V} {xs : List V} {d : PyData} {ds : List PyData} : Rep K H x d → Reps K H xs ds → Reps K H (x :: xs) (d :: ds)
end
section
variable {K : PySem.W.Frag} {H H' : Hp}
mutual
theorem Rep.same (e : Same H H') : ∀ {x : V} {d : PyData}, Rep K H x d → Rep K H' x d
  | _, _, .non => .non
  | _, _, .bl b => .bl b
  | _, _, .int i => .int i
  | _, _, .str x => .str x
  | _, _, .lst h r => .lst (e.seq h) (Reps.same e r)
  | _, _, .tup h r => .tup (by
      rcases h with (h | ⟨o, h⟩) | h
      · exact .inl (.inl (e _ _ h))
      · exact .inl (.inr ⟨o, e _ _ h⟩)
      · exact .inr h) (Reps.same e r)
theorem Reps.same (e : Same H H') : ∀ {xs : List V} {ds : List PyData}, Reps K H xs ds → Reps K H' xs ds
  | _, _, .nil => .nil
  | _, _, .cons r t => .cons (Rep.same e r) (Reps.same e t)
end
theorem Reps.ints : ∀ (ns : List Int), Reps K H (ns.map V.int) (ns.map PyData.int)
  | [] => .nil
  | n :: ns => .cons (.int n) (Reps.ints ns)
end
section
variable {X : Cx} {pins : List (Addr × Obj)} {σ : St} {H : Hp} {s : Shared}
mutual
theorem Inv.reads (I : Inv X pins σ H s) : ∀ {x : V} {d : PyData}, Rep X.K H x d → ∀ {v : Value}, RelV x v → ∃ as, Reads s.heap v d as
  | _, _, .non, v, r => by cases (show v = Value.none from r); exact ⟨_, .none⟩
  | _, _, .bl b, v, r => by cases (show v = Value.bool b from r); exact ⟨_, .bool b⟩
  | _, _, .int i, v, r => by obtain ⟨t, e⟩ := (show ∃ t, v = Value.int i t from r); cases e; exact ⟨_, .int i t⟩
  | _, _, .str x, v, r => by obtain ⟨t, e⟩ := (show ∃ t, v = Value.str x t from r); cases e; exact ⟨_, .str x t⟩
  | _, _, .lst (a := a) h rs, v, r => by
    cases (show v = Value.ref a from r)
    obtain ⟨its, rv, ⟨o, n, e1, e2, _, e4⟩, _⟩ := I.list h
    obtain ⟨as, q⟩ := Inv.readsAll I rs rv
    exact ⟨_, .list e1 e2 e4 q⟩
  | _, _, .tup (a := a) h rs, v, r => by
    cases (show v = Value.ref a from r)
    obtain ⟨its, rv, ⟨o, e1, e2, n, e4⟩, _⟩ := I.tuple h
    obtain ⟨as, q⟩ := Inv.readsAll I rs rv
    exact ⟨_, .tuple e1 e2 e4 q⟩
theorem Inv.readsAll (I : Inv X pins σ H s) : ∀ {xs : List V} {ds : List PyData}, Reps X.K H xs ds → ∀ {vs : List Value}, Vals xs vs → ∃ as, ReadsAll s.heap vs ds as
  | _, _, .nil, _, .nil => ⟨_, .nil⟩
  | _, _, .cons r t, _, .cons q u => by
    obtain ⟨a1, h1⟩ := Inv.reads I r q
    obtain ⟨a2, h2⟩ := Inv.readsAll I t u
    exact ⟨_, .cons h1 h2⟩
end
def rNeD (K : PySem.W.Frag) : R2 := fun x y H Q => ∃ d e, Rep K H x d ∧ Rep K H y e ∧ PySem.SeqAt.shaped d = true ∧ PySem.SeqAt.shaped e = true ∧ Q (.bl (!PyData.eqv d e)) H
theorem op_neD {K : PySem.W.Frag} (hu : X.A.units + 64 < cLine) (hK : X.K = K := by rfl) : OpR X (compareOp .NotEq) (rNeD K) := by
  subst hK
  intro pins s σ H x y v u Q I rx ry h
  obtain ⟨d, e, hx, hy, s1, s2, q⟩ := h
  obtain ⟨as, r1⟩ := I.reads hx rx
  obtain ⟨bs, r2⟩ := I.reads hy ry
  exact ne_dataH r1 r2 s1 s2 hu ⟨.bl _, H, I, rfl, q⟩
end
end L2
namespace L2
open PySem PySem.W PySem.Spec PyProof.Rows
section
variable {O : KeyOrd} {ky : Nat → O.α} {n : Nat} {cmp : Nat → Nat → (Bool → Shared → Prop) → Shared → Prop} {J : Shared → Prop}
end
end L2
namespace L2
open PySem PySem.W PySem.Spec PyProof.Rows
section
variable {prog : Program} {w : World} {A : Around} {E : Value → Shared → Prop} {s : Shared} {Q : Bool → Shared → Prop}
end
section
variable {X : Cx}
end
end L2
namespace L2
open PySem PySem.W PySem.Spec PyProof.Rows
section
variable {prog : Program} {w : World} {A : Around} {E : Value → Shared → Prop} {s : Shared} {d : Addr} {es : Array DictEntry} {ep : Nat}
end
section
variable {X : Cx}
theorem call_max1 (hc : X.calm = true) : CallR X (.builtin "max") (fun xs H Q => ∃ (a : Addr) (ns : List Int), xs = [.ref a] ∧ SqL X.K H a (ns.map V.int) ∧ 0 < ns.length ∧ ∀ M, M ∈ ns → (∀ z ∈ ns, z ≤ M) → Q (.int M) H) := by
  intro pins s σ H xs us Q I r h
  obtain ⟨a, ns, rfl, hq, hne, q⟩ := h
  obtain ⟨u, rfl, rx⟩ := vals1 r
  cases rx
  obtain ⟨its, rv, pl, hz⟩ := I.list hq
  have hi := intsAre_of rv
  obtain ⟨xs, e⟩ := hi.allInts.items
  have hns : ns = xs.toList.map (·.1) := by
    rw [← hi.numsOf, ← nums_intItems, ← e]
  have hsz : 0 < xs.size := by
    have h3 := hne; rw [hns, List.length_map, Array.length_toList] at h3; exact h3
  have hl := pl.isList
  rw [e] at hl
  refine max_intList (I.ok.hd hc) hl hsz fun v h' tk hv hk => ?_
  obtain ⟨t, rfl⟩ := intItems_at hv
  obtain ⟨_, h2⟩ := argBest_gt (numAt xs) (xs.size - 1)
  refine ⟨.int _, H, I.kept hk, ⟨t, rfl⟩, q _ ?_ fun z m => ?_⟩
  · rw [hns, numAt_eq]; exact getD_mem (by rw [List.length_map, Array.length_toList]; omega)
  · rw [hns] at m
    obtain ⟨j, hj, rfl⟩ := mem_getD m
    rw [List.length_map, Array.length_toList] at hj
    rw [← numAt_eq]; exact h2 j (by omega)
end
end L2
namespace L2
open PySem
def Ris (xs : Array Nat) : Prop := ∀ i j, i < j → j < xs.size → xs.getD i 0 < xs.getD j 0
theorem getD_any {xs : Array Nat} {i : Nat} (h : i < xs.size) (a b : Nat) : xs.getD i a = xs.getD i b := by
  simp [Array.getD, h]
theorem below_go {xs : Array Nat} (hr : Ris xs) (j : Nat) : ∀ (f lo hi : Nat), lo ≤ hi → hi ≤ xs.size → hi - lo ≤ f → (∀ i, i < lo → xs.getD i 0 < j) → (∀ i, hi ≤ i → i < xs.size → j ≤ xs.getD i 0) →
    SetTable.below.go xs j f lo hi ≤ xs.size ∧ (∀ i, i < SetTable.below.go xs j f lo hi → xs.getD i 0 < j) ∧ ∀ i, SetTable.below.go xs j f lo hi ≤ i → i < xs.size → j ≤ xs.getD i 0
  | 0, lo, hi, h1, h2, h3, h4, h5 => by
    have : lo = hi := by omega
    subst this
    exact ⟨h2, h4, h5⟩
  | f + 1, lo, hi, h1, h2, h3, h4, h5 => by
    unfold SetTable.below.go
    by_cases c : lo < hi
    · rw [if_pos c]
      dsimp only
      have hm : (lo + hi) / 2 < xs.size := by omega
      by_cases c2 : xs.getD ((lo + hi) / 2) j < j
      · rw [if_pos c2]
        refine below_go hr j f _ hi (by omega) h2 (by omega) (fun i hi' => ?_) h5
        rw [getD_any hm j 0] at c2
        by_cases e : i = (lo + hi) / 2
        · rw [e]; exact c2
        · exact Nat.lt_trans (hr i ((lo + hi) / 2) (by omega) hm) c2
      · rw [if_neg c2]
        refine below_go hr j f lo _ (by omega) (by omega) (by omega) h4 (fun i a b => ?_)
        rw [getD_any hm j 0] at c2
        by_cases e : i = (lo + hi) / 2
        · rw [e]; omega
        · have := hr ((lo + hi) / 2) i (by omega) b
          omega
    · rw [if_neg c]
      have : lo = hi := by omega
      subst this
      exact ⟨h2, h4, h5⟩
theorem below_ok {xs : Array Nat} (hr : Ris xs) (j : Nat) : SetTable.below xs j ≤ xs.size ∧ (∀ i, i < SetTable.below xs j → xs.getD i 0 < j) ∧ ∀ i, SetTable.below xs j ≤ i → i < xs.size → j ≤ xs.getD i 0 :=
  below_go hr j xs.size 0 xs.size (Nat.zero_le _) (Nat.le_refl _) (by omega) (fun i h => absurd h (Nat.not_lt_zero _)) (fun i a b => absurd a (by omega))
theorem below_zero {xs : Array Nat} (hr : Ris xs) : SetTable.below xs 0 = 0 := by
  obtain ⟨_, h, _⟩ := below_ok hr 0
  cases e : SetTable.below xs 0 with
  | zero => rfl
  | succ n => exact absurd (h n (by omega)) (Nat.not_lt_zero _)
theorem below_next {xs : Array Nat} (hr : Ris xs) {i : Nat} (hi : i < xs.size) : SetTable.below xs (xs.getD i 0 + 1) = i + 1 := by
  obtain ⟨h0, h1, h2⟩ := below_ok hr (xs.getD i 0 + 1)
  have a : ¬ SetTable.below xs (xs.getD i 0 + 1) ≤ i := fun c => by
    have := h2 i c hi
    omega
  have b : ¬ i + 1 < SetTable.below xs (xs.getD i 0 + 1) := fun c => by
    have p := h1 (i + 1) c
    have q := hr i (i + 1) (by omega) (by omega)
    omega
  omega
theorem insert_size {α : Type} {xs : Array α} {p : Nat} (hp : p ≤ xs.size) (x : α) : (SetTable.insertAt xs p x).size = xs.size + 1 := by
  unfold SetTable.insertAt
  simp
  omega
theorem insert_getD {xs : Array Nat} {p : Nat} (hp : p ≤ xs.size) (x i : Nat) : (SetTable.insertAt xs p x).getD i 0 = if i < p then xs.getD i 0 else if i = p then x else xs.getD (i - 1) 0 := by
  unfold SetTable.insertAt
  rw [Array.getD_eq_getD_getElem?, Array.getElem?_append]
  by_cases c : i < p
  · rw [if_pos c, if_pos (by simp; omega), Array.getElem?_push]
    rw [if_neg (by simp; omega), Array.getElem?_extract]
    rw [if_pos (by omega), Array.getD_eq_getD_getElem?]
    simp
  · rw [if_neg c]
    by_cases c2 : i = p
    · subst c2
      rw [if_pos rfl, if_pos (by simp; omega), Array.getElem?_push, if_pos (by simp; omega)]
      rfl
    · rw [if_neg c2, if_neg (by simp; omega), Array.getElem?_extract, Array.getD_eq_getD_getElem?]
      have e : ((xs.extract 0 p).push x).size = p + 1 := by simp; omega
      rw [e]
      by_cases c3 : i - (p + 1) < min xs.size xs.size - p
      · rw [if_pos c3]
        congr 2
        omega
      · rw [if_neg c3, Array.getElem?_eq_none (by omega)]
theorem Ris.put {xs : Array Nat} (hr : Ris xs) {j : Nat} (hj : xs[SetTable.below xs j]? ≠ some j) : Ris (SetTable.insertAt xs (SetTable.below xs j) j) := by
  obtain ⟨h0, h1, h2⟩ := below_ok hr j
  intro a b hab hb
  rw [insert_size h0] at hb
  rw [insert_getD h0, insert_getD h0]
  generalize hp : SetTable.below xs j = p at *
  have gt : ∀ i, p ≤ i → i < xs.size → j < xs.getD i 0 := fun i a b => by
    have l := h2 i a b
    by_cases e : i = p
    · subst e
      have : xs.getD i 0 ≠ j := fun z => hj (by simp [Array.getD, b] at z; simp [b, z])
      omega
    · have := h2 p (Nat.le_refl _) (by omega)
      have := hr p i (by omega) b
      omega
  by_cases ca : a < p
  · rw [if_pos ca]
    by_cases cb : b < p
    · rw [if_pos cb]
      exact hr a b hab (by omega)
    · rw [if_neg cb]
      by_cases cb2 : b = p
      · rw [if_pos cb2]
        exact h1 a ca
      · rw [if_neg cb2]
        exact hr a (b - 1) (by omega) (by omega)
  · rw [if_neg ca]
    by_cases ca2 : a = p
    · rw [if_pos ca2, if_neg (show ¬ b < p by omega), if_neg (show ¬ b = p by omega)]
      exact gt (b - 1) (by omega) (by omega)
    · rw [if_neg ca2, if_neg (show ¬ b < p by omega), if_neg (show ¬ b = p by omega)]
      exact hr (a - 1) (b - 1) (by omega) (by omega)
theorem ris_range (n : Nat) : Ris (Array.range n) := fun i j hij hj => by
  have hj' : j < n := by simpa using hj
  have hi' : i < n := by omega
  simp [Array.getD, hj', hi']
  exact hij
theorem ris_of_pairwise {l : List Nat} (h : l.Pairwise (· < ·)) : Ris l.toArray := fun i j hij hj => by
  have hj' : j < l.length := by simpa using hj
  have hi' : i < l.length := by omega
  have := List.pairwise_iff_getElem.mp h i j hi' hj' hij
  simpa [Array.getD, hj', hi'] using this
theorem live_rising {owner : Array (Option Nat)} (n : Nat) : (((List.range n).filterMap fun j => (owner.getD j none).map (j, ·)).map (·.1)).Pairwise (· < ·) := by
  rw [List.pairwise_map, List.pairwise_filterMap]
  refine List.Pairwise.imp ?_ List.pairwise_lt_range
  intro a b hab x hx y hy
  cases e1 : owner.getD a none with
  | none => rw [e1] at hx; cases hx
  | some u =>
    cases e2 : owner.getD b none with
    | none => rw [e2] at hy; cases hy
    | some v =>
      rw [e1] at hx
      rw [e2] at hy
      cases hx
      cases hy
      exact hab
theorem laid_ok {mask finger moves : Nat} {led plain : Bool} {hashes : Array Int} {t : SetTable} {order : Array Nat} (h : SetTable.laid mask finger moves led plain hashes = some (t, order)) : Ris t.place ∧ t.led = led := by
  unfold SetTable.laid at h
  cases e : SetTable.layClean mask hashes with
  | none => rw [e] at h; cases h
  | some owner =>
    rw [e] at h
    cases h
    exact ⟨ris_of_pairwise (live_rising _), rfl⟩
theorem probe_free {t : SetTable} {f : Nat → Int} {hv : Int} : ∀ (n : Nat) (p : SetTable.Probe) {j : Nat} {du : Option Nat}, (∀ d, p.dummy = some d → t.place[SetTable.below t.place d]? ≠ some d) →
    SetTable.probe.go t f hv n p = some (.empty j du) → (∀ d, du = some d → t.place[SetTable.below t.place d]? ≠ some d) ∧ t.place[SetTable.below t.place j]? ≠ some j
  | 0, p, j, du, hd, e => by cases e
  | n + 1, p, j, du, hd, e => by
    unfold SetTable.probe.go at e
    by_cases c : t.place[SetTable.below t.place p.j]? = some p.j
    · have es : t.slot p.j = .live (SetTable.below t.place p.j) := by
        unfold SetTable.slot
        simp [c]
      rw [es] at e
      dsimp only at e
      by_cases c2 : (f (SetTable.below t.place p.j) == hv) = true
      · rw [if_pos c2] at e; cases e
      · rw [if_neg c2] at e
        refine probe_free n _ ?_ e
        unfold SetTable.advance
        by_cases c3 : p.more > 0
        · rw [if_pos c3]; exact hd
        · rw [if_neg c3]; exact hd
    · by_cases c4 : SetTable.has t.dummies p.j = true
      · have es : t.slot p.j = .dummy := by
          unfold SetTable.slot
          simp [c, c4]
        rw [es] at e
        dsimp only at e
        refine probe_free n _ ?_ e
        have k : ∀ d, some p.j = some d → t.place[SetTable.below t.place d]? ≠ some d := fun d z => by
          cases z
          exact c
        unfold SetTable.advance
        by_cases c3 : p.more > 0
        · rw [if_pos c3]; exact k
        · rw [if_neg c3]; exact k
      · have es : t.slot p.j = .empty := by
          unfold SetTable.slot
          simp [c, c4]
        rw [es] at e
        cases e
        exact ⟨hd, c⟩
theorem free_ok {t : SetTable} {hv : Int} {slot : Nat} {b : Bool} (h : t.freeSlot hv = some (slot, b)) : t.place[SetTable.below t.place slot]? ≠ some slot := by
  unfold SetTable.freeSlot SetTable.probe at h
  cases e : SetTable.probe.go t (fun _ => hv + 1) hv (10 * SetTable.turns t.mask) (t.probeStart hv) with
  | none => rw [e] at h; cases h
  | some m =>
    rw [e] at h
    cases m with
    | candidate j i nx => cases h
    | empty j du =>
      obtain ⟨a, b'⟩ := probe_free _ _ (fun d z => by cases z) e
      cases du with
      | none =>
        cases h
        exact b'
      | some d =>
        cases h
        exact a d rfl
def Walk (t : SetTable) : Prop := Ris t.place ∧ t.led = true
theorem Walk.standIn {t : SetTable} (h : Walk t) (n : Nat) : Walk (t.standIn n) := ⟨ris_range n, h.2⟩
theorem Walk.orStandIn {t : SetTable} (h : Walk t) (n : Nat) : Walk (t.orStandIn n) := by
  unfold SetTable.orStandIn
  split
  · exact h
  · exact h.standIn n
theorem Walk.lay {t : SetTable} (h : Walk t) (es : Array (Int × Value)) (hv : Int) (x : Value) : Walk (layNew t es hv x).2.1 := by
  unfold layNew
  cases e : t.freeSlot hv with
  | none => exact h.standIn _
  | some q =>
    obtain ⟨slot, b⟩ := q
    have w : Walk (t.put slot).1 := ⟨h.1.put (free_ok e), h.2⟩
    exact w.orStandIn _
theorem Walk.relay {t : SetTable} (h : Walk t) (es : Array (Int × Value)) (n : Nat) : Walk (relayAll t es n).2.1 := by
  unfold relayAll SetTable.relaid
  cases e : SetTable.laid (SetTable.sizeAbove n - 1) t.finger (t.movedTo (SetTable.sizeAbove n - 1)) t.led t.plain (es.map (·.1)) with
  | none => exact h.standIn _
  | some q =>
    obtain ⟨t', order⟩ := q
    obtain ⟨a, b⟩ := laid_ok e
    dsimp only
    split
    · exact ⟨a, b.trans h.2⟩
    · exact h.standIn _
end L2
namespace L2
open PySem PySem.W PySem.Spec PyProof.Rows
def byText (w : World) : Bool := w.params.followText "set-order"
def SetI (prog : Program) (w : World) (h : Heap) (a : Addr) (l : List Int) : Prop :=
  ∃ o es ep t ms, h.get? a = some o ∧ o.ExactSet ∧ o.data = .set es ep t ∧ ElemsOf (intKind prog w) es.toList ∧ IntsAre (es.toList.map (·.2)) ms ∧ ms.Perm l ∧ es.size < scanBound ∧ t.fits es.size = true ∧ (byText w = true ∨ Walk t)
theorem ints_perm {vs vs' : List Value} (p : vs'.Perm vs) : ∀ {ns : List Int}, IntsAre vs ns → ∃ ns', IntsAre vs' ns' ∧ ns'.Perm ns := by
  induction p with
  | nil => intro ns h; cases h; exact ⟨[], .nil, .refl _⟩
  | cons x _ ih =>
    intro ns h
    cases h with
    | cons n t h =>
      obtain ⟨ns', a, b⟩ := ih h
      exact ⟨n :: ns', .cons n t a, b.cons n⟩
  | swap x y l =>
    intro ns h
    cases h with
    | cons n t h =>
      cases h with
      | cons m u h => exact ⟨m :: n :: _, .cons m u (.cons n t h), .swap _ _ _⟩
  | trans _ _ ih1 ih2 =>
    intro ns h
    obtain ⟨n1, a1, b1⟩ := ih2 h
    obtain ⟨n2, a2, b2⟩ := ih1 a1
    exact ⟨n2, a2, b2.trans b1⟩
theorem ints_append : ∀ {vs us : List Value} {ns ms : List Int}, IntsAre vs ns → IntsAre us ms → IntsAre (vs ++ us) (ns ++ ms)
  | _, _, _, _, .nil, h => h
  | _, _, _, _, .cons n t a, h => .cons n t (ints_append a h)
theorem ints_mem : ∀ {vs : List Value} {ns : List Int}, IntsAre vs ns → ∀ {n : Int}, n ∈ ns ↔ ∃ t, Value.int n t ∈ vs
  | _, _, .nil, n => ⟨(fun h => by cases h), (fun ⟨_, h⟩ => by cases h)⟩
  | _, _, .cons m u a, n => by
    constructor
    · intro h
      rcases List.mem_cons.mp h with e | h
      · subst e
        exact ⟨u, List.mem_cons_self ..⟩
      · obtain ⟨t, ht⟩ := (ints_mem a).mp h
        exact ⟨t, List.mem_cons_of_mem _ ht⟩
    · rintro ⟨t, h⟩
      rcases List.mem_cons.mp h with e | h
      · cases e
        exact List.mem_cons_self ..
      · exact List.mem_cons_of_mem _ ((ints_mem a).mpr ⟨t, h⟩)
section
variable {prog : Program} {w : World} {A : Around} {E : Value → Shared → Prop} {s : Shared}
theorem store_get {h : Heap} {a : Addr} {o : Obj} {es : Array (Int × Value)} {ep : Nat} {t : SetTable} (ho : h.get? a = some o) (hd : o.data = .set es ep t) (es' : Array (Int × Value)) (t' : SetTable) :
    (h.update a (Obj.putSet es' t')).get? a = some { o with data := .set es' (ep + 1) t' } := by
  have := Heap.get?_update_self (Obj.putSet es' t') ho (by rw [putSet_of es' t' hd]; rfl)
  rw [putSet_of es' t' hd] at this
  exact this
theorem add_tail {g : Bool → Sem Unit} (hg : ∀ (b : Bool) (s₁ : Shared) (Q' : Unit → Shared → Prop), Q' () s₁ → wpAny (model prog w) A (g b) Q' E s₁)
    {a : Addr} {o : Obj} {es : Array (Int × Value)} {ep : Nat} {t : SetTable} (ho : s.heap.get? a = some o) (hex : o.ExactSet) (hd : o.data = .set es ep t)
    {es1 : Array (Int × Value)} {t2 : SetTable} {ms l : List Int} (hel1 : ElemsOf (intKind prog w) es1.toList) (hi : IntsAre (es1.toList.map (·.2)) ms) (hp : ms.Perm l)
    (hb1 : es1.size < scanBound) (hf2 : t2.fits es1.size = true) (hw : byText w = true ∨ Walk t2) {wasDummy : Bool} {R : Option Bool → Shared → Prop}
    (h : ∀ h', Heap.SameBut a s.heap h' → SetI prog w h' a l → R (some true) { s with heap := h' }) :
    wpAny (model prog w) A (do
        storeSet a es1 t2
        if (!wasDummy && t2.tooFull) = true then do
            g (relayAll t2 es1 (SetTable.grown es1.size)).2.2
            storeSet a (relayAll t2 es1 (SetTable.grown es1.size)).1 (relayAll t2 es1 (SetTable.grown es1.size)).2.1
            pure (some true)
          else pure (some true)) R E s := by
  refine wpAny_bind (wpAny_storeSet_of ho hd ?_ (fits_of_scanBound hb1))
  have ho1 := store_get ho hd es1 t2
  have hsb1 := Heap.SameBut.update s.heap a (Obj.putSet es1 t2)
  split
  · have pr := relayAll_perm t2 es1 (SetTable.grown es1.size)
    have fr := relayAll_fits t2 es1 (SetTable.grown es1.size)
    have wr : byText w = true ∨ Walk (relayAll t2 es1 (SetTable.grown es1.size)).2.1 := hw.imp id fun x => x.relay _ _
    generalize relayAll t2 es1 (SetTable.grown es1.size) = Rl at pr fr wr ⊢
    obtain ⟨es2, t3, gave2⟩ := Rl
    dsimp only at pr fr wr ⊢
    have hsz : es2.size = es1.size := by rw [← Array.length_toList, pr.length_eq, Array.length_toList]
    obtain ⟨ms2, i2, p2⟩ := ints_perm (pr.map (·.2)) hi
    refine wpAny_bind (hg _ _ _ ?_)
    refine wpAny_bind (wpAny_storeSet_of ho1 rfl ?_ (fits_of_scanBound (by rw [hsz]; exact hb1)))
    exact wpAny_pure (h _ (hsb1.trans (Heap.SameBut.update _ a _)) ⟨_, es2, _, t3, ms2, store_get ho1 rfl es2 t3, hex, rfl, hel1.perm pr, i2, p2.trans hp, by rw [hsz]; exact hb1, fr, wr⟩)
  · exact wpAny_pure (h _ hsb1 ⟨_, es1, _, t2, ms, ho1, hex, rfl, hel1, hi, hp, hb1, hf2, hw⟩)
theorem add_int {a : Addr} {l : List Int} {k : Int} {tk : Tok} {Q : Bool → Shared → Prop} (hS : SetI prog w s.heap a l) (hroom : l.length + 1 < scanBound)
    (h : ∀ h' b, Heap.SameBut a s.heap h' → SetI prog w h' a (step_dedup l k) → Q b { s with heap := h' }) :
    wpAny (model prog w) A (setAddHashed a (.int k tk) ((intKind prog w).hash k)) Q E s := by
  obtain ⟨o, es, ep, t, ms, ho, hex, hd, hel, hi, hp, hb, hf, hw⟩ := hS
  have hkey : (intKind prog w).is k (.int k tk) = true := intKind_is _ _ _ _
  have hsc : (Value.int k tk).scannable = true := rfl
  have hlen : es.size = l.length := by
    have := hi.length
    rw [List.length_map, Array.length_toList] at this
    rw [this, hp.length_eq]
  unfold setAddHashed setAddHashedIn
  refine wpAny_holding (wpAny_bind (wpAny_setState_of ho hd hf ?_))
  dsimp only
  rw [byScan_of hsc hb hel]
  simp only [↓reduceIte]
  unfold setAddByScan
  refine wpAny_bind ?_
  refine wpAny_bind (wpAny_rule ?_)
  refine wpAny_bind (wpAny_setScan_of hkey ho hd hf hel ?_)
  cases hr : List.findIdx? (fun e => (intKind prog w).is k e.2) es.toList with
  | some j =>
    dsimp only
    obtain ⟨hj, hpj, _⟩ := List.findIdx?_eq_some_iff_getElem.mp hr
    have mem : k ∈ l := by
      refine hp.mem_iff.mp ((ints_mem hi).mpr ?_)
      obtain ⟨t', e⟩ := Value.isInt_shape (show Value.isInt k es.toList[j].2 = true from hpj)
      exact ⟨t', List.mem_map.mpr ⟨_, List.getElem_mem hj, e⟩⟩
    have es' : step_dedup l k = l := by
      unfold step_dedup
      rw [if_pos (List.any_eq_true.mpr ⟨k, mem, by simp⟩)]
    refine wpAny_pure (wpAny_pure ?_)
    exact h s.heap _ (Heap.SameBut.refl a s.heap) ⟨o, es, ep, t, ms, ho, hex, hd, hel, hi, by rw [es']; exact hp, hb, hf, hw⟩
  | none =>
    dsimp only
    have nmem : ¬ k ∈ l := fun m => by
      obtain ⟨t', ht⟩ := (ints_mem hi).mp (hp.mem_iff.mpr m)
      obtain ⟨e, he, hv⟩ := List.mem_map.mp ht
      have := List.findIdx?_eq_none_iff.mp hr e he
      rw [hv, intKind_is] at this
      exact Bool.noConfusion this
    have es' : step_dedup l k = l ++ [k] := by
      unfold step_dedup
      rw [if_neg (by
        intro z
        obtain ⟨y, hy, ey⟩ := List.any_eq_true.mp z
        have : y = k := by simpa using ey
        exact nmem (this ▸ hy))]
    have hgw : ∀ (b : Bool) {s₁ : Shared} {Q' : Unit → Shared → Prop}, Q' () s₁ → wpAny (model prog w) A (match b with | true => rule "set.scan.the-table-gave-way" | false => pure ()) Q' E s₁ :=
      fun b s₁ Q' hq => by cases b <;> first | exact wpAny_pure hq | exact wpAny_rule hq
    have pr := layNew_perm t es ((intKind prog w).hash k) (.int k tk)
    have fr := layNew_fits t es ((intKind prog w).hash k) (.int k tk)
    have wr : byText w = true ∨ Walk (layNew t es ((intKind prog w).hash k) (.int k tk)).2.1 := hw.imp id fun x => x.lay _ _ _
    generalize layNew t es ((intKind prog w).hash k) (.int k tk) = L at pr fr wr ⊢
    obtain ⟨es1, t1, wasDummy, gave⟩ := L
    dsimp only at pr fr wr ⊢
    rw [Array.toList_push] at pr
    have hel1 : ElemsOf (intKind prog w) es1.toList := (hel.push hkey hsc).perm pr
    have hi0 : IntsAre ((es.toList ++ [((intKind prog w).hash k, Value.int k tk)]).map (·.2)) (ms ++ [k]) := by
      rw [List.map_append]
      exact ints_append hi (.cons k tk .nil)
    obtain ⟨ms1, i1, p1⟩ := ints_perm (pr.map (·.2)) hi0
    have hp1 : ms1.Perm (step_dedup l k) := by rw [es']; exact p1.trans (hp.append_right [k])
    have hb1 : es1.size < scanBound := by rw [← Array.length_toList, pr.length_eq, List.length_append, Array.length_toList, hlen]; simpa using hroom
    refine wpAny_bind (hgw _ ?_)
    split
    · refine wpAny_bind ?_
      rw [hashByValue_scannable 8 hsc]
      refine wpAny_pure ?_
      refine add_tail ?_ ho hex hd hel1 i1 hp1 hb1 ?_ ?_ ?_
      · intro b s₁ Q' hq; cases b <;> first | exact wpAny_pure hq | exact wpAny_rule hq
      · split
        · exact fr
        · exact SetTable.fits_plain_off fr
      · split
        · exact wr
        · exact wr
      · intro h' hsb hS'; dsimp only; exact wpAny_pure (h h' _ hsb hS')
    · refine wpAny_bind (wpAny_pure ?_)
      simp only [↓reduceIte]
      refine add_tail ?_ ho hex hd hel1 i1 hp1 hb1 fr wr ?_
      · intro b s₁ Q' hq; cases b <;> first | exact wpAny_pure hq | exact wpAny_rule hq
      · intro h' hsb hS'; dsimp only; exact wpAny_pure (h h' _ hsb hS')
theorem SetI.at {h h' : Heap} {a : Addr} {l : List Int} (x : SetI prog w h a l) (e : ∀ o, h.get? a = some o → h'.get? a = some o) : SetI prog w h' a l := by
  obtain ⟨o, es, ep, t, ms, ho, r⟩ := x
  exact ⟨o, es, ep, t, ms, e o ho, r⟩
end
section
variable {prog : Program} {w : World} {A : Around} {R : Result → Shared → Prop} {I : Addr} {fp wr : List Addr} {G : Array GenState → Array GenState → Prop} {n : Nat} {P : Nat → Value → Prop} {St : Nat → Shared → Prop}
theorem set_loop (W : WalksS prog w A.in1 I fp wr G n P St) (S : Addr) (hSf : S ∉ fp) (val : Nat → Int) (hval : ∀ i v, P i v → ∃ t, v = .int (val i) t) (hb : n + 1 < scanBound) :
    ∀ (k i : Nat) (s : Shared), n - i = k → i ≤ n → St i s → SetI prog w s.heap S (firstMet val i) → (∀ s', Moved (S :: wr) G s s' → SetI prog w s'.heap S (firstMet val n) → R (.ok (.ret .none)) s') →
      codeAny (model prog w) A (.builtin "set.update.loop" ⟨[.ref S, .ref I], []⟩) R s := by
  have hSw : S ∉ wr := fun h => hSf (W.sub _ h)
  have hsub : ∀ b ∈ wr, b ∈ S :: wr := fun b hb => List.mem_cons_of_mem _ hb
  intro k
  induction k with
  | zero =>
    intro i s hk hi hst hS hR
    have hin : i = n := by omega
    subst hin
    refine codeAny_builtin F.entry_set_update_loop ?_
    rw [Around.under_plainId F.plain_set_update_loop _]
    show wpAny _ A.in1 (pyNext (.ref I) >>= _) _ _ s
    refine wpAny_bind (W.done s _ _ hst fun s' hm => ?_)
    show wpAny _ A.in1 (ret Value.none) _ _ s'
    exact wpAny_pure (hR s' (hm.mono hsub) (hS.at fun o e => hm.heap S o hSw e))
  | succ k ih =>
    intro i s hk hi hst hS hR
    have hlt : i < n := by omega
    refine codeAny_builtin F.entry_set_update_loop ?_
    rw [Around.under_plainId F.plain_set_update_loop _]
    show wpAny _ A.in1 (pyNext (.ref I) >>= _) _ _ s
    refine wpAny_bind (W.item i s _ _ hlt hst fun v s' hP hst' hm => ?_)
    obtain ⟨t, rfl⟩ := hval i v hP
    have hS' := hS.at fun o e => hm.heap S o hSw e
    show wpAny _ A.in1 (holding [Value.int (val i) t] (setAdd S (.int (val i) t)) >>= _) _ _ s'
    refine wpAny_bind (wpAny_holding ?_)
    unfold setAdd
    refine wpAny_holding ?_
    refine wpAny_bind ((intKind prog w).pyHash (k := val i) (intKind_is _ _ _ _) ?_)
    have hroom : (firstMet val i).length + 1 < scanBound := by have := firstMet_length_le val i; omega
    refine add_int (s := { s' with toks := s'.toks + 1 }) hS' hroom fun h' b hsb hS2 => ?_
    have hSi : SetI prog w h' S (firstMet val (i + 1)) := by rw [firstMet_succ]; exact hS2
    refine wpAny_pure ⟨plainId_quiet F.plain_set_update_loop _, ih (i + 1) _ (by omega) hlt (W.frame _ s' _ _ hst' (Nat.le_succ _) fun b hb o e => ?_) hSi fun s'' hm'' hS'' => ?_⟩
    · rw [hsb.2 b (fun h : b = S => hSf (by rw [← h]; exact hb))]; exact e
    · refine hR s'' (Moved.trans W.gtrans ((hm.mono hsub).then_heap (Nat.le_succ _) fun b o hb e => ?_) hm'') hS''
      rw [hsb.2 b (fun h : b = S => hb (by rw [h]; exact List.mem_cons_self))]; exact e
end
section
variable {prog : Program} {w : World} {A : Around} {E : Value → Shared → Prop} {s : Shared}
abbrev newSetObj (w : World) : Obj := { cls := .type "set", dict := none, data := .set #[] 0 (.fresh 0 0 (!byText w)) }
theorem set_new (a : Value) {Q₁ : Value → Shared → Prop} (h : Q₁ (.ref s.heap.objs.size) { s with heap := s.heap.push (newSetObj w) }) :
    codeAny (model prog w) A (.call (.builtin "set.__new__") ⟨[.type "set", a], []⟩) (wants Q₁ E) s := by
  refine codeAny_of_tree ?_
  show wpAny _ A.in1 (do checkBuiltinCall "set.__new__" ⟨[.type "set", a], []⟩; again (.builtin "set.__new__" ⟨[.type "set", a], []⟩)) _ _ s
  refine wpAny_bind (wpAny_of_eq (PySem.F.newCall_set_1 a) (wpAny_pure ⟨plainId_quiet PySem.F.plain_set_new _, codeAny_builtin PySem.F.entry_set_new ?_⟩))
  rw [Around.under_plainId PySem.F.plain_set_new _]
  unfold Builtin.«set.__new__» Builtin.Frozenset.newClass
  have hsub := sub_set_self
  obtain ⟨hp, g, d, tk, os⟩ := s
  dsimp only
  wp_walk
  refine wpAny_askSetting (wpAny_pure ?_)
  dsimp only
  simp only [newObj]
  refine wpAny_bind (wpAny_alloc (wpAny_pure ?_))
  exact wpAny_pure h
theorem fresh_set {h : Heap} {a : Addr} (ho : h.get? a = some (newSetObj w)) : SetI prog w h a [] :=
  ⟨_, #[], 0, _, [], ho, ⟨rfl, rfl, rfl⟩, rfl, fun e he => by simp at he, .nil, .refl _, by decide, rfl, by
    cases e : byText w with
    | true => exact .inl rfl
    | false => exact .inr ⟨fun i j _ hj => absurd hj (by simp [SetTable.fresh]), by simp [SetTable.fresh]⟩⟩
set_option maxRecDepth 100000 in
set_option maxHeartbeats 3200000 in
theorem set_of_list {l : Addr} {items : Array Value} {ns : List Int} {Q : Value → Shared → Prop} (hh : A.handled = none) (hl : s.heap.IsList l items) (hi : IntsAre items.toList ns) (hb : items.size + 1 < scanBound)
    (h : ∀ (h' : Heap) (tk : Nat), SetI prog w h' s.heap.objs.size (firstMet (fun i => ns.getD i 0) items.size) → (∀ b o, b < s.heap.objs.size → s.heap.get? b = some o → h'.get? b = some o) → Q (.ref s.heap.objs.size) { s with heap := h', toks := tk }) :
    wpAny (model prog w) A (call (.type "set") [.ref l]) Q E s := by
  obtain ⟨c, tl, hmro⟩ := PySem.F.called_set.mro
  have hmade := PySem.F.called_set.made
  have hsub := PySem.F.called_set.sub
  refine wpAny_call (codeAny_of_tree ?_)
  show wpAny _ _ (callAny (.type "set") _) _ _ _
  refine wpAny_pure ⟨Code.quiet_builtin _ (by decide +kernel), codeAny_builtin PySem.F.entry_type_call ?_⟩
  rw [Around.under_plain (weight_type_call_type "set" [.ref l] []) rfl]
  have h1 := PySem.F.called_set.notType
  have h2 := PySem.F.called_set.canCreate
  have hct := PySem.F.typeCall_set_1 (.ref l)
  repeat (any_goals (first | assumption | wp_step))
  refine codeAny_mono (set_new (.ref l) (E := E) (Q₁ := fun obj s₁ => obj = .ref s.heap.objs.size ∧ s₁ = { s with heap := s.heap.push (newSetObj w) }) ⟨rfl, rfl⟩) fun r s₁ hr => ?_
  cases r with
  | error e => exact hr
  | ok fl =>
    cases fl with
    | ret obj =>
      obtain ⟨rfl, rfl⟩ := hr
      have hS : (s.heap.push (newSetObj w)).get? s.heap.objs.size = some (newSetObj w) := Heap.get?_push_size _ rfl
      have hT : Shared.TypeIs { s with heap := s.heap.push (newSetObj w) } (.ref s.heap.objs.size) "set" := ⟨_, hS, rfl⟩
      have hli := PySem.F.called_set.init.lookup
      have hbi := PySem.F.called_set.init.bind (.ref s.heap.objs.size)
      repeat (any_goals (first | assumption | wp_step))
      refine codeAny_mono (codeAny_call_builtin (R := wants (fun r s₂ => r = .none ∧ ∃ h' tk, s₂ = { s with heap := h', toks := tk } ∧ SetI prog w h' s.heap.objs.size (firstMet (fun i => ns.getD i 0) items.size) ∧
          (∀ b o, b < s.heap.objs.size → s.heap.get? b = some o → h'.get? b = some o)) E) PySem.F.called_set.init.plain PySem.F.entry_set_init (check_set_init_1 hT ?_)) fun r₂ s₂ hr₂ => ?_
      · obtain ⟨ol, hol, hcl, nl, hdl⟩ := hl
        obtain ⟨ocls, odict, odata, oslots⟩ := ol
        simp only at hcl hdl
        subst hcl; subst hdl
        have hol' : (s.heap.push (newSetObj w)).get? l = some { cls := .type "list", dict := odict, data := .seq items nl, slots := oslots } := Heap.get?_push_of_some _ hol
        have hsls := PySem.F.sub_list_set
        have hslf := PySem.F.sub_list_frozenset
        have hne : (Value.type "list" == Value.type "dict") = false := by decide
        have hl1 : (s.heap.push (newSetObj w)).IsList l items := ⟨_, hol', rfl, nl, rfl⟩
        unfold Builtin.«set.__init__» noKeywords Builtin.Frozenset.updateFrom
        generalize hPI : pyIter = PI
        wp_walk
        subst hPI
        refine wpAny_pyIter_list hl1 ?_
        refine wpAny_bind (wpAny_runValue ?_)
        have hlS : l < s.heap.objs.size := Heap.lt_size hol
        have hh3 : A.in1.in1.in1.handled = none := by simp [hh]
        have hneI : l ≠ (s.heap.push (newSetObj w)).objs.size := by
          rw [Heap.size_push]; exact Nat.ne_of_lt (Nat.lt_succ_of_lt hlS)
        have hSf : s.heap.objs.size ∉ [(s.heap.push (newSetObj w)).objs.size, l] := by
          rw [Heap.size_push]; simp only [List.mem_cons, List.mem_singleton, List.not_mem_nil, or_false, not_or]
          exact ⟨Nat.ne_of_lt (Nat.lt_succ_self _), Nat.ne_of_gt hlS⟩
        have hval : ∀ (i : Nat) (v : Value), items[i]? = some v → ∃ t, v = .int ((fun i => ns.getD i 0) i) t := fun i v hv =>
          IntsAre.int_at hi i v (by rw [Array.getElem?_toList]; exact hv)
        refine set_loop ((Walks.list hh3 _ l hneI items).toS) s.heap.objs.size hSf (fun i => ns.getD i 0) hval hb (items.size - 0) 0 _ (by omega) (Nat.zero_le _)
          ⟨⟨_, Heap.get?_push_size _ rfl, rfl, rfl⟩, (hl1.push _)⟩ (fresh_set (Heap.get?_push_of_some _ hS)) ?_
        intro s' hm hS'
        obtain ⟨h', g', d', tk', os'⟩ := s'
        have eg : g' = s.gens := hm.gens
        have ed : d' = s.drawn := hm.drawn
        have eo : os' = s.os := hm.os
        subst eg; subst ed; subst eo
        show wpAny _ _ _ _ _ _
        refine wpAny_pure ?_
        show wpAny _ _ (ret Value.none) _ _ _
        refine wpAny_pure ⟨rfl, h', tk', rfl, hS', fun b o hb e => ?_⟩
        have hb1 : b ≠ s.heap.objs.size := Nat.ne_of_lt hb
        have hb2 : b ≠ (s.heap.push (newSetObj w)).objs.size := by
          rw [Heap.size_push]; exact Nat.ne_of_lt (Nat.lt_succ_of_lt hb)
        exact hm.heap b o (by simp only [List.mem_cons, List.mem_singleton, List.not_mem_nil, or_false, not_or]; exact ⟨hb1, hb2⟩) (Heap.get?_push_of_some _ (Heap.get?_push_of_some _ e))
      · cases r₂ with
        | error e => exact hr₂
        | ok fl₂ =>
          cases fl₂ with
          | ret r =>
            obtain ⟨rfl, h', tk, rfl, hS', hk'⟩ := hr₂
            repeat (any_goals (first | assumption | wp_step))
            exact h _ _ hS' hk'
          | _ => exact hr₂.elim
    | _ => exact hr.elim
end
end L2
namespace L2
open PySem PySem.W PySem.Spec PyProof.Rows
theorem erase_perm {α : Type} : ∀ (xs : List α) (i : Nat) (hi : i < xs.length), (xs[i] :: xs.eraseIdx i).Perm xs
  | [], i, hi => absurd hi (Nat.not_lt_zero _)
  | x :: xs, 0, _ => .refl _
  | x :: xs, i + 1, hi => by
    have hi' : i < xs.length := by simpa using hi
    have ih := erase_perm xs i hi'
    show (xs[i] :: x :: xs.eraseIdx i).Perm (x :: xs)
    exact (List.Perm.swap _ _ _).trans (ih.cons x)
section
variable {prog : Program} {w : World} {A : Around} {E : Value → Shared → Prop} {s : Shared}
theorem choose_any {src : Source} {n : Nat} {Q : Nat → Shared → Prop} (hn : n ≠ 0) (h : ∀ x d, x < n → Q x { s with drawn := d }) : wpAny (model prog w) A (choose src n) Q E s := fun Γ p _ => by
  unfold choose
  rw [Sem.wp_choose]
  exact ⟨hn, h _ _ (Nat.mod_lt _ (Nat.pos_of_ne_zero hn))⟩
theorem draw_any {α : Type} : ∀ (n : Nat) (xs : List α) (s : Shared) {Q : List α → Shared → Prop}, xs.length = n → (∀ ys d, ys.Perm xs → Q ys { s with drawn := d }) → wpAny (model prog w) A (drawOrder n xs) Q E s
  | 0, xs, s, Q, hl, h => by
    have : xs = [] := List.length_eq_zero_iff.mp hl
    subst this
    have := h [] s.drawn (.refl _)
    exact wpAny_pure this
  | n + 1, [], s, Q, hl, h => by simp at hl
  | n + 1, x :: xs, s, Q, hl, h => by
    unfold drawOrder
    refine wpAny_bind (choose_any (by simp) fun i d hi => ?_)
    have e : (x :: xs)[i]? = some (x :: xs)[i] := by simp [hi]
    rw [e]
    dsimp only
    refine wpAny_bind (draw_any n ((x :: xs).eraseIdx i) _ (by rw [List.length_eraseIdx, if_pos hi]; simp at hl ⊢; omega) fun ys d' hp => wpAny_pure ?_)
    refine h _ d' ?_
    exact (hp.cons _).trans (erase_perm _ _ hi)
end
theorem pick_go {α : Type} (next : Nat → Nat) : ∀ (f k : Nat) (left : List α) (out : Array α), left.length = f → (pickOrder.go next f k left out).toList.Perm (out.toList ++ left)
  | 0, k, left, out, hl => by
    have : left = [] := List.length_eq_zero_iff.mp hl
    subst this
    simp [pickOrder.go]
  | f + 1, k, left, out, hl => by
    unfold pickOrder.go
    have hi : next k % left.length < left.length := Nat.mod_lt _ (by omega)
    have e : left[next k % left.length]? = some left[next k % left.length] := by simp [hi]
    rw [e]
    dsimp only
    refine (pick_go next f (k + 1) (left.eraseIdx (next k % left.length)) _ (by rw [List.length_eraseIdx, if_pos hi]; omega)).trans ?_
    rw [Array.toList_push, List.append_assoc]
    exact List.Perm.append_left _ (erase_perm _ _ hi)
theorem pick_perm {α : Type} (next : Nat → Nat) (xs : Array α) : (pickOrder next xs).toList.Perm xs.toList := by
  have := pick_go next xs.size 0 xs.toList #[] (by simp)
  simpa [pickOrder] using this
def SetRaw (h : Heap) (a : Addr) (es : Array (Int × Value)) (ep : Nat) (t : SetTable) : Prop := ∃ o, h.get? a = some o ∧ o.ExactSet ∧ o.data = .set es ep t
theorem SetRaw.at {h h' : Heap} {a : Addr} {es : Array (Int × Value)} {ep : Nat} {t : SetTable} (x : SetRaw h a es ep t) (e : ∀ o, h.get? a = some o → h'.get? a = some o) : SetRaw h' a es ep t := let ⟨o, ho, r⟩ := x; ⟨o, e o ho, r⟩
theorem SetRaw.typeIs {s : Shared} {a : Addr} {es : Array (Int × Value)} {ep : Nat} {t : SetTable} (x : SetRaw s.heap a es ep t) : s.TypeIs (.ref a) "set" := let ⟨o, ho, hc, _⟩ := x; ⟨o, ho, hc.1⟩
def isDrawn (es : Array (Int × Value)) (t : SetTable) : Bool := !t.plain && decide (es.size > 1)
def stand (t : SetTable) : Nat → Nat
  | 0 => 0
  | i + 1 => t.place.getD i 0 + 1
def SIt (w : World) (h : Heap) (I tp a : Addr) (es : Array (Int × Value)) (ep : Nat) (t : SetTable) (out : List Value) (i : Nat) : Prop :=
  ∃ first, (∃ o, h.get? I = some o ∧ o.cls = .type "set_iterator" ∧ o.data = .fields #[first, rawInt i, .ref a, rawInt es.size, rawInt ep]) ∧
    ((byText w = true ∧ first = rawInt 0 ∧ out = (pickOrder (w.params.setOrder a ep) es).toList.map (·.2)) ∨
     (byText w = false ∧ isDrawn es t = true ∧ first = .ref tp ∧ ∃ ps : List Nat, (∃ o n, h.get? tp = some o ∧ o.data = .seq (ps.map fun (p : Nat) => rawInt p).toArray n) ∧ ps.Perm (List.range es.size) ∧ out = ps.map fun p => (es.getD p (0, Value.none)).2) ∨
     (byText w = false ∧ isDrawn es t = false ∧ Walk t ∧ first = rawInt (stand t i) ∧ out = es.toList.map (·.2)))
theorem SIt.perm {w : World} {h : Heap} {I tp a : Addr} {es : Array (Int × Value)} {ep : Nat} {t : SetTable} {out : List Value} {i : Nat} (x : SIt w h I tp a es ep t out i) : out.Perm (es.toList.map (·.2)) := by
  obtain ⟨_, _, ⟨_, _, e⟩ | ⟨_, _, _, ps, _, p, e⟩ | ⟨_, _, _, _, e⟩⟩ := x
  · rw [e]
    exact (pick_perm _ _).map _
  · rw [e]
    have q := p.map fun p => (es.getD p (0, Value.none)).2
    refine q.trans (.of_eq ?_)
    apply List.ext_getElem
    · simp
    · intro i h1 h2
      have hi : i < es.size := by simpa using h1
      simp [Array.getD, hi]
  · rw [e]
section
variable {prog : Program} {w : World} {A : Around} {E : Value → Shared → Prop} {s : Shared} {a : Addr} {es : Array (Int × Value)} {ep : Nat} {t : SetTable}
theorem set_iter_entry : entryFor table "set.__iter__" = some Builtin.«frozenset.__iter__» :=
  entryFor_alias (id' := "frozenset.__iter__") (by kernel_rfl) (by first | rfl | decide +kernel | (unfold String.splitOn; simp +decide [String.splitOnAux])) (by decide +kernel) (by kernel_rfl)
theorem set_next_slot : Slot "set_iterator" "__next__" "set_iterator.__next__" :=
  .of (owner := "set_iterator") (n := "__next__") (by rw [typeLookup_type, builtinLookup_eq_fast]; kernel_rfl) (by decide +kernel) (by decide +kernel) (by decide +kernel)
    (by first | exact .inl (by decide +kernel) | exact .inr (by decide +kernel)) (by rw [isSubtype_type]; kernel_rfl)
theorem set_next_entry : entryFor table "set_iterator.__next__" = some Builtin.«set_iterator.__next__» := entryFor_of_tree (by kernel_rfl)
theorem set_next_args (a : Value) : argsOk "set_iterator.__next__" ⟨[a], []⟩ := by
  unfold argsOk
  kernel_rfl
theorem state_ok {Q : (Array (Int × Value) × Nat × SetTable) → Shared → Prop} (x : SetRaw s.heap a es ep t) (hf : t.fits es.size = true) (h : Q (es, ep, t) s) : wpAny (model prog w) A (setState a) Q E s := by
  obtain ⟨o, ho, _, hd⟩ := x
  exact wpAny_setState_of ho hd hf h
theorem set_iter {Q : Value → Shared → Prop} (x : SetRaw s.heap a es ep t) (hf : t.fits es.size = true) (hz : es.size ≤ sizeLine) (hw : byText w = true ∨ Walk t)
    (h : ∀ (h' : Heap) (d : Drawn) (I tp : Addr) (out : List Value), (∀ b o, s.heap.get? b = some o → h'.get? b = some o) → s.heap.objs.size ≤ I → s.heap.objs.size ≤ tp → tp ≠ I → I < h'.objs.size → SIt w h' I tp a es ep t out 0 → Q (.ref I) { s with heap := h', drawn := d }) :
    wpAny (model prog w) A (pyIter (.ref a)) Q E s := by
  have hT := x.typeIs
  refine wpAny_pyIter_slot hT PySem.F.slot_set_iter (wpAny_call_entry PySem.F.slot_set_iter hT set_iter_entry ?_ (PySem.F.args_set_iter_1 _))
  unfold Builtin.«frozenset.__iter__»
  refine wpAny_bind (m := Builtin.Frozenset.slot0 "__iter__" ⟨[.ref a], []⟩) (wpAny_of_eq (a := a) rfl ?_)
  refine wpAny_bind ?_
  unfold Builtin.Frozenset.sizeOf
  refine wpAny_bind ?_
  unfold setEntries
  refine wpAny_bind (state_ok x hf (wpAny_pure (wpAny_pure ?_)))
  dsimp only
  refine wpAny_bind ?_
  unfold setDrawn
  refine wpAny_bind (state_ok x hf ?_)
  dsimp only
  refine wpAny_bind ?_
  unfold setsByText
  refine wpAny_bind (wpAny_askSetting (wpAny_pure ?_))
  refine wpAny_pure ?_
  show wpAny _ _ (if (!byText w && isDrawn es t) = true then _ else _) _ _ s
  have fin : ∀ (s1 : Shared) (first : Value), (∀ b o, s.heap.get? b = some o → s1.heap.get? b = some o) → s.heap.objs.size ≤ s1.heap.objs.size → (∃ d, s1 = { s with heap := s1.heap, drawn := d }) →
      (∀ h', (∀ b o, s1.heap.get? b = some o → h'.get? b = some o) → h'.get? s1.heap.objs.size = some { cls := .type "set_iterator", data := .fields #[first, rawInt 0, .ref a, rawInt es.size, rawInt ep] } →
        ∃ tp out, s.heap.objs.size ≤ tp ∧ tp ≠ s1.heap.objs.size ∧ SIt w h' s1.heap.objs.size tp a es ep t out 0) →
      wpAny (model prog w) A.in1 (setEpoch a >>= fun e => newFields "set_iterator" [first, rawInt 0, Value.ref a, rawInt es.size, rawInt e] >>= fun v => ret v)
        (fun fin s' => ∃ v, fin = Fin.done (Flow.ret v) ∧ ∃ T' r, s'.TypeIs v T' ∧ typeLookup (Value.type T') (Str.ofString "__next__") = pure (some r) ∧ Q v s') E s1 := by
    intro s1 first k1 k2 k3 k4
    obtain ⟨d, k3⟩ := k3
    have x1 : SetRaw s1.heap a es ep t := x.at fun o e => k1 a o e
    refine wpAny_bind ?_
    unfold setEpoch
    refine wpAny_bind (state_ok x1 hf (wpAny_pure ?_))
    dsimp only
    refine wpAny_bind (m := newFields "set_iterator" [first, rawInt 0, Value.ref a, rawInt es.size, rawInt ep]) ?_
    unfold newFields
    refine wpAny_newObj_type (wpAny_pure ⟨_, rfl, "set_iterator", _, ⟨_, Heap.get?_push_size _ rfl, rfl⟩, set_next_slot.lookup, ?_⟩)
    obtain ⟨tp, out, z1, z3, z2⟩ := k4 (s1.heap.push { cls := .type "set_iterator", data := .fields #[first, rawInt 0, .ref a, rawInt es.size, rawInt ep] }) (fun b o e => Heap.get?_push_of_some _ e) (Heap.get?_push_size _ rfl)
    have := h _ d s1.heap.objs.size tp out (fun b o e => Heap.get?_push_of_some _ (k1 b o e)) k2 z1 z3 (by rw [size_push']; exact Nat.lt_succ_self _) z2
    rw [k3]
    exact this
  cases eb : byText w with
  | true =>
    rw [if_neg (by simp)]
    refine wpAny_bind (wpAny_pure ?_)
    refine fin s (rawInt 0) (fun b o e => e) (Nat.le_refl _) ⟨s.drawn, rfl⟩ fun h' k e => ⟨s.heap.objs.size + 1, _, Nat.le_succ _, Nat.succ_ne_self _, rawInt 0, ⟨_, e, rfl, rfl⟩, .inl ⟨eb, rfl, rfl⟩⟩
  | false =>
    have wk : Walk t := hw.resolve_left (by rw [eb]; decide)
    cases ed : isDrawn es t with
    | false =>
      rw [if_neg (by decide)]
      refine wpAny_bind (wpAny_pure ?_)
      refine fin s (rawInt 0) (fun b o e => e) (Nat.le_refl _) ⟨s.drawn, rfl⟩ fun h' k e => ⟨s.heap.objs.size + 1, _, Nat.le_succ _, Nat.succ_ne_self _, rawInt 0, ⟨_, e, rfl, rfl⟩, .inr (.inr ⟨eb, ed, wk, rfl, rfl⟩)⟩
    | true =>
      rw [if_pos (by decide)]
      refine wpAny_bind (draw_any es.size (List.range es.size) s (by simp) fun ps d hp => ?_)
      refine wpAny_bind (wpAny_newTuple ?_ (by rw [List.length_map, hp.length_eq, List.length_range]; exact hz))
      refine fin _ (.ref s.heap.objs.size) (fun b o e => Heap.get?_push_of_some _ e) (by show s.heap.objs.size ≤ (s.heap.push _).objs.size; rw [size_push']; exact Nat.le_succ _) ⟨d, rfl⟩ fun h' k e => ⟨s.heap.objs.size, _, Nat.le_refl _, (by show s.heap.objs.size ≠ (s.heap.push _).objs.size; rw [size_push']; exact Nat.ne_of_lt (Nat.lt_succ_self _)), .ref s.heap.objs.size, ⟨_, e, rfl, rfl⟩, .inr (.inl ⟨eb, ed, rfl, ps, ⟨_, _, k _ _ (Heap.get?_push_size _ rfl), rfl⟩, hp, rfl⟩)⟩
theorem next_text {slot i : Nat} {Q : Option (Value × Nat) → Shared → Prop} (b : byText w = true) (x : SetRaw s.heap a es ep t) (hf : t.fits es.size = true)
    (h : Q (((pickOrder (w.params.setOrder a ep) es)[i]?).map fun e => (e.2, slot)) s) : wpAny (model prog w) A (setNext a slot i ep) Q E s := by
  unfold setNext
  refine wpAny_bind (state_ok x hf ?_)
  dsimp only
  refine wpAny_bind ?_
  unfold setsByText
  refine wpAny_bind (wpAny_askSetting (wpAny_pure ?_))
  refine wpAny_ite_split (fun _ => ?_) (fun hab => absurd b hab)
  refine wpAny_ite_split (fun hab => absurd hab (by simp)) (fun _ => ?_)
  refine wpAny_bind ?_
  unfold setWalk
  refine wpAny_bind (state_ok x hf ?_)
  dsimp only
  refine wpAny_bind ?_
  unfold setsByText
  refine wpAny_bind (wpAny_askSetting (wpAny_pure ?_))
  refine wpAny_ite_split (fun _ => ?_) (fun hab => absurd b hab)
  refine wpAny_bind (wpAny_askSetting (wpAny_pure (wpAny_pure ?_)))
  exact h
theorem next_led {slot i : Nat} {Q : Option (Value × Nat) → Shared → Prop} (b : byText w = false) (d : isDrawn es t = false) (wk : Walk t) (x : SetRaw s.heap a es ep t) (hf : t.fits es.size = true)
    (h : Q (match es[SetTable.below t.place slot]?, t.place[SetTable.below t.place slot]? with | some (_, x), some j => some (x, j + 1) | _, _ => none) s) : wpAny (model prog w) A (setNext a slot i ep) Q E s := by
  unfold setNext
  refine wpAny_bind (state_ok x hf ?_)
  dsimp only
  refine wpAny_bind ?_
  unfold setsByText
  refine wpAny_bind (wpAny_askSetting (wpAny_pure ?_))
  refine wpAny_ite_split (fun hab => absurd (show byText w = true from hab) (by rw [b]; decide)) (fun _ => ?_)
  refine wpAny_ite_split (fun hab => absurd (show isDrawn es t = true from hab) (by rw [d]; decide)) (fun _ => ?_)
  refine wpAny_bind ?_
  show wpAny _ _ (if (!t.led && !es.isEmpty) = true then _ else _) _ _ s
  rw [if_neg (by rw [wk.2]; simp)]
  refine wpAny_pure ?_
  exact wpAny_pure h
theorem next_drawn {p : Nat} {Q : Value → Shared → Prop} (x : SetRaw s.heap a es ep t) (hf : t.fits es.size = true) (hp : p < es.size) (h : Q (es.getD p (0, Value.none)).2 s) : wpAny (model prog w) A (setNextDrawn a p ep) Q E s := by
  unfold setNextDrawn
  refine wpAny_bind (state_ok x hf ?_)
  dsimp only
  refine wpAny_ite_split (fun hab => absurd hab (by simp)) (fun _ => ?_)
  have e : es[p]? = some (es.getD p (0, Value.none)) := by simp [Array.getD, hp]
  rw [e]
  exact wpAny_pure h
theorem put_field {I : Addr} {o : Obj} {xs : Array Value} {k : Nat} {g : Value} {Q : Unit → Shared → Prop} (ho : s.heap.get? I = some o) (hd : o.data = .fields xs) (hk : k < xs.size)
    (h : ∀ h' o', h'.get? I = some o' → o'.cls = o.cls → o'.data = .fields (xs.setIfInBounds k g) → Heap.SameBut I s.heap h' → Q () { s with heap := h' }) : wpAny (model prog w) A (setField (.ref I) k g) Q E s := by
  refine wpAny_setField ho hd hk ?_
  exact h _ _ (Heap.get?_update_self _ ho (Obj.isFreed_of_fields (Obj.data_mapFields hd _))) (Obj.cls_mapFields ..) (by rw [Obj.data_mapFields hd]) (Heap.SameBut.update ..)
theorem set_next {I tp : Addr} {out : List Value} {i : Nat} {v : Value} {Q : Option Value → Shared → Prop} (x : SetRaw s.heap a es ep t) (hf : t.fits es.size = true) (y : SIt w s.heap I tp a es ep t out i) (hv : out[i]? = some v) (n1 : a ≠ I) (n2 : tp ≠ I)
    (h : ∀ h', SIt w h' I tp a es ep t out (i + 1) → Heap.SameBut I s.heap h' → Q (some v) { s with heap := h' }) : wpAny (model prog w) A (pyNext (.ref I)) Q E s := by
  have hp := y.perm
  obtain ⟨first, ⟨o, ho, hc, hd⟩, y⟩ := y
  have hT : s.TypeIs (.ref I) "set_iterator" := ⟨o, ho, hc⟩
  unfold pyNext
  refine wpAny_bind (wpAny_attempt (wpAny_callSpecial?_slot (name := Str.ofString "__next__") hT set_next_slot (wpAny_call_entry set_next_slot hT set_next_entry ?_ (set_next_args _))))
  unfold Builtin.«set_iterator.__next__»
  refine wpAny_bind (wpAny_of_eq (a := (Value.ref I, [])) rfl ?_)
  refine wpAny_bind (wpAny_fieldsOf ho hd ?_)
  dsimp only [rawInt]
  refine wpAny_bind ?_
  unfold setEntries
  refine wpAny_bind (state_ok x hf (wpAny_pure ?_))
  dsimp only
  rw [if_neg (by simp)]
  rcases y with ⟨b1, rfl, b2⟩ | ⟨b1, b2, rfl, ps, ⟨ot, nt, hot, hdt⟩, pp, b3⟩ | ⟨b1, b2, b3, rfl, b4⟩
  · have hi : (pickOrder (w.params.setOrder a ep) es)[i]?.map (·.2) = some v := by
      rw [b2, List.getElem?_map, Array.getElem?_toList] at hv
      exact hv
    cases e : (pickOrder (w.params.setOrder a ep) es)[i]? with
    | none => rw [e] at hi; cases hi
    | some q =>
      rw [e] at hi
      have hq : q.2 = v := Option.some.inj hi
      refine wpAny_bind (show wpAny _ _ (setNext a 0 i ep) _ _ s from next_text b1 x hf ?_)
      rw [e]
      show wpAny _ _ (setField (Value.ref I) 0 (Value.int (0 : Nat) 0) >>= fun _ => setField (Value.ref I) 1 (Value.int ((i : Int) + 1) 0) >>= fun _ => ret q.2) _ _ s
      refine wpAny_bind (put_field ho hd (by simp) fun h1 o1 g1 g2 g3 s1 => ?_)
      refine wpAny_bind (put_field (s := { s with heap := h1 }) g1 g3 (by simp) fun h2 o2 k1 k2 k3 s2 => ?_)
      rw [hq]
      exact wpAny_pure ⟨_, rfl, wpAny_pure (h h2 ⟨rawInt 0, ⟨o2, k1, k2.trans (g2.trans hc), by rw [k3]; simp [rawInt]⟩, .inl ⟨b1, rfl, b2⟩⟩ (s1.trans s2))⟩
  · have hl : ps.length = es.size := by rw [pp.length_eq, List.length_range]
    have hi : i < ps.length := by
      rw [b3, List.getElem?_map] at hv
      cases e : ps[i]? with
      | none => rw [e] at hv; cases hv
      | some q => exact (List.getElem?_eq_some_iff.mp e).1
    have hv' : v = (es.getD ps[i] (0, Value.none)).2 := by
      rw [b3, List.getElem?_map, List.getElem?_eq_getElem hi] at hv
      exact (Option.some.inj hv).symm
    have hlt : ps[i] < es.size := List.mem_range.mp (pp.mem_iff.mp (List.getElem_mem hi))
    refine wpAny_bind (m := seqItems? (Value.ref tp)) (wpAny_seqItems hot hdt ?_)
    dsimp only
    have e : (List.toArray (ps.map fun (p : Nat) => rawInt (p : Int)))[(i : Int).toNat]? = some (Value.int (ps[i] : Nat) 0) := by simp [hi, rawInt]
    rw [e]
    refine wpAny_bind (show wpAny _ _ (setNextDrawn a ps[i] ep) _ _ s from next_drawn x hf hlt ?_)
    refine wpAny_bind (put_field ho hd (by simp) fun h1 o1 g1 g2 g3 s1 => ?_)
    rw [← hv']
    refine wpAny_pure ⟨_, rfl, wpAny_pure ?_⟩
    exact h h1 ⟨.ref tp, ⟨o1, g1, g2.trans hc, by rw [g3]; simp [rawInt]⟩, .inr (.inl ⟨b1, b2, rfl, ps, ⟨ot, nt, (s1.2 tp n2).trans hot, hdt⟩, pp, b3⟩)⟩ s1
  · have hi : i < es.size := by
      rw [b4, List.getElem?_map] at hv
      cases e : es.toList[i]? with
      | none => rw [e] at hv; cases hv
      | some q =>
        have := (List.getElem?_eq_some_iff.mp e).1
        simpa using this
    have hv' : v = (es[i]).2 := by
      rw [b4, List.getElem?_map, List.getElem?_eq_getElem (by simpa using hi)] at hv
      simpa using (Option.some.inj hv).symm
    have hpl : t.place.size = es.size := by
      unfold SetTable.fits at hf
      simp at hf
      exact hf.1
    have hb : SetTable.below t.place (stand t i) = i := by
      cases i with
      | zero => exact below_zero b3.1
      | succ i => exact below_next b3.1 (by omega)
    refine wpAny_bind (show wpAny _ _ (setNext a (stand t i) i ep) _ _ s from next_led b1 b2 b3 x hf ?_)
    rw [hb, Array.getElem?_eq_getElem hi, Array.getElem?_eq_getElem (by omega)]
    show wpAny _ _ (setField (Value.ref I) 0 (Value.int ((t.place[i]'(by omega) + 1 : Nat)) 0) >>= fun _ => setField (Value.ref I) 1 (Value.int ((i : Int) + 1) 0) >>= fun _ => ret (es[i]).2) _ _ s
    refine wpAny_bind (put_field ho hd (by simp) fun h1 o1 g1 g2 g3 s1 => ?_)
    refine wpAny_bind (put_field (s := { s with heap := h1 }) g1 g3 (by simp) fun h2 o2 k1 k2 k3 s2 => ?_)
    rw [← hv']
    have es' : stand t (i + 1) = t.place[i]'(by omega) + 1 := by
      show t.place.getD i 0 + 1 = _
      rw [Array.getD_eq_getD_getElem?, Array.getElem?_eq_getElem (by omega)]
      rfl
    refine wpAny_pure ⟨_, rfl, wpAny_pure (h h2 ⟨rawInt (stand t (i + 1)), ⟨o2, k1, k2.trans (g2.trans hc), ?_⟩, .inr (.inr ⟨b1, b2, b3, rfl, b4⟩)⟩ (s1.trans s2))⟩
    rw [k3, es']
    simp [rawInt]
theorem stop_iter {Q : Option Value → Shared → Prop} {I : Addr} {h0 : Heap} (hh : A.handled = none) (ex : Heap.ExtBut I h0 s.heap) (h : ∀ h', Heap.ExtBut I h0 h' → Q none { s with heap := h' }) :
    wpAny (model prog w) A.in1 (newExc (.type "StopIteration") [] >>= fun e => (raiseNew e : Sem PySem.Fin)) (fun fin s' => ∃ v, fin = Fin.done (Flow.ret v) ∧ wpAny (model prog w) A (pure (some v)) Q E s')
      (fun e s' => wpAny (model prog w) A (isInstance e (.type "StopIteration") >>= fun b => if b = true then pure none else throw e) Q E s') s := by
  refine wpAny_bind ?_
  simp only [newExc, newTuple]
  refine wpAny_bind (wpAny_newObj_type ?_ (by size_fits))
  refine wpAny_bind (m := firstArgMember _ _) (wpAny_of_eq (a := Value.none) (by first | rfl | (simp only [firstArgMember]; rfl)) ?_)
  refine wpAny_newObj_type ?_ (by size_fits)
  simp only [raiseNew]
  refine wpAny_bind (wpAny_handled ?_)
  rw [show A.in1.handled = none from hh]
  refine wpAny_bind (wpAny_pure (wpAny_throw ?_))
  refine wpAny_bind (wpAny_isInstance (T := "StopIteration") (b := true) ⟨_, Heap.get?_push_size _ rfl, rfl⟩ isSubtype_stop ?_)
  exact wpAny_pure (h _ ((ex.push _).push _))
theorem set_end {I tp : Addr} {out : List Value} {Q : Option Value → Shared → Prop} (hh : A.handled = none) (x : SetRaw s.heap a es ep t) (hf : t.fits es.size = true) (y : SIt w s.heap I tp a es ep t out es.size)
    (h : ∀ h', Heap.ExtBut I s.heap h' → Q none { s with heap := h' }) : wpAny (model prog w) A (pyNext (.ref I)) Q E s := by
  obtain ⟨first, ⟨o, ho, hc, hd⟩, y⟩ := y
  have hT : s.TypeIs (.ref I) "set_iterator" := ⟨o, ho, hc⟩
  unfold pyNext
  refine wpAny_bind (wpAny_attempt (wpAny_callSpecial?_slot (name := Str.ofString "__next__") hT set_next_slot (wpAny_call_entry set_next_slot hT set_next_entry ?_ (set_next_args _))))
  unfold Builtin.«set_iterator.__next__»
  refine wpAny_bind (wpAny_of_eq (a := (Value.ref I, [])) rfl ?_)
  refine wpAny_bind (wpAny_fieldsOf ho hd ?_)
  dsimp only [rawInt]
  refine wpAny_bind ?_
  unfold setEntries
  refine wpAny_bind (state_ok x hf (wpAny_pure ?_))
  dsimp only
  rw [if_neg (by simp)]
  rcases y with ⟨b1, rfl, b2⟩ | ⟨b1, b2, rfl, ps, ⟨ot, nt, hot, hdt⟩, pp, b3⟩ | ⟨b1, b2, b3, rfl, b4⟩
  · have hz : (pickOrder (w.params.setOrder a ep) es).size = es.size := by
      have := (pick_perm (w.params.setOrder a ep) es).length_eq
      simpa using this
    refine wpAny_bind (show wpAny _ _ (setNext a 0 es.size ep) _ _ s from next_text b1 x hf ?_)
    rw [Array.getElem?_eq_none (by omega)]
    show wpAny _ _ (setField (Value.ref I) 2 Value.none >>= fun _ => newExc (.type "StopIteration") [] >>= fun e => raiseNew e) _ _ s
    refine wpAny_bind (put_field ho hd (by simp) fun h1 o1 g1 g2 g3 s1 => ?_)
    exact stop_iter (s := { s with heap := h1 }) hh s1.extBut fun h' e => h h' e
  · have hl : ps.length = es.size := by rw [pp.length_eq, List.length_range]
    refine wpAny_bind (m := seqItems? (Value.ref tp)) (wpAny_seqItems hot hdt ?_)
    dsimp only
    have e : (List.toArray (ps.map fun (p : Nat) => rawInt (p : Int)))[(es.size : Int).toNat]? = none := by simp [hl]
    rw [e]
    refine wpAny_bind (put_field ho hd (by simp) fun h1 o1 g1 g2 g3 s1 => ?_)
    refine wpAny_bind (put_field (s := { s with heap := h1 }) g1 g3 (by simp) fun h2 o2 k1 k2 k3 s2 => ?_)
    exact stop_iter (s := { s with heap := h2 }) hh (s1.trans s2).extBut fun h' e => h h' e
  · have hpl : t.place.size = es.size := by
      unfold SetTable.fits at hf
      simp at hf
      exact hf.1
    have hb : SetTable.below t.place (stand t es.size) = es.size := by
      cases e : es.size with
      | zero => exact below_zero b3.1
      | succ i => exact below_next b3.1 (by omega)
    refine wpAny_bind (show wpAny _ _ (setNext a (stand t es.size) es.size ep) _ _ s from next_led b1 b2 b3 x hf ?_)
    rw [hb, Array.getElem?_eq_none (Nat.le_refl _)]
    show wpAny _ _ (setField (Value.ref I) 2 Value.none >>= fun _ => newExc (.type "StopIteration") [] >>= fun e => raiseNew e) _ _ s
    refine wpAny_bind (put_field ho hd (by simp) fun h1 o1 g1 g2 g3 s1 => ?_)
    exact stop_iter (s := { s with heap := h1 }) hh s1.extBut fun h' e => h h' e
theorem SIt.at {h h' : Heap} {I tp : Addr} {out : List Value} {i : Nat} (x : SIt w h I tp a es ep t out i) (e1 : ∀ o, h.get? I = some o → h'.get? I = some o) (e2 : ∀ o, h.get? tp = some o → h'.get? tp = some o) : SIt w h' I tp a es ep t out i := by
  obtain ⟨f, ⟨o, ho, hc⟩, ⟨b1, b2⟩ | ⟨b1, b2, b3, ps, ⟨ot, nt, hot, hdt⟩, b4⟩ | ⟨b1, b2⟩⟩ := x
  · exact ⟨f, ⟨o, e1 o ho, hc⟩, .inl ⟨b1, b2⟩⟩
  · exact ⟨f, ⟨o, e1 o ho, hc⟩, .inr (.inl ⟨b1, b2, b3, ps, ⟨ot, nt, e2 ot hot, hdt⟩, b4⟩)⟩
  · exact ⟨f, ⟨o, e1 o ho, hc⟩, .inr (.inr ⟨b1, b2⟩)⟩
theorem SIt.typeIs {s : Shared} {I tp : Addr} {out : List Value} {i : Nat} (x : SIt w s.heap I tp a es ep t out i) : s.TypeIs (.ref I) "set_iterator" := by
  obtain ⟨f, ⟨o, ho, hc, _⟩, _⟩ := x
  exact ⟨o, ho, hc⟩
theorem seti_iter_slot : Slot "set_iterator" "__iter__" "set_iterator.__iter__" :=
  .of (owner := "set_iterator") (n := "__iter__") (by rw [typeLookup_type, builtinLookup_eq_fast]; kernel_rfl) (by decide +kernel) (by decide +kernel) (by decide +kernel)
    (by first | exact .inl (by decide +kernel) | exact .inr (by decide +kernel)) (by rw [isSubtype_type]; kernel_rfl)
theorem seti_iter_entry : entryFor table "set_iterator.__iter__" = some Builtin.«dict_keyiterator.__iter__» :=
  entryFor_alias (id' := "dict_keyiterator.__iter__") (by kernel_rfl) (by first | rfl | decide +kernel | (unfold String.splitOn; simp +decide [String.splitOnAux])) (by decide +kernel) (by kernel_rfl)
theorem seti_iter_args (a : Value) : argsOk "set_iterator.__iter__" ⟨[a], []⟩ := by
  unfold argsOk
  kernel_rfl
theorem set_walks {I tp : Addr} {out : List Value} (hh : A.handled = none) (hf : t.fits es.size = true) (n1 : a ≠ I) (n2 : tp ≠ I) :
    Walks prog w A I [I, a, tp] [I] es.size (fun i v => out[i]? = some v) (fun i h => SIt w h I tp a es ep t out i ∧ SetRaw h a es ep t) where
  sub := fun b hb => by simp at hb; simp [hb]
  frame := fun _ _ _ st hk => ⟨st.1.at (fun o e => hk I (by simp) o e) (fun o e => hk tp (by simp) o e), st.2.at fun o e => hk a (by simp) o e⟩
  item := fun i s Q E hi st hQ => by
    have hl : out.length = es.size := by rw [st.1.perm.length_eq]; simp
    refine set_next (v := out[i]) st.2 hf st.1 (by simp [hl, hi]) n1 n2 fun h' it' hs' => ?_
    exact hQ _ h' s.toks (by simp [hl, hi]) ⟨it', st.2.at fun o q => hs'.extBut a o n1 q⟩ fun b o hb q => hs'.extBut b o (fun h => hb (by simp [h])) q
  done := fun s Q E st hQ => set_end hh st.2 hf st.1 fun h' he' => hQ h' s.toks fun b o hb q => he' b o (fun h => hb (by simp [h])) q
  self := fun i s Q E st hQ => by
    refine wpAny_pyIter_slot st.1.typeIs seti_iter_slot (wpAny_call_entry seti_iter_slot st.1.typeIs seti_iter_entry ?_ (seti_iter_args _))
    show wpAny _ _ (ret (.ref I)) _ _ s
    exact wpAny_pure ⟨_, rfl, "set_iterator", _, st.1.typeIs, set_next_slot.lookup, hQ⟩
theorem set_hint {r : Addr} {Q : Bool → Shared → Prop} (hT : s.TypeIs (.ref r) "set") (h : Q false s) : wpAny (model prog w) A (Builtin.List.listLengthHint (.ref r)) Q E s := by
  unfold Builtin.List.listLengthHint
  refine wpAny_bind (wpAny_specialOf hT PySem.F.slot_set_len.lookup ?_)
  generalize hid : ("set.__len__" : String) = id0
  wp_delta
  rw [show splitId id0 = some ("set", "__len__") from by subst hid; decide +kernel]
  subst hid
  refine wpAny_bind (wpAny_isInstance (T := "set") (b := true) hT (by rw [isSubtype_type]; kernel_rfl) ?_)
  refine wpAny_ite_split (fun hab => absurd hab (by decide)) (fun _ => ?_)
  refine wpAny_ite_split (fun _ => ?_) (fun hab => absurd (by decide +kernel) hab)
  refine wpAny_bind (wpAny_typeOf hT ?_)
  exact wpAny_pure h
theorem items_out {out : List Value} {acc : Array Value} (hl : out.length = es.size) (h : ItemsOf (fun i v => out[i]? = some v) acc es.size) : acc.toList = out := by
  obtain ⟨h1, h2⟩ := h
  apply List.ext_getElem?
  intro i
  by_cases hi : i < acc.size
  · have := h2 i acc[i] (by simp [hi])
    rw [this]
    simp [hi]
  · rw [List.getElem?_eq_none (by simpa using Nat.le_of_not_lt hi), List.getElem?_eq_none (by omega)]
theorem set_collect {l : List Int} {R : List Value → Shared → Prop} (x : SetI prog w s.heap a l) (hh : A.handled = none)
    (h : ∀ (h' : Heap) (tk : Nat) (d : Drawn) (vs : List Value) (ms : List Int), IntsAre vs ms → ms.Perm l → (∀ b o, s.heap.get? b = some o → h'.get? b = some o) → s.heap.objs.size < h'.objs.size → R vs { s with heap := h', toks := tk, drawn := d }) :
    wpAny (model prog w) A (collect (.ref a)) R E s := by
  obtain ⟨o, es, ep, t, ms, ho, hex, hd, hel, hi, hp, hb, hf, hw⟩ := x
  have raw : SetRaw s.heap a es ep t := ⟨o, ho, hex, hd⟩
  have hz := fits_of_scanBound hb
  have hlt : a < s.heap.objs.size := Heap.lt_size ho
  unfold collect
  refine wpAny_bind (wpAny_runValue (codeAny_builtin entry_proto_collect' ?_))
  rw [Around.under_plainId PySem.F.plain_proto_collect _]
  show wpAny _ A.in1 (newList [] >>= fun l => again (.builtin "list.__iadd__" ⟨[l, .ref a], []⟩)) _ _ s
  refine wpAny_bind (wpAny_newObj_type ?_)
  refine wpAny_pure ⟨plainId_quiet PySem.F.plain_list_iadd _, codeAny_builtin entry_list_iadd' ?_⟩
  rw [Around.under_plainId PySem.F.plain_list_iadd _]
  have hS₁ : (s.heap.push { cls := .type "list", data := .seq ([] : List Value).toArray }).get? s.heap.objs.size = some { cls := .type "list", data := .seq #[] } := Heap.get?_push_size _ rfl
  show wpAny _ A.in1 (Builtin.List.listExtendWith (.ref s.heap.objs.size) (.ref a) (.ref s.heap.objs.size)) _ _ _
  have raw1 : SetRaw (s.heap.push { cls := .type "list", data := .seq ([] : List Value).toArray }) a es ep t := raw.at fun o e => Heap.get?_push_of_some _ e
  unfold Builtin.List.listExtendWith
  refine wpAny_bind (wpAny_typeOf (T := "set") (SetRaw.typeIs (s := { s with heap := s.heap.push { cls := .type "list", data := .seq ([] : List Value).toArray } }) raw1) ?_)
  have h1 : Builtin.List.listSameRef (.ref s.heap.objs.size) (.ref a) = false := by simp [Builtin.List.listSameRef, Nat.ne_of_gt hlt]
  simp only [h1, show (Value.type "set" == Value.type "list") = false by decide, show (Value.type "set" == Value.type "tuple") = false by decide, Bool.or_false, Bool.false_eq_true, if_false]
  refine wpAny_bind (set_iter (s := { s with heap := s.heap.push { cls := .type "list", data := .seq ([] : List Value).toArray } }) raw1 hf hz hw fun h2 d I tp out k2 gI gtp n2 ltI it => ?_)
  have sz1 : (s.heap.push { cls := .type "list", data := .seq ([] : List Value).toArray }).objs.size = s.heap.objs.size + 1 := size_push' _ _
  have gI' : s.heap.objs.size + 1 ≤ I := by rw [← sz1]; exact gI
  have gtp' : s.heap.objs.size + 1 ≤ tp := by rw [← sz1]; exact gtp
  have raw2 : SetRaw h2 a es ep t := raw1.at fun o e => k2 a o e
  have hS₂ := k2 _ _ hS₁
  have hSf : s.heap.objs.size ∉ [I, a, tp] := by
    simp only [List.mem_cons, List.not_mem_nil, or_false, not_or]
    exact ⟨Nat.ne_of_lt (Nat.lt_of_lt_of_le (Nat.lt_succ_self _) gI'), Nat.ne_of_gt hlt, Nat.ne_of_lt (Nat.lt_of_lt_of_le (Nat.lt_succ_self _) gtp')⟩
  have n1 : a ≠ I := Nat.ne_of_lt (Nat.lt_of_lt_of_le (Nat.lt_succ_of_lt hlt) gI')
  have hl : out.length = es.size := by rw [it.perm.length_eq]; simp
  obtain ⟨ms', i', p'⟩ := ints_perm it.perm hi
  have W := (set_walks (prog := prog) (w := w) (A := A.in1) (out := out) (ep := ep) hh hf n1 n2).toS
  have key : ∀ (h3 : Heap) (c₁ tk : Nat), SIt w h3 I tp a es ep t out 0 → SetRaw h3 a es ep t → (∀ b o, b ≠ s.heap.objs.size → h2.get? b = some o → h3.get? b = some o) → h3.get? s.heap.objs.size = some { cls := .type "list", data := .seq #[] c₁ } →
      codeAny (model prog w) A (.builtin "list.extend.loop" ⟨[.ref s.heap.objs.size, .ref I, .ref s.heap.objs.size], []⟩)
        (wants (fun v s' => v = .ref s.heap.objs.size ∧ ∃ h' tk' c', s' = { s with heap := h', toks := tk', drawn := d } ∧ (∀ b o, s.heap.get? b = some o → h'.get? b = some o) ∧ h'.get? s.heap.objs.size = some { cls := .type "list", dict := none, data := .seq out.toArray c', slots := #[] }) (fun _ _ => False))
        { s with heap := h3, toks := tk, drawn := d } := by
    intro h3 c₁ tk it3 raw3 k3 hS₃
    refine codeAny_extend_loopS W hz _ hSf _ es.size 0 _ #[] c₁ rfl (Nat.zero_le _) ⟨it3, raw3⟩ hS₃ (ItemsOf.nil _) fun s' acc' c' hm hS' hacc => ?_
    have ea : acc' = out.toArray := by rw [← items_out hl hacc]
    refine ⟨rfl, s'.heap, s'.toks, c', ?_, fun b o e => ?_, by rw [← ea]; exact hS'⟩
    · have := Moved.eq_with (wr := s.heap.objs.size :: [I]) hm
      rw [this]
    · have lb : b < s.heap.objs.size := Heap.lt_size e
      refine hm.heap b o ?_ (k3 b o (Nat.ne_of_lt lb) (k2 b o (Heap.get?_push_of_some _ e)))
      simp only [List.mem_cons, List.not_mem_nil, or_false, not_or]
      exact ⟨Nat.ne_of_lt lb, Nat.ne_of_lt (Nat.lt_of_lt_of_le (Nat.lt_succ_of_lt lb) gI')⟩
  refine wpAny_bind (wpAny_holding (set_hint (SetRaw.typeIs (s := { s with heap := h2, drawn := d }) raw2) ?_))
  have oth : ∀ (h3 : Heap) (g : Obj → Obj) b o, b ≠ s.heap.objs.size → h3.get? b = some o → (h3.update s.heap.objs.size g).get? b = some o := fun h3 g b o hb e => (Heap.get?_update_other _ _ (Ne.symm hb)).trans e
  refine wpAny_ite_split (fun _ => ?_) (fun _ => wpAny_pure ⟨plainId_quiet PySem.F.plain_extend_loop _, codeAny_mono (key h2 0 _ it raw2 (fun b o _ e => e) hS₂) ?_⟩)
  · refine wpAny_bind (wpAny_rule ?_)
    refine wpAny_bind ?_
    show wpAny _ _ (updateSeq s.heap.objs.size (·.push .none) >>= fun _ => updateSeq s.heap.objs.size (·.pop)) _ _ _
    refine wpAny_bind (wpAny_updateSeq hS₂ rfl ?_)
    have hS₃ := Heap.get?_update_self (Obj.mapSeq (·.push Value.none)) hS₂ rfl
    refine wpAny_updateSeq (hz := by seq_fits) hS₃ rfl ?_
    have hS₄ := Heap.get?_update_self (Obj.mapSeq (·.pop)) hS₃ rfl
    have k4 : ∀ b o, b ≠ s.heap.objs.size → h2.get? b = some o → ((h2.update s.heap.objs.size (Obj.mapSeq (·.push Value.none))).update s.heap.objs.size (Obj.mapSeq (·.pop))).get? b = some o := fun b o hb e => oth _ _ b o hb (oth _ _ b o hb e)
    have nI : I ≠ s.heap.objs.size := Nat.ne_of_gt (Nat.lt_of_lt_of_le (Nat.lt_succ_self _) gI')
    have ntp : tp ≠ s.heap.objs.size := Nat.ne_of_gt (Nat.lt_of_lt_of_le (Nat.lt_succ_self _) gtp')
    refine wpAny_pure ⟨plainId_quiet PySem.F.plain_extend_loop _, codeAny_mono (key _ _ _ (it.at (fun o e => k4 I o nI e) (fun o e => k4 tp o ntp e)) (raw2.at fun o e => k4 a o (Nat.ne_of_lt hlt) e) k4 hS₄) ?_⟩
    intro q s₂ y
    cases q with
    | error e => exact y.elim
    | ok fl =>
      cases fl with
      | ret v =>
        obtain ⟨rfl, h', tk', c', rfl, hk, hS'⟩ := y
        show wpAny _ A (load s.heap.objs.size >>= _) _ _ _
        refine wpAny_bind (wpAny_load hS' ?_)
        exact wpAny_pure (h h' tk' d out ms' i' (p'.trans hp) hk (Heap.lt_size hS'))
      | _ => exact y.elim
  · intro q s₂ y
    cases q with
    | error e => exact y.elim
    | ok fl =>
      cases fl with
      | ret v =>
        obtain ⟨rfl, h', tk', c', rfl, hk, hS'⟩ := y
        show wpAny _ A (load s.heap.objs.size >>= _) _ _ _
        refine wpAny_bind (wpAny_load hS' ?_)
        exact wpAny_pure (h h' tk' d out ms' i' (p'.trans hp) hk (Heap.lt_size hS'))
      | _ => exact y.elim
theorem sorted_set {l : List Int} {R : Value → Shared → Prop} (x : SetI prog w s.heap a l) (hh : A.handled = none) (h64 : l.length < 64)
    (h : ∀ (h' : Heap) (tk : Nat) (d : Drawn) (L : Addr) (c : Nat) (out : Array Value) (ns : List Int), IntsAre out.toList ns → ns.Perm l → ns.Pairwise (· ≤ ·) → (∀ b o, s.heap.get? b = some o → h'.get? b = some o) → s.heap.objs.size ≤ L →
      h'.get? L = some (seqObj "list" out c) → R (.ref L) { s with heap := h', toks := tk, drawn := d }) :
    wpAny (model prog w) A (call (.builtin "sorted") [.ref a]) R E s := by
  refine Calls.call_function_entry kind_sorted plain_sorted entry_sorted (args_sorted1 _) ?_
  unfold Builtin.«sorted»
  refine wpAny_bind (m := checkCount "sorted" 1 1 _) (wpAny_pure ?_)
  refine wpAny_bind (set_collect (A := A.in1) x hh fun h' tk d vs ms iv pm hk ge => ?_)
  have hl : vs.length < 64 := by rw [iv.length, pm.length_eq]; exact h64
  refine wpAny_bind (wpAny_newList ?_ (by rw [sizeLine_eq]; omega))
  have ho : (h'.push (seqObj "list" vs.toArray 0)).get? h'.objs.size = some (seqObj "list" vs.toArray 0) := Heap.get?_push_size _ rfl
  refine wpAny_bind (wpAny_holding (wpAny_call_entry slot_list_sort ⟨_, ho, rfl⟩ entry_list_sort (list_sort_tree (s := { s with heap := h'.push (seqObj "list" vs.toArray 0), toks := tk, drawn := d }) ho iv hl fun out ns i1 i2 i3 => ⟨_, rfl, ?_⟩) (args_list_sort _)))
  obtain ⟨e, he⟩ := sortedHeap_at (out := out) ho
  refine wpAny_pure ⟨_, rfl, h _ tk d _ e out ns i1 (i2.trans pm) i3 (fun b o q => ?_) (Nat.le_of_lt ge) he⟩
  have k1 : (h'.push (seqObj "list" vs.toArray 0)).get? b = some o := Heap.get?_push_of_some _ (hk b o q)
  rw [sortedHeap_old (Nat.ne_of_lt (Heap.lt_size (hk b o q))) (Heap.lt_size k1)]
  exact k1
end
end L2
namespace L2
open PySem PySem.W PySem.Spec PyProof.Rows
theorem fm_nodup (val : Nat → Int) : ∀ i, (firstMet val i).Nodup
  | 0 => by rw [firstMet_zero]; exact List.nodup_nil
  | i + 1 => by
    rw [firstMet_succ]
    unfold step_dedup
    have ih := fm_nodup val i
    split
    · exact ih
    · rename_i c
      refine List.nodup_append.mpr ⟨ih, by simp, fun a ha b hb e => ?_⟩
      have : b = val i := by simpa using hb
      subst this
      exact c (List.any_eq_true.mpr ⟨a, ha, by simp [e]⟩)
theorem range_getD (ns : List Int) : (List.range ns.length).map (fun i => ns.getD i 0) = ns := by
  apply List.ext_getElem
  · simp
  · intro i h1 h2
    simp [h2]
theorem fm_mem {ns : List Int} {z : Int} : z ∈ firstMet (fun i => ns.getD i 0) ns.length ↔ z ∈ ns := by
  have e := firstMet_any (fun i => ns.getD i 0) ns.length z
  rw [range_getD] at e
  constructor
  · intro h
    have a : (firstMet (fun i => ns.getD i 0) ns.length).any (· == z) = true := List.any_eq_true.mpr ⟨z, h, by simp⟩
    rw [e] at a
    obtain ⟨y, hy, ey⟩ := List.any_eq_true.mp a
    have : y = z := by simpa using ey
    exact this ▸ hy
  · intro h
    have a : ns.any (· == z) = true := List.any_eq_true.mpr ⟨z, h, by simp⟩
    rw [← e] at a
    obtain ⟨y, hy, ey⟩ := List.any_eq_true.mp a
    have : y = z := by simpa using ey
    exact this ▸ hy
theorem lt_of_le_nodup : ∀ {l : List Int}, l.Pairwise (· ≤ ·) → l.Nodup → l.Pairwise (· < ·)
  | [], _, _ => .nil
  | x :: l, h, n => by
    rw [List.pairwise_cons] at h ⊢
    rw [List.nodup_cons] at n
    exact ⟨fun y hy => by
      have a := h.1 y hy
      have b : x ≠ y := fun e => n.1 (e ▸ hy)
      omega, lt_of_le_nodup h.2 n.2⟩
section
variable {X : Cx} {e : Expr} {te : TE} {p p2 pos pos2 : Pos}
theorem Inv.draw {pins : List (Addr × Obj)} {σ : St} {H : Hp} {s : Shared} (I : Inv X pins σ H s) (d : Drawn) : Inv X pins σ H { s with drawn := d } :=
  ⟨I.ok, I.os, I.bare, I.base, I.loc, I.cell, I.free, I.freeC, I.pin, I.hok, I.len⟩
def tSortedSet (K : PySem.W.Frag) (te : TE) : TE := fun σ H Q => te σ H fun x H1 => ∃ (a : Addr) (ns : List Int), x = .ref a ∧ SqL K H1 a (ns.map V.int) ∧ ns.length < 64 ∧
  ∀ (l : Addr) (ms : List Int), ms.Pairwise (· < ·) → (∀ z, z ∈ ms ↔ z ∈ ns) → H1 l = none → Q (.ref l) (upd H1 l (.lst (ms.map V.int)))
theorem pe_sortedset (hc : X.calm = true) (hg : Gl X "sorted") (hm : X.mg "sorted" = none) (hg2 : Gl X "set") (hm2 : X.mg "set" = none) (he : PE X e te)
    (hs : starEach [e] X.env = [(false, eval e X.env)] := by rfl)
    (hs2 : starEach [(.Call (.Name "set" p2) [e] [] pos2 : Expr)] X.env = [(false, eval (.Call (.Name "set" p2) [e] [] pos2) X.env)] := by rfl) :
    PE X (.Call (.Name "sorted" p) [.Call (.Name "set" p2) [e] [] pos2] [] pos) (tSortedSet X.K te) := by
  intro pins s σ H Q I h
  refine wpAny_Call_Name_kw (ld_blt I hg hm boot_sorted ?_ (by decide) (by decide))
  refine callWith_builtin1 ?_ hs2 rfl
  rw [hs2]
  refine Calls.spliced_cons ?_
  refine wpAny_Call_Name_kw (ld_blt I hg2 hm2 boot_set ?_ (by decide) (by decide))
  refine callWith_type1 ?_ hs rfl
  rw [hs]
  refine Calls.spliced_cons (thn (he pins s σ H _ I h) fun u s1 ⟨x, H1, I1, r1, a, ns, hx, hq, h64, q⟩ => ?_)
  subst hx
  cases r1
  refine Calls.spliced_nil ?_
  obtain ⟨its, rv, pl, hz⟩ := I1.list hq
  have hi := intsAre_of rv
  have hlen : its.length = ns.length := hi.length
  refine set_of_list (items := its.toArray) (ns := ns) (I1.ok.hd hc) pl.isList (by simpa using hi) (by rw [List.size_toArray, hlen]; unfold scanBound; omega) fun h2 tk2 hS k2 => ?_
  refine Calls.spliced_nil ?_
  have ez : its.toArray.size = ns.length := by rw [List.size_toArray]; exact hlen
  rw [ez] at hS
  have l64 : (firstMet (fun i => ns.getD i 0) ns.length).length < 64 := by
    have := firstMet_length_le (fun i => ns.getD i 0) ns.length
    omega
  have lt2 : s1.heap.objs.size < h2.objs.size := by
    obtain ⟨o, _, _, _, _, ho, _⟩ := hS
    exact Heap.lt_size ho
  refine sorted_set (s := { s1 with heap := h2, toks := tk2 }) hS (I1.ok.hd hc) l64 fun h3 tk3 d L c out ms i1 i2 i3 k3 gL hL => ?_
  have kp : ∀ b o, s1.heap.get? b = some o → h3.get? b = some o := fun b o q => k3 b o (k2 b o (Heap.lt_size q) q)
  have ge : s1.heap.objs.size ≤ L := Nat.le_trans (Nat.le_of_lt lt2) gL
  refine ⟨.ref L, _, (I1.laid (t' := tk3) kp ge (show ObjOk X.prog X.w _ h3 _ (.lst (ms.map V.int)) from ⟨?_, out.toList, c, vals_ints i1, hL⟩)).draw d, rfl, q L ms (lt_of_le_nodup i3 (i2.nodup_iff.mpr (fm_nodup _ _))) (fun z => i2.mem_iff.trans fm_mem) (I1.hok.fresh ge)⟩
  rw [List.length_map, i2.length_eq, sizeLine_eq]
  omega
end
end L2
namespace L2
open PySem PySem.Spec PyProof.Rows
section
variable {X : Cx} {pins : List (Addr × Obj)} {σ : St} {H : Hp} {s : Shared} {h' : Heap}
theorem Inv.turnedAll {t' : Nat} {fp : List Addr} (I : Inv X pins σ H s) (k : ∀ b o, b ∉ fp → s.heap.get? b = some o → h'.get? b = some o) (hf : ∀ b ∈ fp, FpOk X pins H b) : Inv X pins σ H { s with heap := h', toks := t' } := by
  have nin : ∀ b u, H b = some u → b ∉ fp := fun b u e z => by rw [(hf b z).1] at e; cases e
  refine I.step (g' := s.gens) (d' := s.drawn) (ch := fp) (fun b hb => ?_) (fun b o _ _ hc e _ => k b o hc e) (fun b o _ _ hc e _ => ⟨o.slots, k b o hc e⟩) (fun _ _ _ _ n => n)
    (fun b o hc e => ⟨o, k b o hc e⟩) (fun _ _ e => e) (fun _ _ _ e => e) (fun b ps e => ⟨#[], by rw [e]; simp⟩) (fun m hm => ?_) (fun b u e => ?_) I.bare
  · obtain ⟨_, f1, _, f3, f4, f5⟩ := hf b hb
    exact ⟨f3, f1, f4, f5⟩
  · obtain ⟨o, es, ep, ho, r⟩ := hm
    exact ⟨o, es, ep, k _ o (fun z => (hf _ z).2.1 rfl) ho, r⟩
  · refine (I.hok b u e).stay (fun c v hc q => k c v ?_ q) (fun _ q => q) fun _ _ q => q
    rcases hc with z | z
    · rw [z]; exact nin b u e
    · exact nin c _ z
theorem Inv.laidTurned {t' : Nat} {fp : List Addr} {a : Addr} {o : HO} (I : Inv X pins σ H s) (k : ∀ b u, b ∉ fp → s.heap.get? b = some u → h'.get? b = some u) (hf : ∀ b ∈ fp, FpOk X pins H b) (hp : s.heap.objs.size ≤ a)
    (new : ObjOk X.prog X.w (upd H a o) h' a o) : Inv X pins σ (upd H a o) { s with heap := h', toks := t' } := by
  have nin : ∀ b u, H b = some u → b ∉ fp := fun b u e z => by rw [(hf b z).1] at e; cases e
  have hn : H a = none := I.hok.fresh hp
  refine I.step (g' := s.gens) (d' := s.drawn) (ch := fp) (fun b hb => ?_) (fun b o _ _ hc e _ => k b o hc e) (fun b o _ _ hc e _ => ⟨o.slots, k b o hc e⟩)
    (fun b u _ q n => by rw [upd_ne (Nat.ne_of_lt (Nat.lt_of_lt_of_le (Heap.lt_size q) hp))]; exact n)
    (fun b o hc e => ⟨o, k b o hc e⟩) (fun b xs q => by rw [upd_ne (ne_of_none q hn)]; exact q) (fun b u xs q => by rw [upd_ne (ne_of_none q hn)]; exact q) (fun b ps q => ⟨#[], by rw [upd_ne (ne_of_none q hn), q]; simp⟩) (fun m hm => ?_) (fun b u e => ?_) I.bare
  · obtain ⟨_, f1, _, f3, f4, f5⟩ := hf b hb
    exact ⟨f3, f1, f4, f5⟩
  · obtain ⟨o, es, ep, ho, r⟩ := hm
    exact ⟨o, es, ep, k _ o (fun z => (hf _ z).2.1 rfl) ho, r⟩
  · by_cases hb : b = a
    · subst hb; rw [upd_same] at e; cases e; exact new
    · rw [upd_ne hb] at e
      refine (I.hok b u e).stay (fun c v hc q => k c v ?_ q) (fun c q => by rw [upd_ne (ne_of_none q hn)]; exact q) fun c xs q => by rw [upd_ne (ne_of_none q hn)]; exact q
      rcases hc with z | z
      · rw [z]; exact nin b u e
      · exact nin c _ z
end
def Ite (K : PySem.W.Frag) (a : Addr) : It :=
  ⟨fun i H => ∃ xs x, SqL K H a xs ∧ xs[i]? = some x, fun i H x H' => ∃ T y, x = .ref T ∧ H T = none ∧ H' = upd H T (.tup [.int (i : Int), y]) ∧ ∀ xs, SqL K H a xs → xs[i]? = some y, fun i H => ∃ xs, SqL K H a xs ∧ xs.length ≤ i⟩
theorem turn_enum {P : Program} {w : World} {K : PySem.W.Frag} {es : List Expr} {k : Nat} {pos : Pos} (a e it : Addr) (hne : e ≠ it) :
    Turn P w K (.Tuple es k pos) (Ite K a) [e, it] e (fun i h => (∃ old, IsEnum h e it (i : Nat) old) ∧ h.IsListIter it a i) where
  mem := by simp
  obj := fun i h st b hb => by
    obtain ⟨⟨old, he⟩, o, e1, c, d⟩ := st
    rcases List.mem_cons.mp hb with z | z
    · subst z
      exact ⟨_, he, fun v z => by cases (show Data.fields _ = Data.cell v from z)⟩
    · have z' : b = it := by simpa using z
      subst z'
      exact ⟨o, e1, fun v z => by rw [d] at z; cases z⟩
  keep := fun i h h' st kk => by
    obtain ⟨⟨old, he⟩, st⟩ := st
    exact ⟨⟨old, kk e (by simp) _ he⟩, st.at fun o q => kk it (by simp) o q⟩
  item := by
    intro X hP hw hK hc i pins s σ H E I hf st hg
    subst hP hw hK
    obtain ⟨xs, x, hq, hx⟩ := hg
    obtain ⟨its, rv, p, hz⟩ := I.list hq
    obtain ⟨u, hu, ru⟩ := rv.get hx
    obtain ⟨⟨old, he⟩, hit⟩ := st
    refine wpAny_pyNext_enum_item he hit p.isList (x := u) (by simpa using hu) hne fun h1 ho hit1 hT hsz hk => ⟨_, rfl, ?_⟩
    refine wpAny_letOwnedTupleGo_enum ho fun h2 he2 sb => ?_
    have fr : H s.heap.objs.size = none := I.hok.fresh (Nat.le_refl _)
    have lte : e < s.heap.objs.size := Heap.lt_size he
    have lti : it < s.heap.objs.size := by obtain ⟨o, q, _⟩ := id hit; exact Heap.lt_size q
    refine ⟨.ref s.heap.objs.size, upd H s.heap.objs.size (.tup [.int (i : Int), x]), ?_, rfl, ⟨_, x, rfl, fr, rfl, fun ys hy => by rw [I.list_inj hy hq]; exact hx⟩, ⟨⟨_, by simpa using he2⟩, hit1.at fun o q => (sb.2 it (Ne.symm hne)).trans q⟩, fun b hb => ?_⟩
    · refine I.laidTurned (fp := [e, it]) (t' := s.toks + 1) (fun b o hb q => (sb.2 b (fun z => hb (by simp [z]))).trans (hk b o (fun z => hb (by simp [z])) (fun z => hb (by simp [z])) q)) hf (Nat.le_refl _) ?_
      refine ⟨by show 2 ≤ sizeLine; decide, [.int i s.toks, u], .cons ⟨_, rfl⟩ (.cons ru .nil), ⟨_, (sb.2 _ (Nat.ne_of_gt lte)).trans hT, rfl, _, rfl⟩⟩
    · rw [upd_ne (fun z => ?_)]
      · exact (hf b hb).1
      · rcases List.mem_cons.mp hb with q | q
        · rw [q] at z; exact absurd lte (by rw [z]; exact Nat.lt_irrefl _)
        · have q' : b = it := by simpa using q
          rw [q'] at z; exact absurd lti (by rw [z]; exact Nat.lt_irrefl _)
  done := by
    intro X hP hw hK hc i pins s σ H E I hf st hg
    subst hP hw hK
    obtain ⟨xs, hq, hx⟩ := hg
    obtain ⟨its, rv, p, hz⟩ := I.list hq
    obtain ⟨f0, f1, f2, f3, f4, f5⟩ := hf it (by simp)
    obtain ⟨⟨old, he⟩, hit⟩ := st
    have hl := rv.length
    exact wpAny_pyNext_enum_end (I.ok.hd hc) he hit p.isList (by simp; omega) fun h' eb => ⟨rfl, I.turned (t' := s.toks) (fun b o hb e => eb b o hb e) f0 f1 f3 f4 f5⟩
  self := fun _ _ _ _ _ st h => by
    obtain ⟨⟨old, he⟩, _⟩ := st
    exact wpAny_pyIter_enum he h
section
variable {X : Cx}
def iEnum (K : PySem.W.Frag) (ta : TA) : TI := fun σ H R => ta σ H fun vs H1 => ∃ a, vs = [.ref a] ∧ (∃ xs, SqL K H1 a xs) ∧ R (Ite K a) H1
theorem pi_enum {l : Expr} {ta : TA} {p pos pt : Pos} {es : List Expr} {k : Nat} (hg : Gl X "enumerate") (hm : X.mg "enumerate" = none) (ha : PA X [l] ta) (hs : starEach [l] X.env = [(false, eval l X.env)] := by rfl) :
    PI X (.Tuple es k pt) (.Call (.Name "enumerate" p) [l] [] pos) (iEnum X.K ta) := by
  intro pins s σ H R I h
  refine Call_ (ld_blt I hg hm boot_enumerate (PyProof.Rows.callWith_type1 (thn (ha pos pins s σ H _ I h) fun us s1 ⟨vs, H1, I1, r1, q1⟩ => ?_) hs rfl))
  obtain ⟨a, e, ⟨xs, hq⟩, q⟩ := q1
  subst e
  cases r1 with
  | cons r rr =>
    cases rr
    cases r
    obtain ⟨its, rv, pl, hz⟩ := I1.list hq
    refine call_enumerate_list pl.isList fun h' he hit hsz hk => ?_
    refine wpAny_pyIter_enum (s := { s1 with heap := h' }) he ?_
    refine ⟨s1.heap.objs.size + 1, [s1.heap.objs.size + 1, s1.heap.objs.size], _, _, H1, rfl, I1.kept (t' := s1.toks) hk, turn_enum a _ _ (Nat.succ_ne_self _), ⟨⟨_, he⟩, hit⟩, fun b hb => ?_, q⟩
    have ge : s1.heap.objs.size ≤ b := by
      rcases List.mem_cons.mp hb with z | z
      · rw [z]; exact Nat.le_succ _
      · have z' : b = s1.heap.objs.size := by simpa using z
        rw [z']; exact Nat.le_refl _
    exact I1.fpOk ge (I1.hok.fresh ge)
end
theorem for_enum {K : PySem.W.Frag} {a : Addr} {xs : List V} {g : TG} {tb : TS} {D : Ends} {σ : St} {H : Hp} (Pv : Nat → St → Hp → Prop) (h0 : Pv 0 σ H) (hl : ∀ i σ H, i ≤ xs.length → Pv i σ H → SqL K H a xs)
    (hs : ∀ i x T σ H, xs[i]? = some x → Pv i σ H → H T = none → g (.ref T) σ (upd H T (.tup [.int (i : Int), x])) fun σ2 H2 => tb { D with nx := Pv (i + 1), ct := Pv (i + 1), bk := D.nx } σ2 H2) (hd : ∀ σ H, Pv xs.length σ H → D.nx σ H) :
    ∃ W : Nat → Nat → St → Hp → Prop, (∃ m, W 0 m σ H) ∧ ∀ i m σ H, W i m σ H →
      ((Ite K a).stop i H ∧ D.nx σ H) ∨ ((Ite K a).go i H ∧ ∃ N : St → Hp → Prop, (∀ σ' H', N σ' H' → ∃ m', m' < m ∧ W (i + 1) m' σ' H') ∧ ∀ x H', (Ite K a).yld i H x H' → g x σ H' fun σ2 H2 => tb { D with nx := N, ct := N, bk := D.nx } σ2 H2) := by
  refine ⟨fun i m σ H => m = xs.length - i ∧ i ≤ xs.length ∧ Pv i σ H, ⟨xs.length, by simp, Nat.zero_le _, h0⟩, ?_⟩
  rintro i m σ H ⟨rfl, hi, p⟩
  have q := hl i σ H hi p
  by_cases hlt : i < xs.length
  · refine .inr ⟨⟨xs, xs[i], q, by simp [hlt]⟩, Pv (i + 1), fun σ' H' p' => ⟨xs.length - (i + 1), by omega, rfl, hlt, p'⟩, fun x H' y => ?_⟩
    obtain ⟨T, y, rfl, hT, rfl, hy⟩ := y
    exact hs i y T σ H (hy xs q) p hT
  · have e : i = xs.length := by omega
    subst e
    exact .inl ⟨⟨xs, q, Nat.le_refl _⟩, hd σ H p⟩
section
variable {X : Cx}
theorem vals_bools : ∀ {bs : List Bool} {us : List Value}, Vals (bs.map V.bl) us → us = bs.map Value.bool
  | [], _, .nil => rfl
  | _ :: _, _, .cons r rr => by
    cases r
    rw [vals_bools rr]
    rfl
theorem all_range (bs : List Bool) : (List.range bs.length).all (fun i => bs.getD i false) = bs.all id := by
  rw [Bool.eq_iff_iff, List.all_eq_true, List.all_eq_true]
  constructor
  · intro h b hb
    obtain ⟨i, hi, rfl⟩ := List.mem_iff_getElem.mp hb
    have := h i (List.mem_range.mpr hi)
    simpa [List.getD_eq_getElem?_getD, hi] using this
  · intro h i hi
    have hi' := List.mem_range.mp hi
    have := h _ (List.getElem_mem hi')
    simpa [List.getD_eq_getElem?_getD, hi'] using this
theorem truth_bools {P : Program} {w : World} {A : Around} {bs : List Bool} : TruthOf P w A (fun i v => (bs.map Value.bool).toArray[i]? = some v) (fun i => bs.getD i false) := by
  intro i v s Q E hP hQ
  have hP' : (bs.map Value.bool)[i]? = some v := by simpa using hP
  rw [List.getElem?_map] at hP'
  cases e : bs[i]? with
  | none => rw [e] at hP'; cases hP'
  | some b =>
    rw [e] at hP'
    have : Value.bool b = v := Option.some.inj hP'
    subst this
    refine wpAny_truthy_bool ?_
    have e2 : bs.getD i false = b := by rw [List.getD_eq_getElem?_getD, e]; rfl
    dsimp only at hQ
    rw [e2] at hQ
    exact hQ
theorem call_all (hc : X.calm = true) {K : PySem.W.Frag} (hK : X.K = K := by rfl) : CallR X (.builtin "all") (fun xs H Q => ∃ (a : Addr) (bs : List Bool), xs = [.ref a] ∧ SqL K H a (bs.map V.bl) ∧ Q (.bl (bs.all id)) H) := by
  subst hK
  intro pins s σ H xs us Q I r h
  obtain ⟨a, bs, rfl, hq, q⟩ := h
  obtain ⟨u, rfl, rx⟩ := vals1 r
  cases rx
  obtain ⟨its, rv, pl, hz⟩ := I.list hq
  have ei := vals_bools rv
  subst ei
  have lt : a < s.heap.objs.size := by obtain ⟨o, q, _⟩ := pl.isList; exact Heap.lt_size q
  refine call_all_walk (wpAny_pyIter_list pl.isList ?_)
  refine ⟨_, _, _, _, _, _, _, rfl, Walks.list (A := X.A.in1) (I.ok.hd hc) s.heap.objs.size a (Nat.ne_of_lt lt) (bs.map Value.bool).toArray, ⟨⟨_, Heap.get?_push_size _ rfl, rfl, rfl⟩, pl.isList.at fun o q => Heap.get?_push_of_some _ q⟩, truth_bools, fun h' tk hk => ?_⟩
  rw [List.size_toArray, List.length_map, all_range]
  exact ⟨.bl _, H, I.kept (t' := tk) fun b o q => hk b o (by simpa using Nat.ne_of_lt (Heap.lt_size q)) (Heap.get?_push_of_some _ q), rfl, q⟩
end
end L2
namespace L2
open PySem PySem.Spec PyProof.Rows
section
variable {X : Cx} {elt iter : Expr} {xs : List Str} {tg : Expr} {g : TG} {pos : Pos} {ifs : List Expr} {sc fsc : Scope} {N Nc : List Str} {wi : TI} {tt : TT} {te : TE}
end
section
variable {X : Cx} {elt iter : Expr} {x1 x2 x3 : Str} {p1 p2 p3 pt pos : Pos} {k : Nat} {ifs : List Expr} {sc fsc : Scope} {N Nc : List Str} {wi : TI} {tt : TT} {te : TE}
end
end L2
namespace L2
open PySem PySem.Spec PyProof.Rows
section
variable {X : Cx}
end
section
variable {X : Cx}
end
theorem eqv_ints : ∀ ns ms : List Int, PyData.eqvAll (ns.map .int) (ms.map .int) = decide (ns = ms)
  | [], [] => rfl
  | [], _ :: _ => rfl
  | _ :: _, [] => rfl
  | n :: ns, m :: ms => by
    show ((n == m) && PyData.eqvAll (ns.map .int) (ms.map .int)) = _
    rw [eqv_ints ns ms]
    by_cases h : n = m
    · by_cases k : ns = ms
      · subst h; subst k; simp
      · simp [h, k]
    · simp [h]
theorem lay_ints : ∀ ns : List Int, PyData.canLayAll0 (ns.map .int) = true ∧ PyData.depthAll (ns.map .int) ≤ 0
  | [] => ⟨rfl, Nat.le_refl _⟩
  | n :: ns => by
    obtain ⟨h1, h2⟩ := lay_ints ns
    refine ⟨?_, ?_⟩
    · show (true && PyData.canLayAll0 (ns.map .int)) = true
      rw [h1]; rfl
    · show max 0 (PyData.depthAll (ns.map .int)) ≤ 0
      omega
theorem shape_ints (ns : List Int) : SeqAt.shaped (.tuple (ns.map .int)) = true ∧ SeqAt.shaped (.list (ns.map .int)) = true := by
  obtain ⟨h1, h2⟩ := lay_ints ns
  constructor
  · unfold SeqAt.shaped
    rw [Bool.and_eq_true]
    refine ⟨h1, decide_eq_true ?_⟩
    show PyData.depthAll (ns.map .int) + 1 ≤ 64
    omega
  · unfold SeqAt.shaped
    rw [Bool.and_eq_true]
    refine ⟨h1, decide_eq_true ?_⟩
    show PyData.depthAll (ns.map .int) + 1 ≤ 64
    omega
section
variable {X : Cx}
theorem op_neT {K : PySem.W.Frag} (hu : X.A.units + 64 < cLine) (hK : X.K = K := by rfl) : OpR X (compareOp .NotEq) (fun x y H Q => ∃ (a b : Addr) (ns ms : List Int), x = .ref a ∧ y = .ref b ∧ SqT K H a (ns.map V.int) ∧ SqT K H b (ms.map V.int) ∧ Q (.bl (!decide (ns = ms))) H) := by
  intro pins s σ H x y v u Q I rx ry h
  obtain ⟨a, b, ns, ms, rfl, rfl, ha, hb, q⟩ := h
  refine op_neD hu hK pins s σ H _ _ v u Q I rx ry ⟨.tuple (ns.map .int), .tuple (ms.map .int), .tup ha (.ints ns), .tup hb (.ints ms), (shape_ints ns).1, (shape_ints ms).1, ?_⟩
  rw [show PyData.eqv (.tuple (ns.map .int)) (.tuple (ms.map .int)) = decide (ns = ms) from eqv_ints ns ms]
  exact q
end
end L2
namespace L2
open PySem PySem.Spec PyProof.Rows
namespace CutT
open HT
section
variable {prog : Program} {w : World} {A : Around} {E : Value → Shared → Prop} {s : Shared}
end
end CutT
end L2
namespace L2
open PySem PySem.Spec PyProof.Rows
section
variable {P : Program} {w : World} {K : PySem.W.Frag} {mg : Str → Option Value} {base : Heap}
end
section
variable {X : Cx} {k : Nat} {f : Addr} {fd : FuncData} {ps : List Str} {sp : Sp} {x : Str} {p pos : Pos} {e : Expr} {es : List Expr} {t : TA}
end
section
variable {X : Cx}
end
end L2
namespace L2
open PySem PySem.Spec PyProof.Rows
theorem keys_miss : typeLookup (.type "list") "keys" = pure none := by rw [typeLookup_type, builtinLookup_eq_fast]; kernel_rfl
theorem dul_entry : entryFor table "dict.update.loop" = some Builtin.«dict.update.loop» := entryFor_of_tree (by kernel_rfl)
theorem dul_plain : plainId "dict.update.loop" = true := by decide +kernel
section
variable {prog : Program} {w : World} {A : Around} {E : Value → Shared → Prop} {s : Shared}
theorem keys_none {a : Addr} {xs : Array Value} {k : Nat} {Q : Option Value → Shared → Prop} (jx : s.heap.get? a = some { cls := .type "list", dict := none, data := .seq xs k, slots := #[] }) (jA : A.handled = none)
    (q : ∀ h' tk, (∀ b o, s.heap.get? b = some o → h'.get? b = some o) → Q none { s with heap := h', toks := tk }) : wpAny (model prog w) A (getAttr? (.ref a) "keys") Q E s := by
  obtain ⟨hp, g, d, tk, os⟩ := s
  have hT : ∀ tk', (⟨hp, g, d, tk', os⟩ : Shared).TypeIs (.ref a) "list" := fun _ => ⟨_, jx, rfl⟩
  have f1 := sub_AttributeError
  have f3 := F.slot_list_getattribute.lookup
  have f4 := F.slot_list_getattribute.bind (.ref a)
  have f5 := am_list_getattr_none
  unfold getAttr? getAttrBy? getAttrBy
  repeat (any_goals (first | assumption | exact hT _ | ((with_reducible show wpAny _ _ (call (Value.builtin "list.__getattribute__") _ _) _ _ _); refine call_meets F.slot_list_getattribute (hT _) am_entry_list_getattribute (F.args_list_getattribute_2 _ _) (meets_getattribute_miss_list a xs k #[] "keys" _ keys_miss (by decide)) ⟨jx, jA, fun h' tk' e hx' => ?_⟩) | wp_step))
  obtain ⟨t', u', he⟩ := hx'.there
  show wpAny _ _ (getattributeRaised _ _ _ _ _ _ _) _ _ _
  unfold getattributeRaised
  repeat (any_goals (first | assumption | wp_step))
  exact q _ _ hx'.1
end
section
variable {X : Cx} {pins : List (Addr × Obj)} {σ : St} {H : Hp}
end
end L2
namespace L2
open PySem PySem.Spec PyProof.Rows
section
variable {prog : Program} {w : World} {A : Around} {E : Value → Shared → Prop} {s : Shared}
end
section
variable {X : Cx}
end
end L2
namespace L2
open PySem PySem.Spec PyProof.Rows
section
variable {P : Program} {w : World} {K : PySem.W.Frag} {mg : Str → Option Value} {base : Heap}
end
section
variable {X : Cx} {CX : CXT} {W : St → XK} {k : Nat} {f C : Addr} {fd : FuncData} {ps : List Str} {sp : Sp} {dvs : List V} {ds : List Value} {E : XK} {x m : Str} {p pos apos : Pos} {e o : Expr} {es : List Expr} {ta : TE} {t : TA}
end
end L2
namespace L2
open PySem PySem.Spec PyProof.Rows
section
variable {X : Cx} {elt iter : Expr} {x : Str} {px pos : Pos} {ifs : List Expr} {sc fsc : Scope} {N Nc : List Str} {wi : TI} {tt : TT} {te : TE}
end
section
variable {X : Cx} {elt iter : Expr} {x y : Str} {py pos : Pos} {ifs : List Expr} {sc sc2 fsc : Scope} {Nc Nd : List Str} {wi : TI} {tt : TT} {te : TE} {cl : List (Str × Addr)} {s : Shared} {H : Hp} {ex : List Addr}
end
end L2
namespace L2
open PySem PySem.W PySem.Spec PyProof.Rows
section
variable {X : Cx} {pins : List (Addr × Obj)} {σ : St} {H : Hp} {s : Shared} {c P : Addr} {pos : Pos} {params : Arguments} {body : Expr} {sc : Scope} {cl : List (Str × Addr)} {q : Str} {M : Model} {A : Around} {E : Value → Shared → Prop} {Q : Value → Shared → Prop}
end
section
variable {X : Cx} {pins : List (Addr × Obj)} {σ : St} {H : Hp} {s : Shared} {params : Arguments} {body : Expr} {sc fsc : Scope} {cl : List (Str × Addr)} {q x : Str} {A : Around} {N Nc : List Str} {f c' : Addr} {te : TE} {E : Value → Shared → Prop}
end
section
variable {X : Cx} {pins : List (Addr × Obj)} {σ : St} {H : Hp}
variable {xs : List V} {l f I S : Addr}
end
section
variable {M : Model} {A : Around} {E : Value → Shared → Prop} {s : Shared} {env : Env}
end
section
variable {X : Cx} {c P : Addr} {e body : Expr} {tl tb : TE} {sc fsc : Scope} {N Nc : List Str} {x : Str} {params : Arguments} {lpos kp p pos : Pos}
end
end L2
namespace L2
open PySem PySem.W PySem.Spec PyProof.Rows
section
variable {prog : Program} {w : World} {A : Around} {E : Value → Shared → Prop} {s : Shared}
end
section
variable {prog : Program} {w : World} {A : Around} {E : Value → Shared → Prop} {s : Shared}
end
section
variable {X : Cx} {e e2 : Expr} {te te2 : TE} {p p2 p3 pos pos2 pos3 pos4 : Pos}
end
end L2
namespace L2
open PySem PySem.W PySem.Spec PyProof.Rows
section
variable {prog : Program} {w : World} {A : Around} {E : Value → Shared → Prop} {s : Shared} {Q : Bool → Shared → Prop}
end
section
variable {X : Cx}
end
end L2
namespace L2
open PySem PySem.Spec PyProof.Rows
section
variable {prog : Program} {w : World} {A : Around} {E : Value → Shared → Prop} {s : Shared} {d : Addr} {es : Array DictEntry} {ep : Nat}
end
section
variable {X : Cx}
end
section
variable {prog : Program} {w : World} {A : Around} {E : Value → Shared → Prop} {s : Shared}
end
section
variable {X : Cx}
end
end L2
namespace PySem
open Sem (wp)
section
variable {prog : Program} {w : World} {K : Type} [DecidableEq K] (knd : KeyKind prog w K)
variable {knd}
variable {A : Around} {E : Value → Shared → Prop} {s : Shared}
end
end PySem
namespace L2
open PySem PySem.Spec PyProof.Rows
section
variable {P : Program} {w : World} {H : Hp} {h : Heap} {a : Addr}
end
section
variable {X : Cx} {o i e value : Expr} {pos pos' tpos : Pos} {td ty tv : TE}
end
end L2
namespace L2
open PySem PySem.Spec PyProof.Rows
def TwoD (s : Shared) (A : Around) (a b : Addr) : Prop := ∃ (oa ob : Obj) (ea eb : Array DictEntry) (pa pb : Nat), s.heap.get? a = some oa ∧ oa.ExactDict ∧ oa.data = .dict ea pa ∧ s.heap.get? b = some ob ∧ ob.ExactDict ∧ ob.data = .dict eb pb ∧
  (a == sysModules) = false ∧ (b == sysModules) = false ∧ ea.size = eb.size ∧
  ∀ (prog : Program) (w : World) (i : Nat) (x : DictEntry), ea[i]? = some x → ∃ y, eb[i]? = some y ∧ SeqAt.EqAt A.in1 s x.val y.val true ∧ ∀ (Q : Option Nat → Shared → Prop) (E : Value → Shared → Prop), Q (some i) s → wpAny (model prog w) A.in1 (dictFind b x.key x.hash) Q E s
theorem dict_eqs (a b : Addr) : Meets (Builtin.«dict.__eq__» ⟨[.ref a, .ref b], []⟩) (fun A R s => TwoD s A a b ∧ R (.ok (.ret (.bool true))) s) := by
  intro prog w A R s h
  obtain ⟨⟨oa, ob, ea, eb, pa, pb, ga, xa, da, gb, xb, db, na, nb, sz, al⟩, h⟩ := h
  have e0 : Builtin.«dict.__eq__» ⟨[.ref a, .ref b], []⟩ = (do
    let (self, other) ← Builtin.Dict.dictSlotArgs "__eq__" ⟨[.ref a, .ref b], []⟩
    if !(← isInstance other (.type "dict")) then rule s!"dict.{"__eq__"}.not-a-dict"; return ← ret .notImplemented
    ret (.bool ((← Builtin.Dict.samePairs s!"dict.{"__eq__"}" (← Builtin.Dict.addrOf self) (← Builtin.Dict.addrOf other)) == true))) := rfl
  rw [e0]
  have tb : s.TypeIs (.ref b) "dict" := ⟨_, gb, xb.1⟩
  refine wpAny_bind (m := Builtin.Dict.dictSlotArgs "__eq__" ⟨[.ref a, .ref b], []⟩) (wpAny_pure ?_)
  refine wpAny_bind (wpAny_isInstance (b := true) tb (by rw [isSubtype_type]; kernel_rfl) ?_)
  simp only [Bool.not_true, Bool.false_eq_true, if_false]
  refine wpAny_bind (wpAny_pure ?_)
  refine wpAny_bind (wpAny_pure ?_)
  refine wpAny_bind ?_
  unfold Builtin.Dict.samePairs Builtin.Dict.showsAll
  rw [na, nb]
  simp only [Bool.false_eq_true, if_false]
  refine wpAny_bind (wpAny_pure ?_)
  refine wpAny_bind (wpAny_pure ?_)
  refine wpAny_bind (wpAny_dictEntries ga da ?_)
  refine wpAny_bind (wpAny_dictEntries gb db ?_)
  rw [if_neg (by rw [sz]; simp)]
  refine wpAny_bind (wpAny_dictEpoch ga da ?_)
  refine wpAny_bind ?_
  rw [Std.Legacy.Range.forIn_eq_forIn_range']
  refine wpAny_forIn_list _ (fun rest b s' => s' = s ∧ b = (none, ()) ∧ ∃ i, rest = List.range' i (ea.size - i) ∧ i ≤ ea.size) _ ?_ ?_ _ _ ⟨rfl, rfl, 0, by simp [Std.Legacy.Range.size], Nat.zero_le _⟩
  · rintro x rest b' s' ⟨rfl, rfl, i, hr, hi⟩
    obtain ⟨n, hn⟩ : ∃ n, ea.size - i = n + 1 := by
      cases e : ea.size - i with
      | zero => rw [e] at hr; cases hr
      | succ n => exact ⟨n, rfl⟩
    rw [hn, List.range'_succ] at hr
    injection hr with h1 h2
    subst h1 h2
    have hx : x < ea.size := by omega
    obtain ⟨y, hy, eq, fd⟩ := al prog w x ea[x] (Array.getElem?_eq_getElem hx)
    refine wpAny_bind (wpAny_dictEntries ga da ?_)
    rw [Array.getElem?_eq_getElem hx]
    dsimp only
    refine wpAny_bind (wpAny_holding (wpAny_bind (fd _ _ ?_)))
    dsimp only
    refine wpAny_bind (wpAny_dictEntries gb db ?_)
    rw [hy]
    dsimp only
    refine wpAny_holding (eq prog w _ _ ?_)
    simp only [Bool.not_true, Bool.false_eq_true, if_false]
    refine wpAny_bind (wpAny_dictEpoch ga da ?_)
    simp only [bne_self_eq_false, Bool.false_eq_true, if_false]
    exact wpAny_pure ⟨rfl, rfl, x + 1, by rw [show ea.size - (x + 1) = n by omega], by omega⟩
  · rintro b' s' ⟨rfl, rfl, _⟩
    exact wpAny_pure (wpAny_pure h)
theorem RcAt.dicts {A : Around} {s : Shared} {a b : Addr} (h : TwoD s A a b) (hu : A.units < cLine) : SeqAt.RcAt A s (.ref a) (.ref b) true := fun prog w E Q q => by
  obtain ⟨oa, ob, ea, eb, pa, pb, ga, xa, da, gb, xb, db, r⟩ := id h
  exact richCompare_meets_room (op := .Eq) ⟨_, ga, xa.1⟩ ⟨_, gb, xb.1⟩ F.slot_dict_eq F.entry_dict_eq (F.args_dict_eq_2 _ _) (dict_eqs a b) ⟨h, show Value.bool true ≠ Value.notImplemented ∧ Q (.bool true) s from ⟨(fun x => nomatch x), q⟩⟩ hu
theorem pairs_get {P : Program} {w : World} : ∀ {es : List DictEntry} {kvs : List (Key × Value)} {i : Nat} {x : DictEntry}, Pairs (mixKind P w) es kvs → es[i]? = some x → ∃ kv, kvs[i]? = some kv ∧ (mixKind P w).is kv.1 x.key = true ∧ x.val = kv.2
  | _, _, _, _, .nil, e => by cases e
  | _, _, 0, x, .cons h1 h2 _, e => by cases e; exact ⟨_, rfl, h1, h2⟩
  | _, _, i + 1, x, .cons _ _ r, e => pairs_get (i := i) r e
theorem pairs_len {P : Program} {w : World} : ∀ {es : List DictEntry} {kvs : List (Key × Value)}, Pairs (mixKind P w) es kvs → es.length = kvs.length
  | _, _, .nil => rfl
  | _, _, .cons _ _ r => congrArg (· + 1) (pairs_len r)
def AlikeN (vs ws : List (Key × Value)) : Prop := vs.length = ws.length ∧ ∀ (i : Nat) (p q : Key × Value), vs[i]? = some p → ws[i]? = some q → p.1 = q.1 ∧ (∃ z : Int, q.1 = Sum.inl z) ∧ ∃ n t u, p.2 = .int n t ∧ q.2 = .int n u
theorem find_at {ws : List (Key × Value)} (nd : (ws.map (·.1)).Nodup) {i : Nat} {q : Key × Value} (h : ws[i]? = some q) : (ws.findIdx? fun kv => decide (kv.1 = q.1)) = some i := by
  obtain ⟨hl, e⟩ := List.getElem?_eq_some_iff.mp h
  rw [List.findIdx?_eq_some_iff_getElem]
  refine ⟨hl, by rw [e]; exact decide_eq_true rfl, fun j hj => ?_⟩
  have pw := List.pairwise_iff_getElem.mp (List.nodup_iff_pairwise_ne.mp nd) j i (by rw [List.length_map]; omega) (by rw [List.length_map]; exact hl) hj
  rw [List.getElem_map, List.getElem_map, e] at pw
  simpa using pw
theorem twoD {A : Around} {s : Shared} {a b : Addr} {P : Program} {w : World} {vs ws : List (Key × Value)} (ha : s.heap.DictOf (mixKind P w) a vs) (hb : s.heap.DictOf (mixKind P w) b ws) (na : (a == sysModules) = false) (nb : (b == sysModules) = false) (al : AlikeN vs ws) : TwoD s A a b := by
  obtain ⟨oa, ea, pa, ga, xa, da, ka, ra, nda⟩ := ha
  obtain ⟨ob, eb, pb, gb, xb, db, kb, rb, ndb⟩ := hb
  have la := pairs_len ra
  have lb := pairs_len rb
  rw [Array.length_toList] at la lb
  refine ⟨oa, ob, ea, eb, pa, pb, ga, xa, da, gb, xb, db, na, nb, by rw [la, lb, al.1], fun prog w' i x hx => ?_⟩
  obtain ⟨p, hp, p1, p2⟩ := pairs_get ra (by rw [Array.getElem?_toList]; exact hx)
  have hi : i < ws.length := by have := (List.getElem?_eq_some_iff.mp hp).1; have := al.1; omega
  obtain ⟨y, hy⟩ : ∃ y, eb[i]? = some y := ⟨_, Array.getElem?_eq_getElem (by omega)⟩
  obtain ⟨q, hq, q1, q2⟩ := pairs_get rb (by rw [Array.getElem?_toList]; exact hy)
  obtain ⟨e1, ⟨z, ez⟩, n, t, u, e2, e3⟩ := al.2 i p q hp hq
  refine ⟨y, hy, ?_, fun Q E qq => ?_⟩
  · rw [p2, q2, e2, e3]
    have := SeqAt.EqAt.int_int (A := A.in1) (s := s) n t n u
    simpa using this
  · have hh : x.hash = (mixKind P w).hash p.1 := by
      obtain ⟨k', a1, a2⟩ := ka x (Array.mem_of_getElem? hx)
      rw [a2, (mixKind P w).inj _ _ _ p1 a1]
    have h2 : x.hash = (mixKind prog w').hash p.1 := by rw [hh, e1, ez]; rfl
    rw [h2]
    refine wpAny_dictFind_of (knd := mixKind prog w') (k := p.1) (show (mixKind prog w').is p.1 x.key = true from p1) gb db (fun e m => by
      obtain ⟨k, a1, a2⟩ := kb e m
      obtain ⟨j, hj⟩ := Array.getElem?_of_mem m
      obtain ⟨q', hq', q1', _⟩ := pairs_get rb (by rw [Array.getElem?_toList]; exact hj)
      obtain ⟨p', hp'⟩ : ∃ p', vs[j]? = some p' := ⟨_, List.getElem?_eq_getElem (by have := (List.getElem?_eq_some_iff.mp hq').1; have := al.1; omega)⟩
      obtain ⟨_, ⟨z', ez'⟩, _⟩ := al.2 j p' q' hp' hq'
      have ek : k = q'.1 := (mixKind P w).inj _ _ _ a1 q1'
      exact ⟨k, a1, by rw [a2, ek, ez']; rfl⟩) ?_
    have ix : (eb.findIdx? fun e => (mixKind prog w').is p.1 e.key) = some i := by
      have := rb.findIdx p.1
      rw [show (ws.findIdx? fun kv => decide (kv.1 = p.1)) = some i from by rw [e1]; exact find_at ndb hq] at this
      rw [← this]
      obtain ⟨l⟩ := eb
      simp
      rfl
    rw [ix]
    exact qq
theorem kv_alike : ∀ {kvs : List (Key × V)} {vs ws : List (Key × Value)}, KV kvs vs → KV kvs ws → (∀ q ∈ kvs, (∃ z : Int, q.1 = Sum.inl z) ∧ ∃ n, q.2 = .int n) → AlikeN vs ws
  | _, _, _, .nil, .nil, _ => ⟨rfl, fun i p q e => by cases e⟩
  | _, _, _, .cons a r, .cons b t, g => by
    obtain ⟨l, al⟩ := kv_alike r t fun q m => g q (List.mem_cons_of_mem _ m)
    refine ⟨congrArg (· + 1) l, fun i p q e1 e2 => ?_⟩
    cases i with
    | zero =>
      cases e1
      cases e2
      obtain ⟨⟨z, ez⟩, n, en⟩ := g _ (List.mem_cons_self ..)
      obtain ⟨a1, a2⟩ := a
      obtain ⟨b1, b2⟩ := b
      rw [en] at a2 b2
      obtain ⟨t1, e1⟩ := a2
      obtain ⟨t2, e2⟩ := b2
      exact ⟨a1.symm.trans b1, ⟨z, b1.symm.trans ez⟩, n, t1, t2, e1, e2⟩
    | succ i => exact al i p q e1 e2
def AlikeV (K : PySem.W.Frag) (H : Hp) (u v : V) : Prop := (∃ d : PyData, Rep K H u d ∧ Rep K H v d ∧ d.canLay0 = true ∧ d.depth ≤ 10) ∨ ∃ (a b : Addr) (kvs : List (Key × V)), a ≠ b ∧ u = .ref a ∧ v = .ref b ∧ H a = some (.dK kvs) ∧ H b = some (.dK kvs) ∧ ∀ q ∈ kvs, (∃ z : Int, q.1 = Sum.inl z) ∧ ∃ n, q.2 = .int n
theorem AlikeV.same {K : PySem.W.Frag} {H H' : Hp} {u v : V} (e : Same H H') (h : AlikeV K H u v) : AlikeV K H' u v := by
  rcases h with ⟨d, h1, h2, r⟩ | ⟨a, b, kvs, n, e1, e2, h1, h2, r⟩
  · exact .inl ⟨d, h1.same e, h2.same e, r⟩
  · exact .inr ⟨a, b, kvs, n, e1, e2, e _ _ h1, e _ _ h2, r⟩
def rEqX (K : PySem.W.Frag) : R2 := fun x y H Q => ∃ (a b : Addr) (xs ys : List V), x = .ref a ∧ y = .ref b ∧ SqL K H a xs ∧ SqL K H b ys ∧ xs.length = ys.length ∧ (∀ (i : Nat) (u v : V), xs[i]? = some u → ys[i]? = some v → AlikeV K H u v) ∧ Q (.bl true) H
theorem op_eqX {X : Cx} {K : PySem.W.Frag} (hu : X.A.units + 64 < cLine) (hK : X.K = K := by rfl) : OpR X (compareOp .Eq) (rEqX K) := by
  subst hK
  intro pins s σ H x y v u Q I rx ry h
  obtain ⟨a, b, xs, ys, rfl, rfl, ha, hb, hl, al, q⟩ := h
  cases (show v = Value.ref a from rx)
  cases (show u = Value.ref b from ry)
  obtain ⟨its, rv, p, _⟩ := I.list ha
  obtain ⟨jts, rw', p', _⟩ := I.list hb
  have l1 := rv.length
  have l2 := rw'.length
  have hin : X.A.in1.units ≤ X.A.units + 1 := Nat.le_refl _
  have key := SeqAt.RcAt.lists (A := X.A) (e := fun _ => true) p.isList p'.isList (by simp; omega) (by omega) fun j h1 h2 => by
    have hj : j < its.length := by simpa using h1
    have hj' : j < jts.length := by simpa using h2
    obtain ⟨xu, ex⟩ : ∃ xu, xs[j]? = some xu := ⟨_, List.getElem?_eq_getElem (by omega)⟩
    obtain ⟨yu, ey⟩ : ∃ yu, ys[j]? = some yu := ⟨_, List.getElem?_eq_getElem (by omega)⟩
    obtain ⟨u1, hu1, ru1⟩ := rv.get ex
    obtain ⟨u2, hu2, ru2⟩ := rw'.get ey
    have e1 : its.toArray[j] = u1 := by
      have := (List.getElem?_eq_some_iff.mp hu1).2
      simpa using this
    have e2 : jts.toArray[j] = u2 := by
      have := (List.getElem?_eq_some_iff.mp hu2).2
      simpa using this
    rw [e1, e2]
    rcases al j xu yu ex ey with ⟨d, r1, r2, c, dd⟩ | ⟨a', b', kvs, ne, rfl, rfl, d1, d2, g⟩
    · obtain ⟨as, k1⟩ := I.reads r1 ru1
      obtain ⟨bs, k2⟩ := I.reads r2 ru2
      have := SeqAt.eqAt_reads d d X.A.in1 s u1 u2 as bs k1 k2 c c (by omega)
      rw [SeqAt.eqv_refl d c] at this
      exact this
    · cases (show u1 = Value.ref a' from ru1)
      cases (show u2 = Value.ref b' from ru2)
      obtain ⟨_, na, vs, kv1, dd1⟩ := dk_of I.hok d1
      obtain ⟨_, nb, ws, kv2, dd2⟩ := dk_of I.hok d2
      exact SeqAt.EqAt.of_refs ne (RcAt.dicts (twoD dd1 dd2 na nb (kv_alike kv1 kv2 g)) (by omega))
  rw [show ((List.range its.toArray.size).all fun _ => true) = true from List.all_eq_true.mpr fun _ _ => rfl] at key
  exact key _ _ _ _ ⟨.bl true, H, I, rfl, q⟩
section
variable {prog : Program} {w : World} {A : Around} {E : Value → Shared → Prop} {s : Shared}
theorem wp_alive {a : Addr} {Q : Option Obj → Shared → Prop} (h : Q (s.heap.get? a) s) : wpAny (model prog w) A (loadIfAlive a) Q E s := fun Γ p _ => by
  unfold loadIfAlive
  rw [Sem.wp_loadIfAlive]
  exact wpAny_pure (M := model prog w) (A := A) (E := E) h Γ p ‹_›
abbrev EnumHeld (h : Heap) (e it : Addr) (i : Int) (old : Value) (a : Addr) (f : Bool) : Prop :=
  h.get? e = some ⟨.type "enumerate", none, .fields #[rawInt a, .bool f, .ref it, rawInt i, .none, old], #[]⟩
theorem held_next {e it l a : Addr} {i : Nat} {items : Array Value} {x old : Value} {oa : Obj} {f : Bool} {Q : Value → Shared → Prop}
    (he : EnumHeld s.heap e it i old a f) (ht : s.heap.IsListIter it l i) (hl : s.heap.IsList l items) (hx : items[i]? = some x) (ne : e ≠ it) (ae : a ≠ e) (ai : a ≠ it) (ha : s.heap.get? a = some oa)
    (fin : ∀ g : Heap, EnumHeld g e it ((i : Int) + 1) old a true → g.IsListIter it l (i + 1) → g.get? s.heap.objs.size = some ⟨.type "tuple", none, .seq #[.int i s.toks, x] 0, #[]⟩ → g.objs.size = s.heap.objs.size + 1 → (∀ b o, b ≠ e → b ≠ it → s.heap.get? b = some o → g.get? b = some o) → Q (.ref s.heap.objs.size) { s with heap := g, toks := s.toks + 1 }) :
    wpAny (model prog w) A (Builtin.«enumerate.__next__» ⟨[.ref e], []⟩) (fun r s' => ∃ v, r = .done (.ret v) ∧ Q v s') E s := by
  obtain ⟨m0, gn, dr, tk, ox⟩ := s
  show wpAny _ _ (field (.ref e) 2 >>= fun q => Builtin.SmallTypes.nextOf q >>= fun item => _) _ _ _
  refine wpAny_bind (wpAny_field he rfl (x := .ref it) rfl (wpAny_bind (wpAny_nextOf_list_item ht hl hx fun m1 ht1 k1 => ?_)))
  have k1 : Heap.SameBut it m0 m1 := k1
  have e1 : EnumHeld m1 e it i old a f := (k1.2 e ne).trans he
  refine wpAny_bind (wpAny_field (s := ⟨m1, gn, dr, tk, ox⟩) e1 rfl (x := rawInt i) rfl ?_)
  show wpAny _ _ (field (.ref e) 4 >>= fun given => _) _ _ (⟨m1, gn, dr, tk, ox⟩ : Shared)
  refine wpAny_bind (wpAny_field e1 rfl (x := .none) rfl ?_)
  show wpAny _ _ (mkInt i >>= fun index => _) _ _ (⟨m1, gn, dr, tk, ox⟩ : Shared)
  refine wpAny_bind (wpAny_mkInt (wpAny_bind (wpAny_setField_rec (s := ⟨m1, gn, dr, tk + 1, ox⟩) e1 (by simp) fun m2 e2 k2 => ?_)))
  have k2 : Heap.SameBut e m1 m2 := k2
  have e2 : EnumHeld m2 e it ((i : Int) + 1) old a f := e2
  refine wpAny_bind (wpAny_setField_rec (s := ⟨m2, gn, dr, tk + 1, ox⟩) e2 (by simp) fun m3 e3 k3 => ?_)
  have k3 : Heap.SameBut e m2 m3 := k3
  have e3 : EnumHeld m3 e it ((i : Int) + 1) old a f := e3
  refine wpAny_bind (wpAny_newTuple ?_)
  have z3 : m3.objs.size = m0.objs.size := by rw [k3.1, k2.1, k1.1]
  have keep : ∀ b o, b ≠ e → b ≠ it → m0.get? b = some o → m3.get? b = some o := fun b o be bi q => k3.extBut b o be (k2.extBut b o be (k1.extBut b o bi q))
  have it3 := (ht1.extBut k2.extBut (Ne.symm ne)).extBut k3.extBut (Ne.symm ne)
  have eb : e < m0.objs.size := Heap.lt_size he
  have e4 : EnumHeld (m3.push ⟨.type "tuple", none, .seq #[.int i tk, x] 0, #[]⟩) e it ((i : Int) + 1) old a f := Heap.get?_push_of_some _ e3
  have t4 : (m3.push ⟨.type "tuple", none, .seq #[.int i tk, x] 0, #[]⟩).get? m0.objs.size = some ⟨.type "tuple", none, .seq #[.int i tk, x] 0, #[]⟩ := by rw [← z3]; exact Heap.get?_push_size _ rfl
  have z4 : (m3.push ⟨.type "tuple", none, .seq #[.int i tk, x] 0, #[]⟩).objs.size = m0.objs.size + 1 := by rw [Heap.size_push, z3]
  have l4 : (m3.push ⟨.type "tuple", none, .seq #[.int i tk, x] 0, #[]⟩).IsListIter it l (i + 1) := by
    obtain ⟨o, q, r⟩ := it3
    exact ⟨o, Heap.get?_push_of_some _ q, r⟩
  have keep4 : ∀ b o, b ≠ e → b ≠ it → m0.get? b = some o → (m3.push ⟨.type "tuple", none, .seq #[.int i tk, x] 0, #[]⟩).get? b = some o := fun b o be bi q => Heap.get?_push_of_some _ (keep b o be bi q)
  rw [z3]
  show wpAny _ _ (Builtin.SmallTypes.ownedTupleIsFree (.ref e) >>= fun free => _) _ _ (⟨m3.push ⟨.type "tuple", none, .seq #[.int i tk, x] 0, #[]⟩, gn, dr, tk + 1, ox⟩ : Shared)
  generalize m3.push ⟨.type "tuple", none, .seq #[.int i tk, x] 0, #[]⟩ = m4 at e4 t4 z4 l4 keep4 ⊢
  refine wpAny_bind ?_
  unfold Builtin.SmallTypes.ownedTupleIsFree
  refine wpAny_bind (wpAny_field e4 rfl (x := rawInt a) rfl ?_)
  show wpAny _ _ (loadIfAlive ((a : Nat) : Int).toNat >>= fun r => _) _ _ (⟨m4, gn, dr, tk + 1, ox⟩ : Shared)
  refine wpAny_bind (wp_alive ?_)
  rw [show (((a : Nat) : Int).toNat) = a from Int.toNat_natCast a, keep4 a oa ae ai ha]
  simp only [Option.isNone_some, Bool.false_eq_true, if_false]
  refine wpAny_bind (wpAny_field e4 rfl (x := .bool f) rfl ?_)
  cases f with
  | true =>
    rw [if_neg (by decide)]
    refine wpAny_pure ?_
    rw [if_neg (by decide)]
    exact wpAny_pure ⟨_, rfl, fin m4 e4 l4 t4 z4 keep4⟩
  | false =>
    rw [if_pos (by decide)]
    refine wpAny_bind (wpAny_setField_rec (s := ⟨m4, gn, dr, tk + 1, ox⟩) e4 (by simp) fun m5 e5 k5 => ?_)
    have k5 : Heap.SameBut e m4 m5 := k5
    refine wpAny_pure ?_
    rw [if_neg (by decide)]
    exact wpAny_pure ⟨_, rfl, fin m5 e5 (l4.extBut k5.extBut (Ne.symm ne)) (k5.extBut _ _ (Nat.ne_of_gt eb) t4) (by rw [k5.1, z4]) fun b o be bi q => k5.extBut b o be (keep4 b o be bi q)⟩
end
section
variable {prog : Program} {w : World} {A : Around} {E : Value → Shared → Prop} {s : Shared}
def EnumAt (h : Heap) (e it S : Addr) (i : Nat) : Prop := (i = 0 ∧ ∃ old, IsEnum h e it ((0 : Nat) : Int) old) ∨ ∃ (old : Value) (a : Addr) (f : Bool) (oa : Obj), EnumHeld h e it i old a f ∧ h.get? a = some oa ∧ a ≠ e ∧ a ≠ it ∧ a ≠ S
theorem EnumAt.type {h : Heap} {e it S : Addr} {i : Nat} (st : EnumAt h e it S i) (hs : s.heap = h) : s.TypeIs (.ref e) "enumerate" := by
  subst hs
  rcases st with ⟨_, old, he⟩ | ⟨_, _, _, _, he, _⟩
  · exact ⟨_, he, rfl⟩
  · exact ⟨_, he, rfl⟩
theorem EnumAt.keep {h g : Heap} {e it S : Addr} {i : Nat} (st : EnumAt h e it S i) (eS : e ≠ S) (k : ∀ b o, b ≠ S → h.get? b = some o → g.get? b = some o) : EnumAt g e it S i := by
  rcases st with ⟨z, old, he⟩ | ⟨old, a, f, oa, he, ha, ae, ai, aS⟩
  · exact .inl ⟨z, old, k _ _ eS he⟩
  · exact .inr ⟨old, a, f, oa, k _ _ eS he, k _ _ aS ha, ae, ai, aS⟩
theorem en_next {e it l S : Addr} {i : Nat} {items : Array Value} {x : Value} {Q : Option Value → Shared → Prop} (st : EnumAt s.heap e it S i) (ht : s.heap.IsListIter it l i) (hl : s.heap.IsList l items) (hx : items[i]? = some x) (ne : e ≠ it) (lS : S < s.heap.objs.size)
    (fin : ∀ g : Heap, EnumAt g e it S (i + 1) → g.IsListIter it l (i + 1) → g.get? s.heap.objs.size = some ⟨.type "tuple", none, .seq #[.int i s.toks, x] 0, #[]⟩ → g.objs.size = s.heap.objs.size + 1 → (∀ b o, b ≠ e → b ≠ it → s.heap.get? b = some o → g.get? b = some o) → Q (some (.ref s.heap.objs.size)) { s with heap := g, toks := s.toks + 1 }) :
    wpAny (model prog w) A (pyNext (.ref e)) Q E s := by
  have ty := st.type rfl
  have le : e < s.heap.objs.size := by obtain ⟨o, q, _⟩ := ty; exact Heap.lt_size q
  have li : it < s.heap.objs.size := by obtain ⟨o, q, _⟩ := id ht; exact Heap.lt_size q
  rcases st with ⟨rfl, old, he⟩ | ⟨old, a, f, oa, he, ha, ae, ai, aS⟩
  · exact wpAny_pyNext_enum_item he ht hl hx ne fun g o1 o2 o3 o4 o5 => fin g (.inr ⟨x, s.heap.objs.size, false, _, o1, o3, Nat.ne_of_gt le, Nat.ne_of_gt li, Nat.ne_of_gt lS⟩) o2 o3 o4 o5
  · unfold pyNext
    refine wpAny_bind (wpAny_attempt (wpAny_callSpecial?_slot (name := "__next__") ty F.slot_enumerate_next (wpAny_call_entry F.slot_enumerate_next ty F.entry_enumerate_next ?_ (F.args_enumerate_next_1 _))))
    exact held_next he ht hl hx ne ae ai ha fun g o1 o2 o3 o4 o5 => wpAny_pure (fin g (.inr ⟨old, a, true, oa, by simpa using o1, o5 a oa ae ai ha, ae, ai, aS⟩) o2 o3 o4 o5)
theorem en_end {e it l S : Addr} {i : Nat} {items : Array Value} {Q : Option Value → Shared → Prop} (hh : A.handled = none) (st : EnumAt s.heap e it S i) (ht : s.heap.IsListIter it l i) (hl : s.heap.IsList l items) (hx : items[i]? = none)
    (fin : ∀ g : Heap, Heap.ExtBut it s.heap g → Q none { s with heap := g }) : wpAny (model prog w) A (pyNext (.ref e)) Q E s := by
  have ty := st.type rfl
  rcases st with ⟨rfl, old, he⟩ | ⟨old, a, f, oa, he, _⟩
  · exact wpAny_pyNext_enum_end hh he ht hl hx fin
  · unfold pyNext
    refine wpAny_bind (wpAny_attempt (wpAny_callSpecial?_slot (name := "__next__") ty F.slot_enumerate_next (wpAny_call_entry F.slot_enumerate_next ty F.entry_enumerate_next ?_ (F.args_enumerate_next_1 _))))
    show wpAny _ _ (field (.ref e) 2 >>= fun q => Builtin.SmallTypes.nextOf q >>= fun item => _) _ _ _
    refine wpAny_bind (wpAny_field he rfl (x := .ref it) rfl (wpAny_bind (wpAny_nextOf_list_end hh ht hl hx fun g x k1 k2 => ?_)))
    obtain ⟨o, q, c⟩ := k2
    exact wpAny_bind (wpAny_isInstance (T := "StopIteration") (b := true) ⟨o, q, c⟩ isSubtype_stop (wpAny_pure (fin _ k1)))
end
section
variable {X : Cx} {pins : List (Addr × Obj)} {σ : St} {H : Hp}
structure EnL (H : Hp) (S : Addr) (ys : List V) (i : Nat) (J : Hp) (ts : List Addr) : Prop where
  len : ts.length = i
  lst : J S = some (.lst (ts.map V.ref))
  same : ∀ b o, b ≠ S → H b = some o → J b = some o
  pair : ∀ (j : Nat) (t : Addr) (y : V), ts[j]? = some t → ys[j]? = some y → J t = some (.tup [.int (j : Int), y]) ∧ t ≠ S
theorem en_go {l e it S : Addr} {ys : List V} {A : Around} {R : Result → Shared → Prop} (hh : A.handled = none) (hl : H l = some (.lst ys)) (lS : l ≠ S) (hz : ys.length < sizeLine) (ne : e ≠ it) (eS : e ≠ S) (iS : it ≠ S)
    (f : ∀ J : Hp, J e = none → J it = none → ∀ b ∈ [e, it], FpOk X pins J b)
    (fin : ∀ (J : Hp) (ts : List Addr) (s' : Shared), EnL H S ys ys.length J ts → Inv X pins σ J s' → R (.ok (.ret .none)) s') :
    ∀ (n i : Nat) (J : Hp) (ts : List Addr) (s : Shared), ys.length - i = n → i ≤ ys.length → EnL H S ys i J ts → J e = none → J it = none → Inv X pins σ J s → EnumAt s.heap e it S i → s.heap.IsListIter it l i →
      codeAny (model X.prog X.w) A (.builtin "list.extend.loop" ⟨[.ref S, .ref e, .none], []⟩) R s := by
  intro n
  induction n with
  | zero =>
    intro i J ts s hn hi en je ji I st ht
    have ei : i = ys.length := by omega
    subst ei
    obtain ⟨_, its, n0, rv, le, el⟩ := I.lstM (en.same l _ lS hl)
    refine codeAny_builtin F.entry_extend_loop ?_
    rw [Around.under_plainId F.plain_extend_loop _]
    show wpAny _ A.in1 (pyNext (.ref e) >>= fun r => _) _ _ s
    refine wpAny_bind (en_end (A := A.in1) hh st ht ⟨_, el, rfl, n0, rfl⟩ (by simp; omega) fun g k => ?_)
    have I2 : Inv X pins σ J { s with heap := g } := I.turnedAll (fp := [e, it]) (t' := s.toks) (fun b o hb q => k b o (fun z => hb (by simp [z])) q) (f J je ji)
    exact wpAny_pure (fin J ts _ en I2)
  | succ n ih =>
    intro i J ts s hn hi en je ji I st ht
    have il : i < ys.length := by omega
    obtain ⟨y, hy⟩ : ∃ y, ys[i]? = some y := ⟨_, List.getElem?_eq_getElem il⟩
    obtain ⟨_, its, n0, rv, le, el⟩ := I.lstM (en.same l _ lS hl)
    obtain ⟨u, hu, ru⟩ := rv.get hy
    have fr : J s.heap.objs.size = none := I.hok.fresh (Nat.le_refl _)
    have hS0 := en.lst
    have sS : S < s.heap.objs.size := by obtain ⟨_, _, _, _, _, q⟩ := I.lstM hS0; exact Heap.lt_size q
    have TS : s.heap.objs.size ≠ S := Nat.ne_of_gt sS
    have se : e < s.heap.objs.size := by obtain ⟨o, q, _⟩ := st.type (s := s) rfl; exact Heap.lt_size q
    have si : it < s.heap.objs.size := by obtain ⟨o, q, _⟩ := id ht; exact Heap.lt_size q
    refine codeAny_builtin F.entry_extend_loop ?_
    rw [Around.under_plainId F.plain_extend_loop _]
    show wpAny _ A.in1 (pyNext (.ref e) >>= fun r => _) _ _ s
    refine wpAny_bind (en_next st ht ⟨_, el, rfl, n0, rfl⟩ (x := u) (by simpa using hu) ne sS fun g st' ht' tup sz keep => ?_)
    have I2 : Inv X pins σ (upd J s.heap.objs.size (.tup [.int (i : Int), y])) { s with heap := g, toks := s.toks + 1 } := I.laidTurned (fp := [e, it]) (t' := s.toks + 1) (fun b o hb q => keep b o (fun z => hb (by simp [z])) (fun z => hb (by simp [z])) q) (f J je ji) (Nat.le_refl _) ⟨by show 2 ≤ sizeLine; decide, [.int i s.toks, u], .cons ⟨_, rfl⟩ (.cons ru .nil), ⟨_, tup, rfl, _, rfl⟩⟩
    have hS1 : (upd J s.heap.objs.size (.tup [.int (i : Int), y])) S = some (.lst (ts.map V.ref)) := by rw [upd_ne (Ne.symm TS)]; exact hS0
    obtain ⟨_, js, n1, rv1, le1, el1⟩ := I2.lstM hS1
    have jl : js.length = i := by rw [← le1, List.length_map, en.len]
    have I3 := I2.lset (t' := s.toks + 1) (f := (·.push (.ref s.heap.objs.size))) (its' := js ++ [.ref s.heap.objs.size]) hS1 el1 (by simp) (rv1.append (.cons (show RelV (.ref s.heap.objs.size) (Value.ref s.heap.objs.size) from rfl) .nil)) (by rw [List.length_append, List.length_map, en.len]; show i + 1 ≤ sizeLine; omega)
    show wpAny _ A.in1 (updateSeq S (·.push (.ref s.heap.objs.size)) >>= fun r => _) _ _ _
    refine wpAny_bind (wpAny_updateSeq el1 rfl (wpAny_pure ⟨plainId_quiet F.plain_extend_loop _, ih (i + 1) _ (ts ++ [s.heap.objs.size]) _ (by omega) il ?_ ?_ ?_ I3 ?_ ?_⟩) (by rw [List.size_toArray]; omega) (by show (js.toArray.push _).size ≤ sizeLine + 1; rw [Array.size_push, List.size_toArray]; omega))
    · refine ⟨by rw [List.length_append, en.len]; rfl, by rw [upd_same, List.map_append]; rfl, fun b o bS q => ?_, fun j t y' h1 h2 => ?_⟩
      · rw [upd_ne bS, upd_ne (fun z => by rw [z] at q; have := en.same _ _ TS q; rw [fr] at this; cases this)]
        exact en.same b o bS q
      · by_cases c : j < ts.length
        · rw [List.getElem?_append_left c] at h1
          obtain ⟨p1, p2⟩ := en.pair j t y' h1 h2
          exact ⟨by rw [upd_ne p2, upd_ne (fun z => by rw [z, fr] at p1; cases p1)]; exact p1, p2⟩
        · rw [List.getElem?_append_right (by omega)] at h1
          have ej : j = i := by
            have := (List.getElem?_eq_some_iff.mp h1).1
            rw [List.length_singleton] at this
            have := en.len
            omega
          rw [ej, en.len, Nat.sub_self] at h1
          cases Option.some.inj h1
          rw [ej, hy] at h2
          cases Option.some.inj h2
          exact ⟨by rw [upd_ne TS, upd_same, ej], TS⟩
    · rw [upd_ne eS, upd_ne (Nat.ne_of_lt se)]
      exact je
    · rw [upd_ne iS, upd_ne (Nat.ne_of_lt si)]
      exact ji
    · exact st'.keep eS fun b o bS q => (Heap.get?_update_other _ _ (Ne.symm bS)).trans q
    · exact ht'.at fun o q => (Heap.get?_update_other _ _ (Ne.symm iS)).trans q
end
theorem en_nolen : typeLookup (.type "enumerate") "__len__" = pure none := by rw [typeLookup_type, builtinLookup_eq_fast]; kernel_rfl
theorem en_nohint : typeLookup (.type "enumerate") "__length_hint__" = pure none := by rw [typeLookup_type, builtinLookup_eq_fast]; kernel_rfl
section
variable {X : Cx} {e : Expr} {te : TE} {p p2 pos pos2 : Pos}
def tEnumL (te : TE) : TE := fun σ H Q => te σ H fun x H1 => ∃ (a : Addr) (ys : List V), x = .ref a ∧ H1 a = some (.lst ys) ∧ ys.length < sizeLine ∧ ∀ (l : Addr) (ts : List Addr) (H2 : Hp), H1 l = none → Same H1 H2 → H2 l = some (.lst (ts.map V.ref)) → ts.length = ys.length → (∀ (j : Nat) (t : Addr) (y : V), ts[j]? = some t → ys[j]? = some y → H2 t = some (.tup [.int (j : Int), y])) → Q (.ref l) H2
theorem pe_listenum (hc : X.calm = true) (hg : Gl X "list") (hm : X.mg "list" = none) (hg2 : Gl X "enumerate") (hm2 : X.mg "enumerate" = none) (he : PE X e te)
    (hs : starEach [e] X.env = [(false, eval e X.env)] := by rfl)
    (hs2 : starEach [(.Call (.Name "enumerate" p2) [e] [] pos2 : Expr)] X.env = [(false, eval (.Call (.Name "enumerate" p2) [e] [] pos2) X.env)] := by rfl) :
    PE X (.Call (.Name "list" p) [.Call (.Name "enumerate" p2) [e] [] pos2] [] pos) (tEnumL te) := by
  intro pins s σ H Q I h
  refine wpAny_Call_Name_kw (ld_blt I hg hm boot_list ?_ (by decide) (by decide))
  refine callWith_type1 ?_ hs2 rfl
  rw [hs2]
  refine Calls.spliced_cons ?_
  refine wpAny_Call_Name_kw (ld_blt I hg2 hm2 boot_enumerate ?_ (by decide) (by decide))
  refine callWith_type1 ?_ hs rfl
  rw [hs]
  refine Calls.spliced_cons (thn (he pins s σ H _ I h) fun u s1 ⟨x, H1, I1, r1, a, ys, hx, hq, hz, q⟩ => ?_)
  subst hx
  cases r1
  refine Calls.spliced_nil ?_
  obtain ⟨zl, its, n0, rv, ln, el⟩ := I1.lstM hq
  have hh : X.A.handled = none := I1.ok.hd hc
  refine call_enumerate_list ⟨_, el, rfl, n0, rfl⟩ fun h' he' hit hsz hk => ?_
  refine Calls.spliced_nil ?_
  have I2 : Inv X pins σ H1 { s1 with heap := h' } := I1.kept (t' := s1.toks) hk
  have I3 : Inv X pins σ (upd H1 h'.objs.size (.lst [])) { s1 with heap := h'.push { cls := .type "list", data := .seq #[] } } := I2.lnew (its := []) (t' := s1.toks) .nil (Nat.zero_le _)
  have fr : H1 h'.objs.size = none := I2.hok.fresh (Nat.le_refl _)
  have le : s1.heap.objs.size + 1 < h'.objs.size := by omega
  refine callType_codes (Q₁ := fun obj s₁ => obj = .ref h'.objs.size ∧ s₁ = { s1 with heap := h'.push { cls := .type "list", data := .seq #[] } }) F.called_list (F.typeCall_list_1 _) F.entry_list_init (code_list_new _ ⟨rfl, rfl⟩) ?_
  rintro obj s₁ ⟨rfl, rfl⟩
  have hS : (h'.push { cls := .type "list", data := .seq #[] }).get? h'.objs.size = some { cls := .type "list", data := .seq #[] } := Heap.get?_push_size _ rfl
  refine ⟨⟨_, hS, rfl⟩, F.args_list_init_2 _ _, ?_⟩
  show wpAny _ X.A.in1.in1 (do let old ← Builtin.List.listItems (.ref h'.objs.size); Builtin.List.listUpdate (.ref h'.objs.size) (fun _ => #[]); letGo old.toList.reverse; Builtin.List.listExtendWith (.ref h'.objs.size) (.ref (s1.heap.objs.size + 1)) .none) _ _ _
  refine wpAny_bind ?_
  unfold Builtin.List.listItems
  refine wpAny_bind (wpAny_seqItems hS rfl (wpAny_pure ?_))
  show wpAny _ X.A.in1.in1 (updateSeq h'.objs.size (fun _ => #[]) >>= fun _ => letGo (#[] : Array Value).toList.reverse >>= fun _ => Builtin.List.listExtendWith (.ref h'.objs.size) (.ref (s1.heap.objs.size + 1)) .none) _ _ _
  have I4 := I3.lset (t' := s1.toks) (f := fun _ => #[]) (its' := []) upd_same hS rfl .nil (Nat.zero_le _)
  rw [upd_upd] at I4
  refine wpAny_bind (wpAny_updateSeq hS rfl ?_)
  have oth : ∀ b o, h'.get? b = some o → ((h'.push { cls := .type "list", data := .seq #[] }).update h'.objs.size (Obj.mapSeq (fun _ => (#[] : Array Value)))).get? b = some o :=
    fun b o z => (Heap.get?_update_other _ _ (Ne.symm (Nat.ne_of_lt (Heap.lt_size z)))).trans (Heap.get?_push_of_some _ z)
  refine wpAny_bind (wpAny_letGo ?_)
  generalize hg4 : (h'.push { cls := .type "list", data := .seq #[] }).update h'.objs.size (Obj.mapSeq (fun _ => (#[] : Array Value))) = g4 at I4 oth ⊢
  have e4 : IsEnum g4 (s1.heap.objs.size + 1) s1.heap.objs.size ((0 : Nat) : Int) _ := oth _ _ he'
  have st4 : EnumAt g4 (s1.heap.objs.size + 1) s1.heap.objs.size h'.objs.size 0 := .inl ⟨rfl, _, e4⟩
  have it4 : g4.IsListIter s1.heap.objs.size a 0 := hit.at fun o z => oth _ _ z
  unfold Builtin.List.listExtendWith
  refine wpAny_bind (wpAny_typeOf (st4.type rfl) ?_)
  have h1 : Builtin.List.listSameRef (.ref h'.objs.size) (.ref (s1.heap.objs.size + 1)) = false := by
    have : h'.objs.size ≠ s1.heap.objs.size + 1 := by omega
    simp [Builtin.List.listSameRef, this]
  rw [if_neg (by rw [h1]; decide)]
  refine wpAny_bind (wpAny_pyIter_enum e4 ?_)
  refine wpAny_bind (wpAny_holding ?_)
  unfold Builtin.List.listLengthHint
  refine wpAny_bind (wpAny_specialOf (st4.type rfl) en_nolen ?_)
  show wpAny _ _ (specialOf (Value.ref (s1.heap.objs.size + 1)) "__length_hint__" >>= fun r => _) _ _ _
  refine wpAny_bind (wpAny_specialOf (st4.type rfl) en_nohint ?_)
  refine wpAny_pure ?_
  rw [if_pos (by rfl)]
  refine wpAny_bind (wpAny_rule ?_)
  obtain ⟨_, js, n4, rv4, ln4, el4⟩ := I4.lstM (l := h'.objs.size) upd_same
  have j0 : js = [] := List.length_eq_zero_iff.mp (by rw [← ln4]; rfl)
  subst j0
  refine wpAny_bind ?_
  unfold Builtin.List.listTouch
  show wpAny _ X.A.in1.in1 (updateSeq h'.objs.size (·.push .none) >>= fun r => updateSeq h'.objs.size (·.pop)) _ _ _
  have I5 := I4.lset (t' := s1.toks) (f := (·.push .none)) (ys := [.non]) (its' := [.none]) upd_same el4 rfl (.cons (show RelV .non Value.none from rfl) .nil) (by decide)
  rw [upd_upd] at I5
  refine wpAny_bind (wpAny_updateSeq el4 rfl ?_)
  have kp5 : ∀ b o, b ≠ h'.objs.size → g4.get? b = some o → (g4.update h'.objs.size (Obj.mapSeq (·.push .none))).get? b = some o := fun b o bS z => (Heap.get?_update_other _ _ (Ne.symm bS)).trans z
  generalize g4.update h'.objs.size (Obj.mapSeq (·.push .none)) = g5 at I5 kp5 ⊢
  obtain ⟨_, ks, n5, rv5, ln5, el5⟩ := I5.lstM (l := h'.objs.size) upd_same
  have I6 := I5.lset (t' := s1.toks) (f := (·.pop)) (ys := []) (its' := []) upd_same el5 (by
    have : ks.length = 1 := by rw [← ln5]; rfl
    obtain ⟨k0, rfl⟩ := List.length_eq_one_iff.mp this
    rfl) .nil (Nat.zero_le _)
  rw [upd_upd] at I6
  refine wpAny_updateSeq el5 rfl (wpAny_pure ⟨plainId_quiet F.plain_extend_loop _, ?_⟩)
  have kp : ∀ b o, b ≠ h'.objs.size → g4.get? b = some o → (g5.update h'.objs.size (Obj.mapSeq (·.pop))).get? b = some o := fun b o bS z => (Heap.get?_update_other _ _ (Ne.symm bS)).trans (kp5 b o bS z)
  have eS : s1.heap.objs.size + 1 ≠ h'.objs.size := by omega
  have iS : s1.heap.objs.size ≠ h'.objs.size := by omega
  have aS : a ≠ h'.objs.size := fun z => by rw [z, fr] at hq; cases hq
  have n1 : H1 (s1.heap.objs.size + 1) = none := I1.hok.fresh (Nat.le_succ _)
  have n2 : H1 s1.heap.objs.size = none := I1.hok.fresh (Nat.le_refl _)
  refine en_go (X := X) (σ := σ) (pins := pins) (H := H1) (A := X.A.in1) hh hq aS hz (Nat.succ_ne_self _) eS iS (fun J je ji b hb => ?_) (fun J ts s' en I' => ?_) (ys.length - 0) 0 _ [] _ rfl (Nat.zero_le _) ⟨rfl, upd_same, fun b o bS z => by rw [upd_ne bS]; exact z, fun j t y z => by cases z⟩ (by rw [upd_ne eS]; exact n1) (by rw [upd_ne iS]; exact n2) I6 (st4.keep eS kp) (it4.at fun o z => kp _ _ iS z)
  · rcases List.mem_cons.mp hb with rfl | hb
    · exact I1.fpOk (Nat.le_succ _) je
    · rw [List.mem_singleton.mp hb]
      exact I1.fpOk (Nat.le_refl _) ji
  · exact ⟨rfl, .ref h'.objs.size, J, I', rfl, q _ ts J fr (fun b o z => en.same b o (fun w => by rw [w, fr] at z; cases z) z) en.lst en.len fun j t y z1 z2 => (en.pair j t y z1 z2).1⟩
end
end L2
namespace L2
open PySem PySem.Spec PyProof.Rows
abbrev PrI := Addr × Key × V
def prI (ps : List PrI) : List V := ps.map fun q => .ref q.1
def PrOkI (H : Hp) (ps : List PrI) : Prop := ∀ q ∈ ps, H q.1 = some (.tup [kV q.2.1, q.2.2])
def putAllI : List (Key × V) → List PrI → List (Key × V)
  | kvs, [] => kvs
  | kvs, q :: ps => putAllI (putK kvs q.2.1 q.2.2) ps
theorem putAllI_snoc (q : PrI) : ∀ (ps : List PrI) (kvs : List (Key × V)), putAllI kvs (ps ++ [q]) = putK (putAllI kvs ps) q.2.1 q.2.2
  | [], _ => rfl
  | p :: ps, kvs => putAllI_snoc q ps (putK kvs p.2.1 p.2.2)
theorem putAllI_len : ∀ (ps : List PrI) (kvs : List (Key × V)), (putAllI kvs ps).length ≤ kvs.length + ps.length
  | [], _ => Nat.le_refl _
  | q :: ps, kvs => by
    have := putAllI_len ps (putK kvs q.2.1 q.2.2)
    have := length_putK kvs q.2.1 q.2.2
    show (putAllI (putK kvs q.2.1 q.2.2) ps).length ≤ kvs.length + (ps.length + 1)
    omega
section
variable {X : Cx} {pins : List (Addr × Obj)} {σ : St} {H : Hp}
theorem d_setI {s : Shared} {a : Addr} {v : V} {kr r : Value} {A : Around} {E : Value → Shared → Prop} {kvs : List (Key × V)} {k : Key} {Q : Unit → Shared → Prop} (I : Inv X pins σ H s) (e : H a = some (.dK kvs)) (l : kvs.length < sizeLine) (rk : RelV (kV k) kr) (rv : RelV v r)
    (h : ∀ h' tk, Heap.SameBut a s.heap h' → Inv X pins σ (upd H a (.dK (putK kvs k v))) { s with heap := h', toks := tk } → Q () { s with heap := h', toks := tk }) : wpAny (model X.prog X.w) A (dictSet a kr r) Q E s := by
  obtain ⟨z, hd, vs, rel, dd⟩ := dk_of I.hok e
  have hz : vs.length ≤ sizeLine := by rw [← Paired.length rel]; exact z
  have hl : (putK kvs k v).length ≤ sizeLine := by have := length_putK kvs k v; omega
  refine wpAny_dictSet_pairs (hsz := hz) (knd := mixKind X.prog X.w) (kV_is rk) dd fun h' dd' hs => h _ _ hs ?_
  obtain ⟨q, es, ep, hq, r'⟩ := id dd'
  exact d_write I (by rw [e]; exact True.intro) hs ⟨q, hq⟩ (dk_new hl hd (rel.put k rv) dd')
theorem dul_goI {l it D : Addr} {ps : List PrI} {A : Around} {R : Result → Shared → Prop} (hh : A.handled = none) (hu : A.units + 8 < cLine) (hl : H l = some (.lst (prI ps))) (hp : PrOkI H ps) (hD : H D = none) (hz : ps.length < sizeLine)
    (f0 : H it = none) (f1 : it ≠ X.env.locals) (f3 : it ∈ X.ex ∨ X.s₀.heap.objs.size ≤ it) (f4 : ∀ x c, X.env.cells.lookup x = some c → c ≠ it) (f5 : ∀ p ∈ X.pn ++ pins, p.1 ≠ it) (itD : it ≠ D)
    (hR : ∀ s', Inv X pins σ (upd H D (.dK (putAllI [] ps))) s' → R (.ok (.ret .none)) s') :
    ∀ (n i : Nat) (s : Shared), ps.length - i = n → i ≤ ps.length → Inv X pins σ (upd H D (.dK (putAllI [] (ps.take i)))) s → s.heap.IsListIter it l i →
      codeAny (model X.prog X.w) A (.builtin "dict.update.loop" ⟨[.ref D, .ref it, rawInt i, .none], []⟩) R s := by
  have lD : l ≠ D := fun e => by rw [e, hD] at hl; cases hl
  have pl_len : (prI ps).length = ps.length := List.length_map ..
  intro n
  induction n with
  | zero =>
    intro i s hn hi I st
    have ei : i = ps.length := by omega
    subst ei
    rw [List.take_of_length_le (Nat.le_refl _)] at I
    obtain ⟨its, rv, pl, _⟩ := I.list (SqL.of (show (upd H D (.dK (putAllI [] ps))) l = some (.lst (prI ps)) by rw [upd_ne lD]; exact hl))
    have hl' := rv.length
    refine codeAny_builtin dul_entry ?_
    rw [Around.under_plainId dul_plain _]
    unfold Builtin.«dict.update.loop»
    dsimp only [rawInt]
    refine wpAny_bind (wpAny_pyNext_list_end hh st pl.isList ?_ fun h' eb => ?_)
    · rw [pl_len] at hl'
      simp
      omega
    have I2 : Inv X pins σ (upd H D (.dK (putAllI [] ps))) { s with heap := h' } := I.turned (t' := s.toks) (fun b o hb e => eb b o hb e) (by rw [upd_ne itD]; exact f0) f1 f3 f4 f5
    exact wpAny_bind (wpAny_pure (wpAny_pure (hR _ I2)))
  | succ n ih =>
    intro i s hn hi I st
    have him : i < ps.length := by omega
    obtain ⟨q, hq⟩ : ∃ q, ps[i]? = some q := ⟨_, List.getElem?_eq_getElem him⟩
    have g1 := hp q (List.mem_of_getElem? hq)
    have et : ps.take (i + 1) = ps.take i ++ [q] := by rw [List.take_succ, hq]; rfl
    obtain ⟨its, rv, pl, _⟩ := I.list (SqL.of (show (upd H D (.dK (putAllI [] (ps.take i)))) l = some (.lst (prI ps)) by rw [upd_ne lD]; exact hl))
    obtain ⟨u, hu', ru⟩ := rv.get (i := i) (x := .ref q.1) (by unfold prI; rw [List.getElem?_map, hq]; rfl)
    obtain rfl : u = Value.ref q.1 := ru
    refine codeAny_builtin dul_entry ?_
    rw [Around.under_plainId dul_plain _]
    unfold Builtin.«dict.update.loop»
    dsimp only [rawInt]
    refine wpAny_bind (wpAny_pyNext_list_item st pl.isList (x := .ref q.1) (by simpa using hu') fun h' st' sb => ?_)
    have I2 : Inv X pins σ (upd H D (.dK (putAllI [] (ps.take i)))) { s with heap := h' } := I.turned (t' := s.toks) (fun b o hb e => (sb.2 b hb).trans e) (by rw [upd_ne itD]; exact f0) f1 f3 f4 f5
    have qD : q.1 ≠ D := fun e => by rw [e, hD] at g1; cases g1
    obtain ⟨its2, rv2, pt, _⟩ := I2.tuple (SqT.of (show (upd H D (.dK (putAllI [] (ps.take i)))) q.1 = some (.tup [kV q.2.1, q.2.2]) by rw [upd_ne qD]; exact g1))
    obtain ⟨ot, ho, hc, nt, hd⟩ := id pt
    have ty : ({ s with heap := h' } : Shared).TypeIs (.ref q.1) "tuple" := ⟨ot, ho, hc⟩
    have pi : ∀ (Q' : List Value → Shared → Prop) (E' : Value → Shared → Prop) (A' : Around), Q' its2 { s with heap := h' } → wpAny (model X.prog X.w) A' (Builtin.Dict.pairItems (.ref q.1)) Q' E' { s with heap := h' } := fun Q' E' A' q' => by
      unfold Builtin.Dict.pairItems
      refine wpAny_bind (wpAny_typeOf ty ?_)
      rw [if_pos (by decide)]
      refine wpAny_bind (wpAny_seqItems ho hd (wpAny_pure ?_))
      simpa using q'
    cases rv2 with
    | cons ra rr =>
      cases rr with
      | cons rb rr =>
        cases rr
        rename_i u1 u2
        dsimp only
        refine wpAny_bind (wpAny_holding (wpAny_bind (wpAny_tryCatch (pi _ _ _ ?_))))
        have hl2 := putAllI_len (ps.take i) []
        rw [List.length_take, List.length_nil] at hl2
        refine wpAny_holding (d_setI (k := q.2.1) (v := q.2.2) I2 upd_same (by omega) ra rb fun h2 tk2 sb2 I3 => ?_)
        rw [upd_upd, ← putAllI_snoc, ← et] at I3
        have st2 : h2.IsListIter it l (i + 1) := st'.at fun o e => (sb2.2 it itD).trans e
        refine wpAny_pure ⟨plainId_quiet dul_plain _, ?_⟩
        have ec : (Value.int ((i : Int) + 1) 0) = rawInt ((i + 1 : Nat) : Int) := by
          show Value.int ((i : Int) + 1) 0 = Value.int ((i + 1 : Nat) : Int) 0
          congr 1
        rw [ec]
        exact ih (i + 1) _ (by omega) (by omega) I3 st2
theorem call_dictI (hc : X.calm = true) (hu : X.A.units + 64 < cLine) : CallR X (.type "dict") (fun xs H Q => ∃ (l : Addr) (ps : List PrI), xs = [.ref l] ∧ H l = some (.lst (prI ps)) ∧ PrOkI H ps ∧ ps.length < sizeLine ∧
    ∀ d, H d = none → Q (.ref d) (upd H d (.dK (putAllI [] ps)))) := by
  intro pins s σ H xs us Q I r h
  obtain ⟨l, ps, rfl, hl, hp, hz, q⟩ := h
  obtain ⟨u, rfl, rx⟩ := vals1 r
  cases rx
  obtain ⟨zl, its, n0, rv, hlen, el⟩ := I.lstM hl
  have hh : X.A.handled = none := I.ok.hd hc
  have hD : H s.heap.objs.size = none := I.hok.fresh (Nat.le_refl _)
  refine callType_codes (Q₁ := fun obj s₁ => obj = .ref s.heap.objs.size ∧ s₁ = { s with heap := s.heap.push { cls := .type "dict", data := .dict #[] } }) F.kt_called_dict (F.kt_typeCall_dict_1 _) F.entry_dict_init (kt_code_dict_new _ ⟨rfl, rfl⟩) ?_
  rintro obj s₁ ⟨rfl, rfl⟩
  have I1 : Inv X pins σ (upd H s.heap.objs.size (.dK [])) { s with heap := s.heap.push { cls := .type "dict", data := .dict #[] } } :=
    I.laid (a := s.heap.objs.size) (o := .dK []) (t' := s.toks) (fun _ _ z => Heap.get?_push_of_some _ z) (Nat.le_refl _) (dk_empty s.heap I.big)
  have hT : ({ s with heap := s.heap.push { cls := .type "dict", data := .dict #[] } } : Shared).TypeIs (.ref s.heap.objs.size) "dict" := ⟨_, Heap.get?_push_size _ rfl, rfl⟩
  refine ⟨hT, F.args_dict_init_2 _ _, ?_⟩
  unfold Builtin.«dict.__init__»
  refine wpAny_bind ?_
  unfold Builtin.Dict.selfAndRest
  refine wpAny_bind (wpAny_notOrdered_dict hT ?_)
  show wpAny _ _ (pure (s.heap.objs.size, [Value.ref l])) _ _ _
  refine wpAny_pure ?_
  show wpAny _ _ (Builtin.Dict.updateFrom "dict.__init__" s.heap.objs.size (.ref l) [] .none) _ _ _
  have el1 : (s.heap.push { cls := .type "dict", data := .dict #[] }).get? l = some { cls := .type "list", data := .seq its.toArray n0 } := Heap.get?_push_of_some _ el
  have lt : l < s.heap.objs.size := Heap.lt_size el
  generalize hD' : s.heap.objs.size = D at *
  generalize s.heap.push { cls := .type "dict", data := .dict #[] } = g1 at *
  have tyl : ({ s with heap := g1 } : Shared).TypeIs (.ref l) "list" := ⟨_, el1, rfl⟩
  unfold Builtin.Dict.updateFrom
  refine wpAny_bind (wpAny_typeOf tyl ?_)
  rw [if_pos (by decide)]
  refine wpAny_bind (keys_none el1 hh fun h2 tk2 k2 => ?_)
  rw [if_pos (show (none : Option Value).isNone = true from rfl)]
  have I2 : Inv X pins σ (upd H D (.dK [])) { s with heap := h2, toks := tk2 } := I1.kept (t' := tk2) k2
  refine wpAny_bind (wpAny_rule ?_)
  have il : ({ s with heap := h2, toks := tk2 } : Shared).heap.IsList l its.toArray := ⟨_, k2 _ _ el1, rfl, n0, rfl⟩
  refine wpAny_bind (wpAny_pyIter_list il ?_)
  have hD2 : D < h2.objs.size := by
    obtain ⟨o, ho, _⟩ := hT
    exact Heap.lt_size (k2 _ _ ho)
  have I3 : Inv X pins σ (upd H D (.dK [])) { s with heap := h2.push { cls := .type "list_iterator", data := .fields #[.ref l, .int 0 0] }, toks := tk2 } := I2.kept (t' := tk2) fun b o e => Heap.get?_push_of_some _ e
  obtain ⟨f0, f1, f2, f3, f4, f5⟩ := I2.fpOk (b := h2.objs.size) (Nat.le_refl _) (I2.hok.fresh (Nat.le_refl _))
  have itD : h2.objs.size ≠ D := Nat.ne_of_gt hD2
  rw [upd_ne itD] at f0
  refine wpAny_pure ⟨plainId_quiet dul_plain _, ?_⟩
  refine dul_goI (X := X) (σ := σ) (pins := pins) (H := H) (l := l) (it := h2.objs.size) (D := D) (ps := ps) (A := X.A.in1) hh (by show X.A.units + 1 + 8 < cLine; omega) hl hp hD hz f0 f1 f3 f4 f5 itD (fun s' I' => ?_) (ps.length - 0) 0 _ rfl (Nat.zero_le _) I3 ⟨_, Heap.get?_push_size _ rfl, rfl, rfl⟩
  exact ⟨rfl, .ref D, _, I', rfl, q D hD⟩
end
end L2
namespace L2
open PySem PySem.Spec PyProof.Rows
def rRepS : R2 := fun x y H Q => ∃ (a : Str) (k : Int), x = .str a ∧ y = .int k ∧ PySem.MulOk a k ∧ Q (.str (PySem.Txt.mul a k)) H
theorem op_repS {X : Cx} : OpR X (binaryOp .Mult) rRepS := by
  intro pins s σ H x y v u Q I rx ry h
  obtain ⟨a, k, rfl, rfl, ok, q⟩ := h
  obtain ⟨t, rfl⟩ := rx
  obtain ⟨t', rfl⟩ := ry
  exact PySem.SB.mul ok fun t2 n => ⟨.str (PySem.Txt.mul a k), H, I.tok n, ⟨t2, rfl⟩, q⟩
end L2
set_option maxHeartbeats 4000000
namespace Law
open PySem L2
def spLaw (K : PySem.W.Frag) : Sp := fun vs H Q _ => ∃ (p : Addr) (ns : List Int), vs = [.ref p] ∧ SqL K H p (ns.map V.int) ∧ ns.length ≤ 63 ∧ ∀ H', Q (.bl true) H'
def spWhole : Sp := fun vs H Q _ => ∃ c : Int, vs = [.int c] ∧ Q (.bl true) H
theorem same_new {H : Hp} {p : Addr} (h : H p = none) (o : HO) : Same H (upd H p o) := fun b u q => by rw [upd_ne (ne_of_none q h)]; exact q
theorem fmod_in (x : Int) {y : Int} (h : 0 < y) : 0 ≤ x.fmod y ∧ x.fmod y < y := ⟨Int.fmod_nonneg_of_pos x h, Int.fmod_lt_of_pos x h⟩
theorem sz_fmod (x : Int) {y : Int} {n : Nat} (h : 0 < y) (k : Sz n y) : Sz n (x.fmod y) := by
  have e := fmod_in x h
  unfold Sz at k ⊢
  omega
def bit (m : Int) (i : Nat) : Bool := decide (m / 2 ^ i % 2 = 1)
def msum : Nat → (Nat → Bool) → Int
  | 0, _ => 0
  | n + 1, f => (if f 0 = true then 1 else 0) + 2 * msum n (fun i => f (i + 1))
theorem bit_half (s : Int) (i : Nat) : bit (s / 2) i = bit s (i + 1) := by
  unfold bit
  rw [Int.ediv_ediv_of_nonneg (by decide : (0 : Int) ≤ 2)]
  have e : (2 : Int) * 2 ^ i = 2 ^ (i + 1) := by rw [Int.pow_succ, Int.mul_comm]
  rw [e]
theorem bit_zero (s : Int) : bit s 0 = decide (s % 2 = 1) := by
  unfold bit
  rw [Int.pow_zero, Int.ediv_one]
theorem msum_half (n f) : msum (n + 1) f / 2 = msum n (fun i => f (i + 1)) := by
  show ((if f 0 = true then (1 : Int) else 0) + 2 * msum n (fun i => f (i + 1))) / 2 = _
  split <;> omega
theorem msum_odd (n f) : (msum (n + 1) f % 2 = 1) ↔ f 0 = true := by
  show (((if f 0 = true then (1 : Int) else 0) + 2 * msum n (fun i => f (i + 1))) % 2 = 1) ↔ _
  split <;> rename_i h
  · exact ⟨fun _ => h, fun _ => by omega⟩
  · exact ⟨fun e => by omega, fun e => absurd e h⟩
theorem msum_succ : ∀ n f, msum (n + 1) f = msum n f + (if f n = true then 2 ^ n else 0)
  | 0, f => by
    show (if f 0 = true then (1 : Int) else 0) + 2 * 0 = 0 + (if f 0 = true then (1 : Int) else 0)
    split <;> decide
  | n + 1, f => by
    show (if f 0 = true then (1 : Int) else 0) + 2 * msum (n + 1) (fun i => f (i + 1)) = (if f 0 = true then (1 : Int) else 0) + 2 * msum n (fun i => f (i + 1)) + (if f (n + 1) = true then 2 ^ (n + 1) else 0)
    rw [msum_succ n (fun i => f (i + 1)), Int.pow_succ]
    split <;> split <;> omega
theorem bit_msum : ∀ n f i, bit (msum n f) i = (decide (i < n) && f i)
  | 0, f, i => by
    unfold bit
    show decide ((0 : Int) / 2 ^ i % 2 = 1) = _
    rw [Int.zero_ediv]
    rfl
  | n + 1, f, 0 => by
    rw [bit_zero]
    by_cases h : f 0 = true
    · rw [decide_eq_true ((msum_odd n f).mpr h), h]; rfl
    · rw [decide_eq_false (fun e => h ((msum_odd n f).mp e)), Bool.eq_false_iff.mpr h]; rfl
  | n + 1, f, i + 1 => by
    rw [← bit_half, msum_half, bit_msum n]
    have : decide (i < n) = decide (i + 1 < n + 1) := by
      by_cases h : i < n
      · rw [decide_eq_true h, decide_eq_true (by omega)]
      · rw [decide_eq_false h, decide_eq_false (by omega)]
    rw [this]
def hands (n : Nat) (f : Nat → Bool) : List Int := ((List.range n).filter f).map fun i : Nat => (i : Int)
theorem hands_succ (n : Nat) (f : Nat → Bool) : hands (n + 1) f = if f n = true then hands n f ++ [(n : Int)] else hands n f := by
  unfold hands
  rw [List.range_succ, List.filter_append, List.map_append]
  by_cases h : f n = true
  · rw [if_pos h]; simp [h]
  · rw [if_neg h]
    have h' : f n = false := by simpa using h
    simp [h']
theorem hands_len (n : Nat) (f : Nat → Bool) : (hands n f).length ≤ n := by
  unfold hands
  rw [List.length_map]
  exact Nat.le_trans (List.length_filter_le _ _) (by simp)
def bsum (hs : List Int) : Int := (hs.map fun h => (1 : Int) * 2 ^ h.toNat).sum
theorem bsum_hands : ∀ n f, bsum (hands n f) = msum n f
  | 0, f => rfl
  | n + 1, f => by
    rw [hands_succ, msum_succ]
    by_cases h : f n = true
    · rw [if_pos h, if_pos h]
      unfold bsum
      rw [List.map_append, List.sum_append]
      have := bsum_hands n f
      unfold bsum at this
      rw [this]
      simp
    · rw [if_neg h, if_neg h, bsum_hands n f]
      omega
def ins (x : Int) : List Int → List Int
  | [] => [x]
  | y :: r => if x < y then x :: y :: r else if x = y then y :: r else y :: ins x r
def sset : List Int → List Int
  | [] => []
  | x :: r => ins x (sset r)
theorem ins_mem {x z : Int} : ∀ {l : List Int}, z ∈ ins x l ↔ z = x ∨ z ∈ l
  | [] => by unfold ins; simp
  | y :: r => by
    unfold ins
    split
    · simp
    · split
      · rename_i h; subst h; simp
      · rw [List.mem_cons, ins_mem (l := r), List.mem_cons]
        constructor
        · rintro (h | h | h)
          · exact .inr (.inl h)
          · exact .inl h
          · exact .inr (.inr h)
        · rintro (h | h | h)
          · exact .inr (.inl h)
          · exact .inl h
          · exact .inr (.inr h)
theorem ins_rise {x : Int} : ∀ {l : List Int}, l.Pairwise (· < ·) → (ins x l).Pairwise (· < ·)
  | [], _ => by unfold ins; simp
  | y :: r, h => by
    unfold ins
    rw [List.pairwise_cons] at h
    split
    · rename_i c
      rw [List.pairwise_cons]
      refine ⟨fun z hz => ?_, List.pairwise_cons.mpr h⟩
      rcases List.mem_cons.mp hz with e | e
      · omega
      · have := h.1 z e; omega
    · split
      · exact List.pairwise_cons.mpr h
      · rename_i c d
        rw [List.pairwise_cons]
        refine ⟨fun z hz => ?_, ins_rise h.2⟩
        rcases ins_mem.mp hz with e | e
        · omega
        · exact h.1 z e
theorem sset_mem {z : Int} : ∀ {l : List Int}, z ∈ sset l ↔ z ∈ l
  | [] => Iff.rfl
  | x :: r => by
    show z ∈ ins x (sset r) ↔ _
    rw [ins_mem, sset_mem, List.mem_cons]
theorem sset_rise : ∀ l : List Int, (sset l).Pairwise (· < ·)
  | [] => .nil
  | x :: r => ins_rise (sset_rise r)
theorem rise_uniq : ∀ {a b : List Int}, a.Pairwise (· < ·) → b.Pairwise (· < ·) → (∀ z, z ∈ a ↔ z ∈ b) → a = b
  | [], [], _, _, _ => rfl
  | [], y :: b, _, _, h => nomatch (h y).mpr (List.mem_cons_self ..)
  | x :: a, [], _, _, h => nomatch (h x).mp (List.mem_cons_self ..)
  | x :: a, y :: b, ha, hb, h => by
    rw [List.pairwise_cons] at ha hb
    have e : x = y := by
      rcases List.mem_cons.mp ((h x).mp (List.mem_cons_self ..)) with e | e
      · exact e
      · rcases List.mem_cons.mp ((h y).mpr (List.mem_cons_self ..)) with f | f
        · exact f.symm
        · have := ha.1 y f
          have := hb.1 x e
          omega
    subst e
    rw [rise_uniq ha.2 hb.2 fun z => ?_]
    constructor
    · intro hz
      rcases List.mem_cons.mp ((h z).mp (List.mem_cons_of_mem _ hz)) with e | e
      · have := ha.1 z hz; omega
      · exact e
    · intro hz
      rcases List.mem_cons.mp ((h z).mpr (List.mem_cons_of_mem _ hz)) with e | e
      · have := hb.1 z hz; omega
      · exact e
theorem sset_of {ms ns : List Int} (h : ms.Pairwise (· < ·)) (m : ∀ z, z ∈ ms ↔ z ∈ ns) : ms = sset ns := rise_uniq h (sset_rise ns) fun z => (m z).trans sset_mem.symm
theorem sset_len : ∀ l : List Int, (sset l).length ≤ l.length
  | [] => Nat.le_refl _
  | x :: r => by
    have ih := sset_len r
    have : ∀ l : List Int, (ins x l).length ≤ l.length + 1 := by
      intro l
      induction l with
      | nil => exact Nat.le_refl _
      | cons y l ihl =>
        unfold ins
        split
        · exact Nat.le_refl _
        · split
          · exact Nat.le_succ _
          · exact Nat.succ_le_succ ihl
    exact Nat.le_trans (this (sset r)) (Nat.succ_le_succ ih)
def isR (rs : List Int) (r : Int) (i : Nat) : Bool := decide (rs[i]? = some r)
def tierOf (rs : List Int) (r : Int) : Int := msum rs.length (isR rs r)
def tiersOf (rs : List Int) : List Int := ((sset rs).filter fun r => decide (0 < r)).map (tierOf rs)
def spC40 (K : PySem.W.Frag) : Sp := fun vs H Q _ => ∃ (p : Addr) (ns : List Int) (k : Int), vs = [.ref p, .int k] ∧ SqL K H p (ns.map V.int) ∧ ns.length ≤ 63 ∧ 0 ≤ k ∧ k ≤ 1000 ∧ ∀ z : Int, 0 ≤ z → z < 10 ^ 40 → Q (.int z) H
def spMixed : Sp := fun vs H Q _ => ∃ c b : Int, vs = [.int c, .int b] ∧ Sz 200 c ∧ Sz 64 b ∧ ∀ z : Int, 0 ≤ z → z < 10 ^ 18 → Q (.int z) H
theorem sz40 {c : Int} (h0 : 0 ≤ c) (h : c < 10 ^ 40) : Sz 200 c := sz_of (by omega) (by omega)
theorem sz18 {c : Int} (h0 : 0 ≤ c) (h : c < 10 ^ 18) : Sz 64 c := sz_of (by omega) (by omega)
theorem mix_end (x : Int) : 0 ≤ (x.fmod ((10 : Int) ^ (18 : Int).toNat + 3)).fdiv 7 ∧ (x.fmod ((10 : Int) ^ (18 : Int).toNat + 3)).fdiv 7 < 10 ^ 18 := by
  have h := fmod_in x (show (0 : Int) < (10 : Int) ^ (18 : Int).toNat + 3 by decide)
  generalize x.fmod ((10 : Int) ^ (18 : Int).toNat + 3) = y at h ⊢
  rw [Int.fdiv_eq_ediv_of_nonneg y (by decide)]
  have e : (10 : Int) ^ (18 : Int).toNat = 1000000000000000000 := by decide
  rw [e] at h
  omega
theorem same_upd {H H' : Hp} {l : Addr} {o : HO} (s : Same H H') (n : H l = none) : Same H (upd H' l o) := fun b u e => by
  rw [upd_ne (ne_of_none e n)]
  exact s b u e
theorem ifT {c : Bool} {A B : Prop} (e : c = true) (h : A) : if c = true then A else B := by rw [if_pos e]; exact h
theorem ifF {c : Bool} {A B : Prop} (e : c = false) (h : B) : if c = true then A else B := by rw [if_neg (by rw [e]; decide)]; exact h
theorem eq_t {a b : Int} (h : a = b) : decide (V.int a = V.int b) = true := by rw [h]; exact decide_eq_true rfl
theorem eq_f {a b : Int} (h : a ≠ b) : decide (V.int a = V.int b) = false := decide_eq_false fun e => h (V.int.inj e)
theorem int_at {ns : List Int} {i : Nat} {x : V} (h : (ns.map V.int)[i]? = some x) : ∃ z, ns[i]? = some z ∧ x = .int z := by
  rw [List.getElem?_map] at h
  cases e : ns[i]? with
  | none => rw [e] at h; cases h
  | some z => rw [e] at h; exact ⟨z, rfl, (Option.some.inj h).symm⟩
theorem atN {ns : List Int} {i : Nat} {z : Int} (h : ns[i]? = some z) : atI (ns.map V.int) (i : Int) = some (.int z) := atI_nat (by rw [List.getElem?_map, h]; rfl)
def spRanks (K : PySem.W.Frag) : Sp := fun vs H Q _ => ∃ (p : Addr) (ns : List Int) (k h : Int), vs = [.ref p, .int k, .int h] ∧ SqL K H p (ns.map V.int) ∧ ns.length ≤ 63 ∧ 0 ≤ k ∧ k ≤ 900 ∧ 1 ≤ h ∧ h ≤ 12 ∧
  ∀ (l : Addr) (rs : List Int) (H' : Hp), H l = none → Same H H' → H' l = some (.lst (rs.map V.int)) → (rs.length : Int) = h → (∀ r ∈ rs, 0 ≤ r ∧ r ≤ 1000000000) → Q (.ref l) H'
def spTier (K : PySem.W.Frag) : Sp := fun vs H Q _ => ∃ (p : Addr) (rs : List Int) (r : Int), vs = [.ref p, .int r] ∧ SqL K H p (rs.map V.int) ∧ rs.length ≤ 12 ∧ ∀ H' : Hp, Same H H' → Q (.int (tierOf rs r)) H'
def spSlip (K : PySem.W.Frag) : Sp := fun vs H Q _ => ∃ (p : Addr) (rs : List Int), vs = [.ref p] ∧ SqL K H p (rs.map V.int) ∧ rs.length ≤ 12 ∧
  ∀ (t : Addr) (H' : Hp), H t = none → Same H H' → H' t = some (.tup ((tiersOf rs).map V.int)) → Q (.ref t) H'
theorem pow_small {h : Nat} (hh : h < 64) : CPow 1 (h : Int) := ⟨by omega, by omega, by decide⟩
theorem mod_bit (m : Int) (i : Nat) : m / 2 ^ i % 2 = if bit m i = true then 1 else 0 := by
  have e : m / 2 ^ i % 2 = 0 ∨ m / 2 ^ i % 2 = 1 := by omega
  unfold bit
  rcases e with e | e
  · rw [e]; rfl
  · rw [e]; rfl
theorem more_is (m : Int) (h : Nat) : Builtin.bitOr m (1 * 2 ^ h) = m + 2 ^ h * (if (!bit m h) = true then 1 else 0) := by
  rw [Int.one_mul, PyProof.Rows.bitOr_and, PySem.W.kbt_bit, mod_bit]
  cases bit m h <;> simp
theorem or_msum (n : Nat) (f : Nat → Bool) : Builtin.bitOr (msum n f) (1 * 2 ^ n) = msum n f + 2 ^ n := by
  rw [more_is, bit_msum, decide_eq_false (Nat.lt_irrefl n)]
  simp
def spWith : Sp := fun vs H Q _ => ∃ m h : Int, vs = [.int m, .int h] ∧ 0 ≤ h ∧ h < 12 ∧ Q (.int (Builtin.bitOr m (1 * 2 ^ h.toNat))) H
def spSameSlip : Sp := fun vs H Q _ => ∃ (a b : Addr) (ts : List Int), vs = [.ref a, .ref b] ∧ H a = some (.tup (ts.map V.int)) ∧ H b = some (.tup (ts.map V.int)) ∧ Q (.bl true) H
theorem kan_nil {K : PySem.W.Frag} {t : Value} : PySem.W.kitAny K t [] = some false := rfl
theorem kan {K : PySem.W.Frag} {t c : Value} {cs : List Value} (h : PySem.W.kitOne K t c = some false) (r : PySem.W.kitAny K t cs = some false) : PySem.W.kitAny K t (c :: cs) = some false := by
  unfold PySem.W.kitAny
  rw [h]
  exact r
def off (H : Hp) (D : Addr) : Hp := fun b => if b = D then none else H b
theorem off_le (H : Hp) (D : Addr) : Same (off H D) H := fun b o e => by
  unfold off at e
  split at e
  · cases e
  · exact e
theorem off_at {H : Hp} {D b : Addr} {o : HO} (e : H b = some o) (n : b ≠ D) : off H D b = some o := by
  unfold off
  rw [if_neg n]
  exact e
theorem off_self {H : Hp} {D : Addr} : off H D D = none := by unfold off; rw [if_pos rfl]
theorem off_put {H H' : Hp} {D : Addr} {o : HO} (s : Same (off H D) H') : Same (off H D) (upd H' D o) := fun b u e => by
  rw [upd_ne (fun z => by rw [z, off_self] at e; cases e)]
  exact s _ _ e
theorem off_of {H0 H : Hp} {D : Addr} (s : Same H0 H) (n : H0 D = none) : Same H0 (off H D) := fun b o e => off_at (s _ _ e) fun z => by rw [z, n] at e; cases e
theorem off_upd {H : Hp} {D : Addr} {o : HO} : off (upd H D o) D = off H D := funext fun b => by
  unfold off
  by_cases c : b = D
  · rw [if_pos c, if_pos c]
  · rw [if_neg c, if_neg c, upd_ne c]
def Lay (k : Nat) (d : PyData) : Prop := d.canLay0 = true ∧ d.depth ≤ k
mutual
theorem eqv_me : ∀ d : PyData, d.canLay0 = true → PyData.eqv d d = true
  | .none, _ => rfl
  | .bool b, _ => by show (b == b) = true; exact beq_self_eq_true b
  | .int i, _ => by show (i == i) = true; exact beq_self_eq_true i
  | .str x, _ => by show (x == x) = true; exact beq_self_eq_true x
  | .list xs, h => eqv_mes xs h
  | .tuple xs, h => eqv_mes xs h
  | .dict _, h => nomatch h
theorem eqv_mes : ∀ xs : List PyData, PyData.canLayAll0 xs = true → PyData.eqvAll xs xs = true
  | [], _ => rfl
  | x :: xs, h => by
    have h' : (PyData.canLay0 x && PyData.canLayAll0 xs) = true := h
    rw [Bool.and_eq_true] at h'
    show (PyData.eqv x x && PyData.eqvAll xs xs) = true
    rw [eqv_me x h'.1, eqv_mes xs h'.2]
    rfl
end
theorem lay_all {k : Nat} : ∀ {xs : List PyData}, (∀ x ∈ xs, Lay k x) → PyData.canLayAll0 xs = true ∧ PyData.depthAll xs ≤ k
  | [], _ => ⟨rfl, Nat.zero_le _⟩
  | x :: xs, h => by
    obtain ⟨a, b⟩ := lay_all (xs := xs) fun y m => h y (List.mem_cons_of_mem _ m)
    obtain ⟨c, d⟩ := h x (List.mem_cons_self ..)
    refine ⟨?_, ?_⟩
    · show (PyData.canLay0 x && PyData.canLayAll0 xs) = true
      rw [a, c]; rfl
    · show max (PyData.depth x) (PyData.depthAll xs) ≤ k
      omega
theorem lay_list {k : Nat} {xs : List PyData} (h : ∀ x ∈ xs, Lay k x) : Lay (k + 1) (.list xs) := ⟨(lay_all h).1, Nat.succ_le_succ (lay_all h).2⟩
theorem lay_tup {k : Nat} {xs : List PyData} (h : ∀ x ∈ xs, Lay k x) : Lay (k + 1) (.tuple xs) := ⟨(lay_all h).1, Nat.succ_le_succ (lay_all h).2⟩
theorem lay_int (k : Nat) (i : Int) : Lay k (.int i) := ⟨rfl, Nat.zero_le _⟩
theorem Lay.mono {k n : Nat} {d : PyData} (h : Lay k d) (kn : k ≤ n) : Lay n d := ⟨h.1, Nat.le_trans h.2 kn⟩
theorem lay_map {α : Type} {k : Nat} {f : α → PyData} (h : ∀ x, Lay k (f x)) (xs : List α) : ∀ d ∈ xs.map f, Lay k d := fun d m => by
  obtain ⟨x, _, rfl⟩ := List.mem_map.mp m
  exact h x
theorem lay_ints (k : Nat) (ns : List Int) : ∀ d ∈ ns.map PyData.int, Lay k d := lay_map (fun i => lay_int k i) ns
theorem cut_drop {xs : List V} {j : Nat} : cutV xs (some (j : Int)) none = xs.drop j := by
  unfold cutV
  rw [HT.sIx_none, HT.sIx_nat]
  by_cases h : j ≤ xs.length
  · rw [Nat.min_eq_left h]
    exact List.take_of_length_le (by rw [List.length_drop]; exact Nat.le_refl _)
  · rw [Nat.min_eq_right (by omega), List.drop_of_length_le (Nat.le_refl _), List.drop_of_length_le (by omega)]
    exact List.take_nil
def isI : V → Bool
  | .int _ => true
  | _ => false
def okR : V → Bool
  | .int n => decide (0 ≤ n) && decide (n ≤ 1000000000)
  | _ => false
def okD : PyData → Bool
  | .int n => decide (0 ≤ n) && decide (n ≤ 1000000000)
  | _ => false
def Bad24 (K : PySem.W.Frag) (H : Hp) (x : V) (n : Nat) : Prop := (∃ t, TyOf K H x t ∧ PySem.W.kitOne K t (.type "list") = some false) ∨ ∃ a ys, x = .ref a ∧ H a = some (.lst ys) ∧ (∀ y ∈ ys, Wh K H y (isI y)) ∧ ys.length ≤ 14 ∧ (ys.length = n → ys.all okR = false)
theorem Bad24.same {K : PySem.W.Frag} {H H' : Hp} {x : V} {n : Nat} (s : Same H H') (h : Bad24 K H x n) : Bad24 K H' x n := by
  rcases h with ⟨t, ty, k⟩ | ⟨a, ys, e, ea, w, r⟩
  · exact .inl ⟨t, ty.same s, k⟩
  · exact .inr ⟨a, ys, e, s _ _ ea, fun y m => (w y m).same s, r⟩
inductive Sm (H : Hp) : V → PyData → Prop where
  | non : Sm H .non .none
  | bl (b : Bool) : Sm H (.bl b) (.bool b)
  | int (n : Int) : Sm H (.int n) (.int n)
  | str (z : Str) : Sm H (.str z) (.str z)
  | tup {a : Addr} {ns : List Int} (e : H a = some (.tup (ns.map V.int))) : Sm H (.ref a) (.tuple (ns.map .int))
  | lst {a : Addr} {ns : List Int} (e : H a = some (.lst (ns.map V.int))) : Sm H (.ref a) (.list (ns.map .int))
inductive Sms (H : Hp) : List V → List PyData → Prop where
  | nil : Sms H [] []
  | cons {x : V} {d : PyData} {xs : List V} {ds : List PyData} : Sm H x d → Sms H xs ds → Sms H (x :: xs) (d :: ds)
inductive Th (H : Hp) : V → PyData → Prop where
  | sm {x : V} {d : PyData} (h : Sm H x d) : Th H x d
  | lst {a : Addr} {xs : List V} {ds : List PyData} (e : H a = some (.lst xs)) (r : Sms H xs ds) : Th H (.ref a) (.list ds)
section
variable {K : PySem.W.Frag} {H H' : Hp}
theorem Sm.same (s : Same H H') {x : V} {d : PyData} (h : Sm H x d) : Sm H' x d := by
  cases h with
  | non => exact .non
  | bl b => exact .bl b
  | int n => exact .int n
  | str z => exact .str z
  | tup e => exact .tup (s _ _ e)
  | lst e => exact .lst (s _ _ e)
theorem Sms.same (s : Same H H') : ∀ {xs : List V} {ds : List PyData}, Sms H xs ds → Sms H' xs ds
  | _, _, .nil => .nil
  | _, _, .cons a r => .cons (a.same s) (r.same s)
theorem Th.same (s : Same H H') {x : V} {d : PyData} (h : Th H x d) : Th H' x d := by
  cases h with
  | sm h => exact .sm (h.same s)
  | lst e r => exact .lst (s _ _ e) (r.same s)
theorem Sms.app : ∀ {xs ys : List V} {ds es : List PyData}, Sms H xs ds → Sms H ys es → Sms H (xs ++ ys) (ds ++ es)
  | _, _, _, _, .nil, h => h
  | _, _, _, _, .cons a r, h => .cons a (r.app h)
theorem Sms.ints : ∀ ns : List Int, Sms H (ns.map V.int) (ns.map .int)
  | [] => .nil
  | n :: ns => .cons (.int n) (Sms.ints ns)
theorem Sms.len : ∀ {xs : List V} {ds : List PyData}, Sms H xs ds → xs.length = ds.length
  | _, _, .nil => rfl
  | _, _, .cons _ r => congrArg (· + 1) r.len
theorem Sms.get : ∀ {xs : List V} {ds : List PyData} {i : Nat} {x : V}, Sms H xs ds → xs[i]? = some x → ∃ d, ds[i]? = some d ∧ Sm H x d
  | _, _, _, _, .nil, e => by cases e
  | _, _, 0, _, .cons a _, e => by cases e; exact ⟨_, rfl, a⟩
  | _, _, i + 1, _, .cons _ r, e => Sms.get (i := i) r e
theorem Sm.rep {x : V} {d : PyData} (h : Sm H x d) : Rep K H x d := by
  cases h with
  | non => exact .non
  | bl b => exact .bl b
  | int n => exact .int n
  | str z => exact .str z
  | tup e => exact .tup (SqT.of e) (.ints _)
  | lst e => exact .lst (SqL.of e) (.ints _)
theorem Sms.reps : ∀ {xs : List V} {ds : List PyData}, Sms H xs ds → Reps K H xs ds
  | _, _, .nil => .nil
  | _, _, .cons a r => .cons a.rep r.reps
theorem Th.rep {x : V} {d : PyData} (h : Th H x d) : Rep K H x d := by
  cases h with
  | sm h => exact h.rep
  | lst e r => exact .lst (SqL.of e) r.reps
theorem Sm.wh {x : V} {d : PyData} (h : Sm H x d) : Wh K H x (isI x) := by
  cases h with
  | non => exact Wh.non
  | bl b => exact Wh.bl b
  | int n => exact Wh.int n
  | str z => exact Wh.str z
  | tup e => exact Wh.tup e
  | lst e => exact Wh.lst e
theorem Sm.ok {x : V} {d : PyData} (h : Sm H x d) : okR x = okD d := by
  cases h <;> rfl
theorem Sms.wh : ∀ {xs : List V} {ds : List PyData}, Sms H xs ds → ∀ x ∈ xs, Wh K H x (isI x)
  | _, _, .nil, x, m => nomatch m
  | _, _, .cons a r, x, m => by
    rcases List.mem_cons.mp m with rfl | m
    · exact a.wh
    · exact r.wh x m
theorem Sms.all : ∀ {xs : List V} {ds : List PyData}, Sms H xs ds → xs.all okR = ds.all okD
  | _, _, .nil => rfl
  | _, _, .cons a r => by rw [List.all_cons, List.all_cons, a.ok, r.all]
def badD (n : Nat) : PyData → Prop
  | .list ds => ds.length ≤ 14 ∧ (ds.length = n → ds.all okD = false)
  | _ => True
theorem Sms.bad {n : Nat} {a : Addr} {xs : List V} {ds : List PyData} (e : H a = some (.lst xs)) (r : Sms H xs ds) (b : badD n (.list ds)) : Bad24 K H (.ref a) n :=
  .inr ⟨a, xs, rfl, e, r.wh, by rw [r.len]; exact b.1, fun l => by rw [r.all]; exact b.2 (r.len ▸ l)⟩
theorem Th.bad {n : Nat} {x : V} {d : PyData} (h : Th H x d) (b : badD n d) : Bad24 K H x n := by
  cases h with
  | lst e r => exact r.bad e b
  | sm h =>
    cases h with
    | non => exact .inl ⟨_, .non, kit_tt (by decide +kernel)⟩
    | bl c => exact .inl ⟨_, .bl c, kit_tt (by decide +kernel)⟩
    | int n => exact .inl ⟨_, .int n, kit_tt (by decide +kernel)⟩
    | str z => exact .inl ⟨_, .str z, kit_tt (by decide +kernel)⟩
    | tup e => exact .inl ⟨_, .tup e, kit_tt (by decide +kernel)⟩
    | lst e => exact (Sms.ints _).bad e b
end
def oddD (f : Int) : List PyData := [.int (-1 - f), .int (10 ^ (9 : Int).toNat + 1 + f), .int (-1), .int (10 ^ (9 : Int).toNat + 1), .bool true, .bool false, .none, .str (Str.ofString "1"), .str (Str.ofString ""), .tuple [.int 1], .list [.int 1]]
theorem odd_no {f : Int} (f0 : 0 ≤ f) : ∀ d ∈ oddD f, okD d = false ∧ Lay 2 d := fun d m => by
  have e9 : (10 : Int) ^ (9 : Int).toNat = 1000000000 := by decide
  unfold oddD at m
  rw [e9] at m
  simp only [List.mem_cons, List.not_mem_nil, or_false] at m
  rcases m with rfl | rfl | rfl | rfl | rfl | rfl | rfl | rfl | rfl | rfl | rfl
  · exact ⟨by show (decide (0 ≤ -1 - f) && _) = false; rw [decide_eq_false (by omega)]; rfl, lay_int _ _⟩
  · exact ⟨by show (_ && decide (1000000000 + 1 + f ≤ 1000000000)) = false; rw [decide_eq_false (show ¬ 1000000000 + 1 + f ≤ 1000000000 by omega), Bool.and_false], lay_int _ _⟩
  all_goals exact ⟨rfl, by decide +kernel, by decide⟩
def setD (rs : List Int) (k : Nat) (d : PyData) : PyData := .list ((rs.take k).map .int ++ [d] ++ (rs.drop (k + 1)).map .int)
theorem ones_lay {n : Nat} (h : n ≤ 12) : (PyData.str (PySem.Txt.mul (Str.ofString "1") (n : Nat))).canLay0 = true :=
  (by decide +kernel : ∀ i : Fin 13, (PyData.str (PySem.Txt.mul (Str.ofString "1") (i.val : Nat))).canLay0 = true) ⟨n, by omega⟩
theorem ones_ok {n : Nat} (h : n ≤ 12) : PySem.MulOk (Str.ofString "1") (n : Nat) :=
  (by unfold PySem.MulOk; decide +kernel : ∀ i : Fin 13, PySem.MulOk (Str.ofString "1") (i.val : Nat)) ⟨n, by omega⟩
def thingsD (rs : List Int) (k : Nat) (f m : Int) : List (Option PyData) := (oddD f).map (fun d => some (setD rs k d)) ++ [some (.list ((rs.take k).map .int ++ (rs.drop (k + 1)).map .int)), some (.list ((rs.take k).map .int ++ [.int m] ++ (rs.drop k).map .int)), some .none, some (.tuple (rs.map .int)),
  some (.str (PySem.Txt.mul (Str.ofString "1") (rs.length : Nat))), some (.int (rs.length : Nat)), some (.bool true), none, some (.list [.list (rs.map .int)])]
theorem things_are {rs : List Int} {k : Nat} {f m : Int} (f0 : 0 ≤ f) (l12 : rs.length ≤ 12) (hk : k < rs.length) : ∀ d, some d ∈ thingsD rs k f m → badD rs.length d ∧ Lay 5 d := fun d h => by
  have li : ∀ ns : List Int, ∀ x ∈ ns.map PyData.int, Lay 2 x := fun ns => lay_ints 2 ns
  have lap : ∀ {as bs : List PyData}, (∀ x ∈ as, Lay 2 x) → (∀ x ∈ bs, Lay 2 x) → ∀ x ∈ as ++ bs, Lay 2 x := fun a b x m => (List.mem_append.mp m).elim (a x) (b x)
  rcases List.mem_append.mp h with h | h
  · obtain ⟨e, me, eq⟩ := List.mem_map.mp h
    cases eq
    obtain ⟨no, ly⟩ := odd_no f0 e me
    refine ⟨⟨?_, fun _ => ?_⟩, (lay_list (k := 2) (lap (lap (li _) fun x m => by rw [List.mem_singleton.mp m]; exact ly) (li _))).mono (by decide)⟩
    · simp only [List.length_append, List.length_map, List.length_take, List.length_drop, List.length_singleton]
      omega
    · rw [List.all_append, List.all_append, List.all_cons, no]
      simp
  · simp only [List.mem_cons, List.not_mem_nil, or_false, Option.some.injEq, reduceCtorEq, false_or] at h
    rcases h with rfl | rfl | rfl | rfl | rfl | rfl | rfl | rfl
    · refine ⟨⟨?_, fun z => absurd z ?_⟩, (lay_list (k := 2) (lap (li _) (li _))).mono (by decide)⟩
      · simp only [List.length_append, List.length_map, List.length_take, List.length_drop]
        omega
      · simp only [List.length_append, List.length_map, List.length_take, List.length_drop]
        omega
    · refine ⟨⟨?_, fun z => absurd z ?_⟩, (lay_list (k := 2) (lap (lap (li _) fun x m => by rw [List.mem_singleton.mp m]; exact lay_int _ _) (li _))).mono (by decide)⟩
      · simp only [List.length_append, List.length_map, List.length_take, List.length_drop, List.length_singleton]
        omega
      · simp only [List.length_append, List.length_map, List.length_take, List.length_drop, List.length_singleton]
        omega
    · exact ⟨True.intro, rfl, by decide⟩
    · exact ⟨True.intro, (lay_tup (li rs)).mono (by decide)⟩
    · exact ⟨True.intro, ones_lay l12, Nat.zero_le _⟩
    · exact ⟨True.intro, lay_int _ _⟩
    · exact ⟨True.intro, rfl, by decide⟩
    · refine ⟨⟨(show 1 ≤ 14 by decide), fun _ => rfl⟩, (lay_list (k := 3) fun x m => by rw [List.mem_singleton.mp m]; exact lay_list (li rs)).mono (by decide)⟩
def prR (ts : List Addr) (rs : List Int) (i : Nat) : List PrI := match ts, rs with
  | t :: ts, r :: rs => (t, Sum.inl (i : Int), .int r) :: prR ts rs (i + 1)
  | _, _ => []
def kvR (rs : List Int) : List (Key × V) := putAllI [] (prR (rs.map fun _ => 0) rs 0)
theorem putAllI_like : ∀ {ps qs : List PrI} (kvs : List (Key × V)), ps.map (·.2) = qs.map (·.2) → putAllI kvs ps = putAllI kvs qs
  | [], [], _, _ => rfl
  | [], _ :: _, _, e => by cases e
  | _ :: _, [], _, e => by cases e
  | p :: ps, q :: qs, kvs, e => by
    rw [List.map_cons, List.map_cons] at e
    injection e with e1 e2
    show putAllI (putK kvs p.2.1 p.2.2) ps = putAllI (putK kvs q.2.1 q.2.2) qs
    rw [e1]
    exact putAllI_like _ e2
theorem prR_like : ∀ {ts us : List Addr} {rs : List Int} (i : Nat), ts.length = rs.length → us.length = rs.length → (prR ts rs i).map (·.2) = (prR us rs i).map (·.2)
  | [], [], [], _, _, _ => rfl
  | t :: ts, u :: us, r :: rs, i, h1, h2 => by
    show _ :: (prR ts rs (i + 1)).map (·.2) = _ :: (prR us rs (i + 1)).map (·.2)
    rw [prR_like (i + 1) (Nat.succ.inj h1) (Nat.succ.inj h2)]
  | [], _ :: _, _, _, h1, h2 => by rw [← h1] at h2; cases h2
  | _ :: _, [], _, _, h1, h2 => by rw [← h2] at h1; cases h1
  | [], [], _ :: _, _, h1, _ => by cases h1
  | _ :: _, _ :: _, [], _, h1, _ => by cases h1
theorem prR_v : ∀ {ts : List Addr} {rs : List Int} (i : Nat), ts.length = rs.length → prI (prR ts rs i) = ts.map V.ref
  | [], [], _, _ => rfl
  | t :: ts, r :: rs, i, h => by
    show _ :: prI (prR ts rs (i + 1)) = _
    rw [prR_v (i + 1) (Nat.succ.inj h)]
    rfl
theorem prR_mem : ∀ {ts : List Addr} {rs : List Int} (i : Nat) {q : PrI}, q ∈ prR ts rs i → ∃ (j : Nat) (t : Addr) (r : Int), ts[j]? = some t ∧ rs[j]? = some r ∧ q = (t, Sum.inl ((i + j : Nat) : Int), .int r)
  | [], _, _, _, m => nomatch m
  | _ :: _, [], _, _, m => nomatch m
  | t :: ts, r :: rs, i, q, m => by
    rcases List.mem_cons.mp (show q ∈ (t, Sum.inl (i : Int), V.int r) :: prR ts rs (i + 1) from m) with rfl | m
    · exact ⟨0, t, r, rfl, rfl, rfl⟩
    · obtain ⟨j, t', r', h1, h2, e⟩ := prR_mem (i + 1) m
      exact ⟨j + 1, t', r', h1, h2, by rw [e, show i + (j + 1) = i + 1 + j by omega]⟩
theorem prR_len : ∀ {ts : List Addr} {rs : List Int} (i : Nat), (prR ts rs i).length ≤ ts.length
  | [], _, _ => Nat.le_refl _
  | _ :: _, [], _ => Nat.zero_le _
  | t :: ts, r :: rs, i => Nat.succ_le_succ (prR_len (i + 1))
theorem putK_num {P : Key × V → Prop} {kvs : List (Key × V)} {k : Key} {v : V} (h : ∀ q ∈ kvs, P q) (p : P (k, v)) : ∀ q ∈ putK kvs k v, P q := fun q m => by
  unfold putK at m
  split at m
  · obtain ⟨x, mx, e⟩ := List.mem_map.mp m
    by_cases c : x.1 = k
    · rw [if_pos c] at e
      rw [← e, c]
      exact p
    · rw [if_neg c] at e
      rw [← e]
      exact h x mx
  · rcases List.mem_append.mp m with m | m
    · exact h q m
    · rw [List.mem_singleton.mp m]; exact p
theorem putAllI_num {P : Key × V → Prop} : ∀ {ps : List PrI} {kvs : List (Key × V)}, (∀ q ∈ kvs, P q) → (∀ q ∈ ps, P q.2) → ∀ q ∈ putAllI kvs ps, P q
  | [], _, h, _ => h
  | p :: ps, kvs, h, g => putAllI_num (ps := ps) (putK_num h (g p (List.mem_cons_self ..))) fun q m => g q (List.mem_cons_of_mem _ m)
theorem kvR_num (rs : List Int) : ∀ q ∈ kvR rs, (∃ z : Int, q.1 = Sum.inl z) ∧ ∃ n, q.2 = .int n :=
  putAllI_num (fun _ m => nomatch m) fun q m => by
    obtain ⟨j, t, r, _, _, rfl⟩ := prR_mem 0 m
    exact ⟨⟨_, rfl⟩, _, rfl⟩
def ThO (rs : List Int) (H0 H : Hp) (x : V) : Option PyData → Prop
  | some d => Th H x d
  | none => ∃ b, x = .ref b ∧ H0 b = none ∧ H b = some (.dK (kvR rs))
inductive Gots (rs : List Int) (H0 H : Hp) : List V → List (Option PyData) → Prop where
  | nil : Gots rs H0 H [] []
  | snoc {xs : List V} {ds : List (Option PyData)} {x : V} {d : Option PyData} (g : Gots rs H0 H xs ds) (h : ThO rs H0 H x d) : Gots rs H0 H (xs ++ [x]) (ds ++ [d])
section
variable {rs : List Int} {H0 H H' : Hp} {xs : List V} {ds : List (Option PyData)}
theorem Gots.same (s : Same H H') (g : Gots rs H0 H xs ds) : Gots rs H0 H' xs ds := by
  induction g with
  | nil => exact .nil
  | @snoc _ _ _ d g h ih =>
    refine .snoc ih ?_
    cases d with
    | some d => exact Th.same s h
    | none => exact ⟨h.choose, h.choose_spec.1, h.choose_spec.2.1, s _ _ h.choose_spec.2.2⟩
theorem Gots.len (g : Gots rs H0 H xs ds) : xs.length = ds.length := by
  induction g with
  | nil => rfl
  | snoc _ _ ih => rw [List.length_append, List.length_append, ih]; rfl
theorem Gots.get {i : Nat} {x : V} (g : Gots rs H0 H xs ds) (e : xs[i]? = some x) : ∃ d, ds[i]? = some d ∧ ThO rs H0 H x d := by
  induction g with
  | nil => cases e
  | @snoc xs ds y d g h ih =>
    have l := g.len
    by_cases c : i < xs.length
    · rw [List.getElem?_append_left c] at e
      obtain ⟨d', h1, h2⟩ := ih e
      exact ⟨d', by rw [List.getElem?_append_left (by omega)]; exact h1, h2⟩
    · rw [List.getElem?_append_right (by omega)] at e
      obtain ⟨z, e'⟩ : ∃ z, i - xs.length = z := ⟨_, rfl⟩
      rw [e'] at e
      cases z with
      | succ z => cases e
      | zero =>
        cases e
        exact ⟨d, by rw [List.getElem?_append_right (by omega), show i - ds.length = 0 by omega]; rfl, h⟩
theorem Gots.bad {K : PySem.W.Frag} {n i : Nat} {x : V} (g : Gots rs H0 H xs ds) (b : ∀ d, some d ∈ ds → badD n d) (e : xs[i]? = some x) : Bad24 K H x n := by
  obtain ⟨d, hd, h⟩ := g.get e
  cases d with
  | some d => exact Th.bad h (b d (List.mem_of_getElem? hd))
  | none =>
    obtain ⟨a, rfl, _, ea⟩ := h
    exact .inl ⟨_, .dK ea, kit_tt (by decide +kernel)⟩
theorem Gots.alike {K : PySem.W.Frag} {H1 H2 : Hp} {ys : List V} {i : Nat} {x y : V} (g : Gots rs H0 H1 xs ds) (s : Same H1 H2) (g2 : Gots rs H1 H2 ys ds) (ly : ∀ d, some d ∈ ds → Lay 5 d) (e1 : xs[i]? = some x) (e2 : ys[i]? = some y) : AlikeV K H2 x y := by
  obtain ⟨d, hd, h⟩ := g.get e1
  obtain ⟨d', hd', h'⟩ := g2.get e2
  rw [hd] at hd'
  cases hd'
  cases d with
  | some d => exact .inl ⟨d, (Th.same s h).rep, Th.rep h', (ly d (List.mem_of_getElem? hd)).1, Nat.le_trans (ly d (List.mem_of_getElem? hd)).2 (by decide)⟩
  | none =>
    obtain ⟨a, rfl, _, ea⟩ := h
    obtain ⟨b, rfl, nb, eb⟩ := h'
    exact .inr ⟨a, b, kvR rs, (fun z => by rw [z, nb] at ea; cases ea), rfl, rfl, s _ _ ea, eb, kvR_num rs⟩
end
theorem was_none {H H' : Hp} {b : Addr} (s : Same H H') (e : H' b = none) : H b = none := by
  cases h : H b with
  | none => rfl
  | some o => rw [s _ _ h] at e; cases e
theorem off_mono {H H' : Hp} {D : Addr} (s : Same H H') : Same (off H D) (off H' D) := off_of ((off_le H D).trans s) off_self
structure Bld (rs : List Int) (H0 : Hp) (l p : Addr) (n : Nat) (J : Hp) (zs : List V) (ds : List (Option PyData)) : Prop where
  el : J l = some (.lst zs)
  g : Gots rs H0 (off J l) zs ds
  hp : J p = some (.lst (rs.map V.int))
  s : Same H0 J
  ln : zs.length = n
theorem Bld.push {rs : List Int} {H0 J J' : Hp} {l p : Addr} {n : Nat} {zs : List V} {ds : List (Option PyData)} {x : V} {d : Option PyData} (h : Bld rs H0 l p n J zs ds) (nl : H0 l = none) (hp : H0 p = some (.lst (rs.map V.int))) (s : Same J J') (t : ThO rs H0 (off J' l) x d) : Bld rs H0 l p (n + 1) (upd J' l (.lst (zs ++ [x]))) (zs ++ [x]) (ds ++ [d]) where
  el := upd_same
  g := by rw [off_upd]; exact .snoc (h.g.same (off_mono s)) t
  hp := by rw [upd_ne (fun z => by rw [z, nl] at hp; cases hp)]; exact s _ _ h.hp
  s := same_upd (h.s.trans s) nl
  ln := by rw [List.length_append, h.ln]; rfl
def spWh (K : PySem.W.Frag) : Sp := fun vs H Q _ => ∃ x b, vs = [x] ∧ Wh K H x b ∧ Q (.bl b) H
def spRankX (K : PySem.W.Frag) : Sp := fun vs H Q _ => ∃ x, vs = [x] ∧ Wh K H x (isI x) ∧ Q (.bl (okR x)) H
def spAreX (K : PySem.W.Frag) : Sp := fun vs H Q _ => ∃ (x : V) (n : Nat), vs = [x, .int (n : Nat)] ∧ ((Bad24 K H x n ∧ ∀ H' : Hp, Same H H' → Q (.bl false) H') ∨
  ∃ (p : Addr) (rs : List Int), x = .ref p ∧ rs.length = n ∧ H p = some (.lst (rs.map V.int)) ∧ rs.length ≤ 12 ∧ (∀ r ∈ rs, 0 ≤ r ∧ r ≤ 1000000000) ∧ ∀ H' : Hp, Same H H' → Q (.bl true) H')
def spSlipX (K : PySem.W.Frag) (C : Addr) : Sp := fun vs H Q E => ∃ (x : V) (n : Nat), vs = [x, .int (n : Nat)] ∧ ((Bad24 K H x n ∧ ∀ H' : Hp, Same H H' → E (.ref C) none H') ∨
  ∃ (p : Addr) (rs : List Int), x = .ref p ∧ rs.length = n ∧ H p = some (.lst (rs.map V.int)) ∧ rs.length ≤ 12 ∧ (∀ r ∈ rs, 0 ≤ r ∧ r ≤ 1000000000) ∧
  ∀ (t : Addr) (H' : Hp), H t = none → Same H H' → H' t = some (.tup ((tiersOf rs).map V.int)) → Q (.ref t) H')
def spRef24 (K : PySem.W.Frag) : Sp := fun vs H Q _ => ∃ (x : V) (n : Nat), vs = [x, .int (n : Nat)] ∧ Bad24 K H x n ∧ ∀ H' : Hp, Same H H' → Q (.bl true) H'
def spBadR (K : PySem.W.Frag) : Sp := fun vs H Q _ => ∃ c : Int, vs = [.int c] ∧ 0 ≤ c ∧ c < 10 ^ 18 ∧ ∀ (l : Addr) (xs : List V) (H' : Hp), H l = none → Same H H' → H' l = some (.lst xs) → (∀ b o, H b = some o → Sms (off H' b) xs (oddD (c.fmod (10 ^ (30 : Int).toNat)))) → Q (.ref l) H'
def spBad24 (K : PySem.W.Frag) : Sp := fun vs H Q _ => ∃ (p : Addr) (rs : List Int) (c : Int), vs = [.ref p, .int c] ∧ H p = some (.lst (rs.map V.int)) ∧ 1 ≤ rs.length ∧ rs.length ≤ 12 ∧ 0 ≤ c ∧ c < 10 ^ 18 ∧
  ∀ (l : Addr) (xs : List V) (H' : Hp), H l = none → Same H H' → H' l = some (.lst xs) → Gots rs H H' xs (thingsD rs (c.fmod (rs.length : Nat)).toNat ((c.fdiv 12).fmod (10 ^ (30 : Int).toNat)) ((c.fdiv 12).fmod 3)) → Q (.ref l) H'
def top (i : Nat) : Stmt := PySem.Challenge.pw_pollproof_k24_ranks_refused.main.body.getD i (.Pass ⟨0, 0, 0, 0⟩)
abbrev s_with_one : Stmt := top 14
abbrev s_is_whole : Stmt := top 16
abbrev s_law_whole : Stmt := top 24
abbrev s_law_cell : Stmt := top 25
abbrev s_law_mixed : Stmt := top 26
abbrev s_law_tier : Stmt := top 28
abbrev s_law_bad_ranks : Stmt := top 33
abbrev s_is_rank : Stmt := top 19
abbrev s_tier_at : Stmt := top 21
abbrev s_law_ranks : Stmt := top 27
abbrev s_law_slip : Stmt := top 29
abbrev s_law_same_slip : Stmt := top 30
abbrev s_law_bad : Stmt := top 34
abbrev s_are_ranks : Stmt := top 20
abbrev s_slip_of : Stmt := top 22
abbrev s_law_refused : Stmt := top 31
abbrev s_law_named : Stmt := top 32
abbrev s_law : Stmt := top 35
theorem sc_with_one : FnScope ["mask", "hand"] ["mask", "hand"] (defScope s_with_one) := ⟨rfl, rfl, rfl, by decide +kernel, rfl, by decide +kernel, by decide +kernel⟩
theorem sc_is_whole : FnScope ["thing"] ["thing"] (defScope s_is_whole) := ⟨rfl, rfl, rfl, by decide +kernel, rfl, by decide +kernel, by decide +kernel⟩
theorem sc_law_whole : FnScope ["_law_found"] ["_law_found"] (defScope s_law_whole) := ⟨rfl, rfl, rfl, by decide +kernel, rfl, by decide +kernel, by decide +kernel⟩
theorem sc_law_cell : FnScope ["_law_script", "_law_k"] ["_law_script", "_law_k"] (defScope s_law_cell) := ⟨rfl, rfl, rfl, by decide +kernel, rfl, by decide +kernel, by decide +kernel⟩
theorem sc_law_mixed : FnScope ["_law_cell_here", "_law_by", "_law_number"] ["_law_cell_here", "_law_by"] (defScope s_law_mixed) := ⟨rfl, rfl, rfl, by decide +kernel, rfl, by decide +kernel, by decide +kernel⟩
theorem sc_law_tier : FnScope ["_law_ranks_here", "_law_rank"] ["_law_ranks_here", "_law_rank"] (defScope s_law_tier) := ⟨rfl, rfl, rfl, by decide +kernel, rfl, by decide +kernel, by decide +kernel⟩
theorem sc_law_bad_ranks : FnScope ["_law_cell_here", "_law_far", "_law_some"] ["_law_cell_here"] (defScope s_law_bad_ranks) := ⟨rfl, rfl, rfl, by decide +kernel, rfl, by decide +kernel, by decide +kernel⟩
theorem sc_is_rank : FnScope ["thing"] ["thing"] (defScope s_is_rank) := ⟨rfl, rfl, rfl, by decide +kernel, rfl, by decide +kernel, by decide +kernel⟩
theorem sc_tier_at : FnScope ["ranks", "wanted", "tier", "hand", "rank"] ["ranks", "wanted"] (defScope s_tier_at) := ⟨rfl, rfl, rfl, by decide +kernel, rfl, by decide +kernel, by decide +kernel⟩
theorem sc_law_ranks : FnScope ["_law_script", "_law_at", "_law_hands", "_law_head", "_law_spread", "_law_base", "_law_gap", "_law_ranks_here", "_law_hand", "_law_number", "_law_most"] ["_law_script", "_law_at", "_law_hands"] (defScope s_law_ranks) := ⟨rfl, rfl, rfl, by decide +kernel, rfl, by decide +kernel, by decide +kernel⟩
theorem sc_law_slip : FnScope ["_law_ranks_here"] ["_law_ranks_here"] (defScope s_law_slip) := ⟨rfl, rfl, rfl, by decide +kernel, rfl, by decide +kernel, by decide +kernel⟩
theorem sc_law_same_slip : FnScope ["_law_found", "_law_due", "_law_tier_here"] ["_law_found", "_law_due"] (defScope s_law_same_slip) := ⟨rfl, rfl, rfl, by decide +kernel, rfl, by decide +kernel, by decide +kernel⟩
theorem sc_law_bad : FnScope ["_law_ranks_here", "_law_cell_here", "_law_some", "_law_at", "_law_rank"] ["_law_ranks_here", "_law_cell_here"] (defScope s_law_bad) := ⟨rfl, rfl, rfl, by decide +kernel, rfl, by decide +kernel, by decide +kernel⟩
theorem sc_are_ranks : FnScope ["thing", "hands"] ["thing", "hands"] (defScope s_are_ranks) := ⟨rfl, rfl, rfl, by decide +kernel, rfl, by decide +kernel, by decide +kernel⟩
theorem sc_slip_of : FnScope ["ranks", "hands"] ["ranks", "hands"] (defScope s_slip_of) := ⟨rfl, rfl, rfl, by decide +kernel, rfl, by decide +kernel, by decide +kernel⟩
theorem sc_law_refused : FnScope ["_law_ranks_here", "_law_hands", "_law_refused_here", "e", "_law_others"] ["_law_ranks_here", "_law_hands"] (defScope s_law_refused) := ⟨rfl, rfl, rfl, by decide +kernel, rfl, by decide +kernel, by decide +kernel⟩
theorem sc_law_named : FnScope ["_law_ranks_here", "_law_hands", "_law_refused_here"] ["_law_ranks_here", "_law_hands"] (defScope s_law_named) := ⟨rfl, rfl, rfl, by decide +kernel, rfl, by decide +kernel, by decide +kernel⟩
theorem sc_law : FnScope ["_law_script", "_law_hands", "_law_ranks_here", "_law_due", "_law_cell_here", "_law_some", "_law_held", "_law_k"] ["_law_script"] (defScope s_law) := ⟨rfl, rfl, rfl, by decide +kernel, rfl, by decide +kernel, by decide +kernel⟩
structure Ads where
  f_with_one : Addr
  d_with_one : FuncData
  f_is_whole : Addr
  d_is_whole : FuncData
  f_law_whole : Addr
  d_law_whole : FuncData
  f_law_cell : Addr
  d_law_cell : FuncData
  f_law_mixed : Addr
  d_law_mixed : FuncData
  f_law_tier : Addr
  d_law_tier : FuncData
  f_law_bad_ranks : Addr
  d_law_bad_ranks : FuncData
  f_is_rank : Addr
  d_is_rank : FuncData
  f_tier_at : Addr
  d_tier_at : FuncData
  f_law_ranks : Addr
  d_law_ranks : FuncData
  f_law_slip : Addr
  d_law_slip : FuncData
  f_law_same_slip : Addr
  d_law_same_slip : FuncData
  f_law_bad : Addr
  d_law_bad : FuncData
  f_are_ranks : Addr
  d_are_ranks : FuncData
  f_slip_of : Addr
  d_slip_of : FuncData
  f_law_refused : Addr
  d_law_refused : FuncData
  f_law_named : Addr
  d_law_named : FuncData
  f_law : Addr
  d_law : FuncData
  c_NoBallot : Addr
  c_WrongNumber : Addr
  c_Torn : Addr
  c_TooHard : Addr
  c_NoWay : Addr
  c_NoSheet : Addr
  c_NoRow : Addr
  c_NoNumber : Addr
  c_NoChange : Addr
  c_NoBundle : Addr
  c_Ended : Addr
  c_PollError : Addr
  t_MOST_RANK : Tok
structure Tx (K : PySem.W.Frag) (mg : Str → Option Value) (a : Ads) : Prop where
  F_with_one : Fun K "with_one" "with_one" s_with_one a.f_with_one a.d_with_one
  b_with_one : Binds K a.d_with_one ["mask", "hand"] []
  m_with_one : mg "with_one" = some (.ref a.f_with_one)
  F_is_whole : Fun K "is_whole" "is_whole" s_is_whole a.f_is_whole a.d_is_whole
  b_is_whole : Binds K a.d_is_whole ["thing"] []
  m_is_whole : mg "is_whole" = some (.ref a.f_is_whole)
  F_law_whole : Fun K "_law_whole" "_law_whole" s_law_whole a.f_law_whole a.d_law_whole
  b_law_whole : Binds K a.d_law_whole ["_law_found"] []
  m_law_whole : mg "_law_whole" = some (.ref a.f_law_whole)
  F_law_cell : Fun K "_law_cell" "_law_cell" s_law_cell a.f_law_cell a.d_law_cell
  b_law_cell : Binds K a.d_law_cell ["_law_script", "_law_k"] []
  m_law_cell : mg "_law_cell" = some (.ref a.f_law_cell)
  F_law_mixed : Fun K "_law_mixed" "_law_mixed" s_law_mixed a.f_law_mixed a.d_law_mixed
  b_law_mixed : Binds K a.d_law_mixed ["_law_cell_here", "_law_by"] []
  m_law_mixed : mg "_law_mixed" = some (.ref a.f_law_mixed)
  F_law_tier : Fun K "_law_tier" "_law_tier" s_law_tier a.f_law_tier a.d_law_tier
  b_law_tier : Binds K a.d_law_tier ["_law_ranks_here", "_law_rank"] []
  m_law_tier : mg "_law_tier" = some (.ref a.f_law_tier)
  F_law_bad_ranks : Fun K "_law_bad_ranks" "_law_bad_ranks" s_law_bad_ranks a.f_law_bad_ranks a.d_law_bad_ranks
  b_law_bad_ranks : Binds K a.d_law_bad_ranks ["_law_cell_here"] []
  m_law_bad_ranks : mg "_law_bad_ranks" = some (.ref a.f_law_bad_ranks)
  F_is_rank : Fun K "is_rank" "is_rank" s_is_rank a.f_is_rank a.d_is_rank
  b_is_rank : Binds K a.d_is_rank ["thing"] []
  m_is_rank : mg "is_rank" = some (.ref a.f_is_rank)
  F_tier_at : Fun K "tier_at" "tier_at" s_tier_at a.f_tier_at a.d_tier_at
  b_tier_at : Binds K a.d_tier_at ["ranks", "wanted"] []
  m_tier_at : mg "tier_at" = some (.ref a.f_tier_at)
  F_law_ranks : Fun K "_law_ranks" "_law_ranks" s_law_ranks a.f_law_ranks a.d_law_ranks
  b_law_ranks : Binds K a.d_law_ranks ["_law_script", "_law_at", "_law_hands"] []
  m_law_ranks : mg "_law_ranks" = some (.ref a.f_law_ranks)
  F_law_slip : Fun K "_law_slip" "_law_slip" s_law_slip a.f_law_slip a.d_law_slip
  b_law_slip : Binds K a.d_law_slip ["_law_ranks_here"] []
  m_law_slip : mg "_law_slip" = some (.ref a.f_law_slip)
  F_law_same_slip : Fun K "_law_same_slip" "_law_same_slip" s_law_same_slip a.f_law_same_slip a.d_law_same_slip
  b_law_same_slip : Binds K a.d_law_same_slip ["_law_found", "_law_due"] []
  m_law_same_slip : mg "_law_same_slip" = some (.ref a.f_law_same_slip)
  F_law_bad : Fun K "_law_bad" "_law_bad" s_law_bad a.f_law_bad a.d_law_bad
  b_law_bad : Binds K a.d_law_bad ["_law_ranks_here", "_law_cell_here"] []
  m_law_bad : mg "_law_bad" = some (.ref a.f_law_bad)
  F_are_ranks : Fun K "are_ranks" "are_ranks" s_are_ranks a.f_are_ranks a.d_are_ranks
  b_are_ranks : Binds K a.d_are_ranks ["thing", "hands"] []
  m_are_ranks : mg "are_ranks" = some (.ref a.f_are_ranks)
  F_slip_of : Fun K "slip_of" "slip_of" s_slip_of a.f_slip_of a.d_slip_of
  b_slip_of : Binds K a.d_slip_of ["ranks", "hands"] []
  m_slip_of : mg "slip_of" = some (.ref a.f_slip_of)
  F_law_refused : Fun K "_law_refused" "_law_refused" s_law_refused a.f_law_refused a.d_law_refused
  b_law_refused : Binds K a.d_law_refused ["_law_ranks_here", "_law_hands"] []
  m_law_refused : mg "_law_refused" = some (.ref a.f_law_refused)
  F_law_named : Fun K "_law_named" "_law_named" s_law_named a.f_law_named a.d_law_named
  b_law_named : Binds K a.d_law_named ["_law_ranks_here", "_law_hands"] []
  m_law_named : mg "_law_named" = some (.ref a.f_law_named)
  F_law : Fun K "law" "law" s_law a.f_law a.d_law
  b_law : Binds K a.d_law ["_law_script"] []
  m_law : mg "law" = some (.ref a.f_law)
  z_ValueError : mg "ValueError" = none
  z_all : mg "all" = none
  z_bool : mg "bool" = none
  z_dict : mg "dict" = none
  z_enumerate : mg "enumerate" = none
  z_int : mg "int" = none
  z_isinstance : mg "isinstance" = none
  z_len : mg "len" = none
  z_list : mg "list" = none
  z_max : mg "max" = none
  z_range : mg "range" = none
  z_set : mg "set" = none
  z_sorted : mg "sorted" = none
  z_sum : mg "sum" = none
  z_tuple : mg "tuple" = none
  k_MOST_RANK : mg "MOST_RANK" = some (.int 1000000000 a.t_MOST_RANK)
  m_NoBallot : mg "NoBallot" = some (.ref a.c_NoBallot)
  h_NoBallot : HCls K a.c_NoBallot
  m_WrongNumber : mg "WrongNumber" = some (.ref a.c_WrongNumber)
  h_WrongNumber : HCls K a.c_WrongNumber
  m_Torn : mg "Torn" = some (.ref a.c_Torn)
  h_Torn : HCls K a.c_Torn
  m_TooHard : mg "TooHard" = some (.ref a.c_TooHard)
  h_TooHard : HCls K a.c_TooHard
  m_NoWay : mg "NoWay" = some (.ref a.c_NoWay)
  h_NoWay : HCls K a.c_NoWay
  m_NoSheet : mg "NoSheet" = some (.ref a.c_NoSheet)
  h_NoSheet : HCls K a.c_NoSheet
  m_NoRow : mg "NoRow" = some (.ref a.c_NoRow)
  h_NoRow : HCls K a.c_NoRow
  m_NoNumber : mg "NoNumber" = some (.ref a.c_NoNumber)
  h_NoNumber : HCls K a.c_NoNumber
  m_NoChange : mg "NoChange" = some (.ref a.c_NoChange)
  h_NoChange : HCls K a.c_NoChange
  m_NoBundle : mg "NoBundle" = some (.ref a.c_NoBundle)
  h_NoBundle : HCls K a.c_NoBundle
  m_Ended : mg "Ended" = some (.ref a.c_Ended)
  h_Ended : HCls K a.c_Ended
  m_PollError : mg "PollError" = some (.ref a.c_PollError)
  h_PollError : HCls K a.c_PollError
  x_NoBallot : XCls K a.c_NoBallot
  k_NoBallot : XKit K a.c_NoBallot
  v_NoBallot : PySem.W.subIn K (.ref a.c_NoBallot) (.type "ValueError") = some true
  s_NoBallot_NoBallot : PySem.W.subIn K (.ref a.c_NoBallot) (.ref a.c_NoBallot) = some true
  s_NoBallot_WrongNumber : PySem.W.subIn K (.ref a.c_NoBallot) (.ref a.c_WrongNumber) = some false
  s_NoBallot_Torn : PySem.W.subIn K (.ref a.c_NoBallot) (.ref a.c_Torn) = some false
  s_NoBallot_TooHard : PySem.W.subIn K (.ref a.c_NoBallot) (.ref a.c_TooHard) = some false
  s_NoBallot_NoWay : PySem.W.subIn K (.ref a.c_NoBallot) (.ref a.c_NoWay) = some false
  s_NoBallot_NoSheet : PySem.W.subIn K (.ref a.c_NoBallot) (.ref a.c_NoSheet) = some false
  s_NoBallot_NoRow : PySem.W.subIn K (.ref a.c_NoBallot) (.ref a.c_NoRow) = some false
  s_NoBallot_NoNumber : PySem.W.subIn K (.ref a.c_NoBallot) (.ref a.c_NoNumber) = some false
  s_NoBallot_NoChange : PySem.W.subIn K (.ref a.c_NoBallot) (.ref a.c_NoChange) = some false
  s_NoBallot_NoBundle : PySem.W.subIn K (.ref a.c_NoBallot) (.ref a.c_NoBundle) = some false
  s_NoBallot_Ended : PySem.W.subIn K (.ref a.c_NoBallot) (.ref a.c_Ended) = some false
  s_NoBallot_PollError : PySem.W.subIn K (.ref a.c_NoBallot) (.ref a.c_PollError) = some true
local macro_rules | `(tactic| trivial) => `(tactic| refine Sz.neg (by trivial))
local macro_rules | `(tactic| trivial) => `(tactic| refine Sz.fdiv (by trivial))
local macro_rules | `(tactic| trivial) => `(tactic| refine Sz.sub (by trivial) (by trivial))
local macro_rules | `(tactic| trivial) => `(tactic| refine Sz.add (by trivial) (by trivial))
local macro_rules | `(tactic| trivial) => `(tactic| refine Sz.mul (by trivial) (by trivial))
local macro_rules | `(tactic| trivial) => `(tactic| exact sz_fmod _ (by first | decide | decide +kernel) (szd 200))
local macro_rules | `(tactic| trivial) => `(tactic| first | assumption | exact szd 64 | exact szd 200 | exact szd 1000)
section
variable {P : Program} {w : World} {K : PySem.W.Frag} {mg : Str → Option Value} {base : Heap} {ad : Ads}
theorem ok_with_one (T : Tx K mg ad) : FnOk P w K mg base CX0 1 ad.f_with_one ad.d_with_one ["mask", "hand"] spWith := by
  refine T.F_with_one.ok sc_with_one (fun vs H Q E h => ?_) (fun cdv A outer s H vs Q E hr h => ?_)
  · obtain ⟨m, h, rfl, _⟩ := h
    rfl
  obtain ⟨m, h, rfl, h0, h1, q⟩ := h
  refine ⟨_, (@pss_one _ _ _ (@ps_ret _ _ _ _ (@pe_op _ _ _ _ _ _ _ _ op_or (pv 0) (@pe_op _ _ _ _ _ _ _ _ op_shl pe_int (pv 1))))), ?_⟩
  exact ⟨_, rfl, _, rfl, _, _, rfl, rfl, ⟨h0, by omega, by decide⟩, _, _, rfl, rfl, q⟩
theorem ok_is_whole (T : Tx K mg ad) : FnOk P w K mg base CX0 1 ad.f_is_whole ad.d_is_whole ["thing"] (spWh K) := by
  refine T.F_is_whole.ok sc_is_whole (fun vs H Q E h => ?_) (fun cdv A outer s H vs Q E hr h => ?_)
  · obtain ⟨x, b, rfl, _⟩ := h
    rfl
  obtain ⟨x, b, rfl, ⟨t, b1, b2, ty, k1, k2, e⟩, q⟩ := h
  refine ⟨_, (@pss_one _ _ _ (@ps_ret _ _ _ _ (@pe_and _ _ _ _ _ _ _ (@pe_callB _ _ _ _ _ _ _ _ _ call_isi (by rfl) T.z_isinstance PyProof.Rows.boot_isinstance (@pa_cons _ _ _ _ _ (pv 0) (@pa_cons _ _ _ _ _ (pe_bltn (v := .ty "int") rfl T.z_int PyProof.Rows.boot_int rfl) pa_nil (by rfl)) (by rfl)) (by decide) (by decide) (by rfl) (by rfl)) (@pe_one _ _ _ _ _ (@pe_not _ _ _ _ (@pe_callB _ _ _ _ _ _ _ _ _ call_isi (by rfl) T.z_isinstance PyProof.Rows.boot_isinstance (@pa_cons _ _ _ _ _ (pv 0) (@pa_cons _ _ _ _ _ (pe_bltn (v := .ty "bool") rfl T.z_bool PyProof.Rows.boot_bool rfl) pa_nil (by rfl)) (by rfl)) (by decide) (by decide) (by rfl) (by rfl))))))), ?_⟩
  refine ⟨_, rfl, _, _, _, _, rfl, ty, k1, _, rfl, ?_⟩
  subst e
  cases b1 with
  | true =>
    refine iteT ?_
    exact ⟨_, rfl, _, _, _, _, rfl, ty, k2, _, rfl, q⟩
  | false => exact iteF q
theorem ok_law_whole (T : Tx K mg ad) : FnOk P w K mg base CX0 1 ad.f_law_whole ad.d_law_whole ["_law_found"] spWhole := by
  refine T.F_law_whole.ok sc_law_whole (fun vs H Q E h => ?_) (fun cdv A outer s H vs Q E hr h => ?_)
  · obtain ⟨c, rfl, _⟩ := h
    rfl
  obtain ⟨c, rfl, q⟩ := h
  refine ⟨_, (@pss_one _ _ _ (@ps_ret _ _ _ _ (@pe_and _ _ _ _ _ _ _ (@pe_callB _ _ _ _ _ _ _ _ _ call_isi (by rfl) T.z_isinstance PyProof.Rows.boot_isinstance (@pa_cons _ _ _ _ _ (pv 0) (@pa_cons _ _ _ _ _ (pe_bltn (v := .ty "int") rfl T.z_int PyProof.Rows.boot_int rfl) pa_nil (by rfl)) (by rfl)) (by decide) (by decide) (by rfl) (by rfl)) (@pe_one _ _ _ _ _ (@pe_not _ _ _ _ (@pe_callB _ _ _ _ _ _ _ _ _ call_isi (by rfl) T.z_isinstance PyProof.Rows.boot_isinstance (@pa_cons _ _ _ _ _ (pv 0) (@pa_cons _ _ _ _ _ (pe_bltn (v := .ty "bool") rfl T.z_bool PyProof.Rows.boot_bool rfl) pa_nil (by rfl)) (by rfl)) (by decide) (by decide) (by rfl) (by rfl))))))), ?_⟩
  refine ⟨_, rfl, _, _, _, _, rfl, TyOf.int c, kit_int_int, _, rfl, ?_⟩
  refine iteT ?_
  exact ⟨_, rfl, _, _, _, _, rfl, TyOf.int c, kit_int_bool, _, rfl, q⟩
theorem ok_law_cell (T : Tx K mg ad) : FnOk P w K mg base CX0 1 ad.f_law_cell ad.d_law_cell ["_law_script", "_law_k"] (spC40 K) := by
  refine T.F_law_cell.ok sc_law_cell (fun vs H Q E h => ?_) (fun cdv A outer s H vs Q E hr h => ?_)
  · obtain ⟨p, ns, k, rfl, _⟩ := h
    rfl
  obtain ⟨p, ns, k, rfl, hS, h63, k0, k1, q⟩ := h
  refine ⟨_, (@pss_cons _ _ _ _ _ (@ps_if _ _ _ _ _ _ _ _ (@pt_cmpR _ _ _ _ _ _ _ _ op_lt (pv 1) (@pe_callB _ _ _ _ _ _ _ _ _ call_len_seq (by rfl) T.z_len PySem.boot_len (@pa_cons _ _ _ _ _ (pv 0) pa_nil (by rfl)) (by decide) (by decide) (by rfl) (by rfl)) (nomark _)) (@pss_one _ _ _ (@ps_ret _ _ _ _ (@pe_op _ _ _ _ _ _ _ _ op_modN (@pe_ix _ _ _ _ _ _ _ ix_list (pv 0) (pv 1) (fun _ _ => rfl)) (@pe_op _ _ _ _ _ _ _ _ op_pow pe_int pe_int)))) pss_nil) (@pss_one _ _ _ (@ps_ret _ _ _ _ (@pe_op _ _ _ _ _ _ _ _ op_modN (@pe_op _ _ _ _ _ _ _ _ op_mulB (@pe_op _ _ _ _ _ _ _ _ op_add (@pe_op _ _ _ _ _ _ _ _ op_mulB (pv 1) (pv 1)) pe_int) pe_int) pe_int)))), ?_⟩
  have hl : (ns.map V.int).length = ns.length := List.length_map _
  have szk : Sz 64 k := sz_of (by omega) (by omega)
  have p40 : (0 : Int) < 10 ^ (40 : Int).toNat := by decide +kernel
  refine ⟨_, rfl, _, rfl, p, _, rfl, .inl hS, _, _, rfl, rfl, _, rfl, ?_⟩
  refine ite2 (fun c => ?_) (fun c => ?_)
  · have c' : k < (((ns.map V.int).length : Nat) : Int) := of_decide_eq_true c
    rw [hl] at c'
    obtain ⟨v, hv⟩ := item_at k0 c'
    refine ⟨_, rfl, _, rfl, p, _, _, _, rfl, rfl, hS, hv, _, _, rfl, rfl, cpow40, _, _, rfl, rfl, (Int.ne_of_gt p40), ?_⟩
    exact q _ (fmod_in v p40).1 (fmod_in v p40).2
  · (repeat (first | refine ⟨_, rfl, ?_⟩ | refine ⟨_, _, rfl, rfl, ?_⟩ | refine ⟨rfl, ?_⟩ | refine ⟨(by show (_ : Int) ≠ 0; first | decide | decide +kernel), ?_⟩ | refine ⟨⟨(by show (_ : Int) ≠ 0; decide), szd 9000⟩, ?_⟩ | refine ⟨(by show CPow _ _; exact ⟨by decide, by decide, by decide⟩), ?_⟩ | refine ⟨(by show CMulB _ _; refine ⟨_, _, (by trivial), (by trivial), ?_⟩; decide +kernel), ?_⟩ | refine ⟨_, _, _, _, rfl, rfl, SqL.of (by assumption), (by rfl), ?_⟩ | refine ⟨_, _, _, _, rfl, rfl, SqT.of (by assumption), (by rfl), ?_⟩ | refine ⟨_, _, rfl, .inl (SqL.of (by assumption)), ?_⟩ | refine ⟨_, _, rfl, .inr (SqT.of (by assumption)), ?_⟩))
    have m := fmod_in ((k * k + 7) * 48271) (show (0 : Int) < 1009 by decide)
    exact q _ m.1 (Int.lt_trans m.2 (by decide))
theorem ok_law_mixed (T : Tx K mg ad) : FnOk P w K mg base CX0 1 ad.f_law_mixed ad.d_law_mixed ["_law_cell_here", "_law_by"] spMixed := by
  refine T.F_law_mixed.ok sc_law_mixed (fun vs H Q E h => ?_) (fun cdv A outer s H vs Q E hr h => ?_)
  · obtain ⟨c, b, rfl, _⟩ := h
    rfl
  obtain ⟨c, b, rfl, szc, szb, q⟩ := h
  refine ⟨_, (@pss_cons _ _ _ _ _ (@ps_set _ _ (2) _ _ _ _ sc_law_mixed.nd rfl (Or.inl rfl) (@pe_op _ _ _ _ _ _ _ _ op_add (@pe_op _ _ _ _ _ _ _ _ op_mulB (pv 0) pe_int) (@pe_op _ _ _ _ _ _ _ _ op_mulB (pv 1) pe_int)) (by rfl) (by first | exact .inl rfl | exact .inr rfl | assumption)) (@pss_cons _ _ _ _ _ (@ps_set _ _ (2) _ _ _ _ sc_law_mixed.nd rfl (Or.inl rfl) (@pe_op _ _ _ _ _ _ _ _ op_modN (@pe_op _ _ _ _ _ _ _ _ op_add (pv 2) pe_int) (@pe_op _ _ _ _ _ _ _ _ op_add (@pe_op _ _ _ _ _ _ _ _ op_pow pe_int pe_int) pe_int)) (by rfl) (by first | exact .inl rfl | exact .inr rfl | assumption)) (@pss_one _ _ _ (@ps_ret _ _ _ _ (@pe_op _ _ _ _ _ _ _ _ op_fdivB (@pe_op _ _ _ _ _ _ _ _ op_modN (@pe_op _ _ _ _ _ _ _ _ op_mulB (pv 2) (pv 2)) (@pe_op _ _ _ _ _ _ _ _ op_add (@pe_op _ _ _ _ _ _ _ _ op_pow pe_int pe_int) pe_int)) pe_int))))), ?_⟩
  (repeat (first | refine ⟨_, rfl, ?_⟩ | refine ⟨_, _, rfl, rfl, ?_⟩ | refine ⟨rfl, ?_⟩ | refine ⟨(by show (_ : Int) ≠ 0; first | decide | decide +kernel), ?_⟩ | refine ⟨⟨(by show (_ : Int) ≠ 0; decide), szd 9000⟩, ?_⟩ | refine ⟨(by show CPow _ _; exact ⟨by decide, by decide, by decide⟩), ?_⟩ | refine ⟨(by show CMulB _ _; refine ⟨_, _, (by trivial), (by trivial), ?_⟩; decide +kernel), ?_⟩ | refine ⟨_, _, _, _, rfl, rfl, SqL.of (by assumption), (by rfl), ?_⟩ | refine ⟨_, _, _, _, rfl, rfl, SqT.of (by assumption), (by rfl), ?_⟩ | refine ⟨_, _, rfl, .inl (SqL.of (by assumption)), ?_⟩ | refine ⟨_, _, rfl, .inr (SqT.of (by assumption)), ?_⟩))
  exact q _ (mix_end _).1 (mix_end _).2
theorem ok_law_tier (T : Tx K mg ad) : FnOk P w K mg base CX0 1 ad.f_law_tier ad.d_law_tier ["_law_ranks_here", "_law_rank"] (spTier K) := by
  refine T.F_law_tier.ok sc_law_tier (fun vs H Q E h => ?_) (fun cdv A outer s H vs Q E hr h => ?_)
  · obtain ⟨p, rs, r, rfl, _⟩ := h
    rfl
  obtain ⟨p, rs, r, rfl, hS, h12, q⟩ := h
  refine ⟨_, (@pss_one _ _ _ (@ps_ret _ _ _ _ (@pe_callB _ _ _ _ _ _ _ _ _ (call_sum rfl) (by rfl) T.z_sum PyProof.Rows.boot_sum (@pa_cons _ _ _ _ _ (pe_comp (fsc := defScope s_law_tier) (N := ["_law_ranks_here", "_law_rank"]) (Nc := ["_law_ranks_here", "_law_rank", "_law_hand"]) rfl rfl ⟨rfl, by decide +kernel, by decide +kernel, rfl, by decide +kernel, rfl, by decide +kernel, rfl, by decide +kernel⟩ rfl (pi_range1 rfl T.z_range (@pa_cons _ _ _ _ _ (@pe_callB _ _ _ _ _ _ _ _ _ call_len_seq (by rfl) T.z_len PySem.boot_len (@pa_cons _ _ _ _ _ (pv 0) pa_nil (by rfl)) (by decide) (by decide) (by rfl) (by rfl)) pa_nil (by rfl))) (fun _ _ _ _ => (pif_one (@pt_cmpR _ _ _ _ _ _ _ _ op_eq (@pe_ix _ _ _ _ _ _ _ (ix_listK K) (pv 0) (pv 2) (fun _ _ => rfl)) (pv 1) (nomark _)))) (fun _ _ _ _ => (@pe_op _ _ _ _ _ _ _ _ op_shl pe_int (pv 2)))) pa_nil (by rfl)) (by decide) (by decide) (by rfl) (by rfl)))), ?_⟩
  have hl : (rs.map V.int).length = rs.length := List.length_map _
  refine ⟨_, rfl, p, _, rfl, .inl hS, _, rfl, by omega, by omega, ?_⟩
  have en : (((rs.map V.int).length : Nat) : Int).toNat = rs.length := by omega
  rw [en]
  refine comp_range (small63 (by omega)) (fun D i ys H' => ys = ((hands i (isR rs r)).map fun h => (1 : Int) * 2 ^ h.toNat).map V.int ∧ H' = upd H D (.lst ys)) (fun D hD => ⟨rfl, rfl⟩) (fun D i ys H' ⟨e1, e2⟩ => ⟨by rw [e2]; exact upd_same, by rw [e1, List.length_map, List.length_map]; exact hands_len _ _⟩) ?_ ?_
  · rintro D i ys H' K1 K2 hD hi ⟨e1, rfl⟩ k1 k2
    obtain ⟨z, hz⟩ : ∃ z, rs[i]? = some z := ⟨_, List.getElem?_eq_getElem hi⟩
    have s1 := same_new hD (.lst ys)
    have ms := hands_succ i (isR rs r)
    have e0 : (0 : Int) + (i : Int) = (i : Int) := Int.zero_add _
    refine ⟨_, rfl, _, rfl, p, _, _, _, rfl, rfl, s1.seq hS, (by rw [e0]; exact atN hz), _, rfl, rfl, _, rfl, ?_⟩
    have eb : decide (V.int z = V.int r) = isR rs r i := by
      unfold isR
      rw [hz]
      by_cases c : z = r
      · rw [decide_eq_true (by rw [c]), decide_eq_true (by rw [c])]
      · rw [decide_eq_false (fun e => c (V.int.inj e)), decide_eq_false (fun e => c (Option.some.inj e))]
    rw [eb]
    cases e : isR rs r i with
    | true =>
      rw [e, if_pos rfl] at ms
      refine iteT ?_
      refine ⟨_, rfl, _, _, rfl, rfl, (by rw [e0]; exact pow_small (by omega)), ?_⟩
      refine k1 _ _ upd_same ⟨?_, by rw [upd_upd]⟩
      rw [ms, List.map_append, List.map_append, e1]
      show _ = _ ++ [V.int (1 * 2 ^ (i : Int).toNat)]
      rw [e0]
    | false =>
      rw [e, if_neg (by decide)] at ms
      refine iteF ?_
      exact k2 _ ⟨by rw [ms]; exact e1, rfl⟩
  · rintro D ys H' hD ⟨rfl, rfl⟩
    refine ⟨D, _, rfl, SqL.of upd_same, ?_⟩
    have : ((hands rs.length (isR rs r)).map fun h => (1 : Int) * 2 ^ h.toNat).sum = tierOf rs r := bsum_hands _ _
    rw [this]
    exact q _ (same_new hD _)
theorem ok_law_bad_ranks (T : Tx K mg ad) : FnOk P w K mg base CX0 1 ad.f_law_bad_ranks ad.d_law_bad_ranks ["_law_cell_here"] (spBadR K) := by
  refine T.F_law_bad_ranks.ok sc_law_bad_ranks (fun vs H Q E h => ?_) (fun cdv A outer s H vs Q E hr h => ?_)
  · obtain ⟨c, rfl, _⟩ := h
    rfl
  obtain ⟨c, rfl, c0, c1, q⟩ := h
  refine ⟨_, (@pss_cons _ _ _ _ _ (@ps_set _ _ (1) _ _ _ _ sc_law_bad_ranks.nd rfl (Or.inl rfl) (@pe_op _ _ _ _ _ _ _ _ op_modN (pv 0) (@pe_op _ _ _ _ _ _ _ _ op_pow pe_int pe_int)) (by rfl) (by first | exact .inl rfl | exact .inr rfl | assumption)) (@pss_cons _ _ _ _ _ (@ps_set _ _ (2) _ _ _ _ sc_law_bad_ranks.nd rfl (Or.inl rfl) (@pe_lst _ _ _ _ (@pa_cons _ _ _ _ _ (@pe_op _ _ _ _ _ _ _ _ op_sub (@pe_un _ _ _ _ _ _ un_neg pe_int) (pv 1)) (@pa_cons _ _ _ _ _ (@pe_op _ _ _ _ _ _ _ _ op_add (@pe_op _ _ _ _ _ _ _ _ op_add (@pe_op _ _ _ _ _ _ _ _ op_pow pe_int pe_int) pe_int) (pv 1)) (@pa_cons _ _ _ _ _ (@pe_un _ _ _ _ _ _ un_neg pe_int) (@pa_cons _ _ _ _ _ (@pe_op _ _ _ _ _ _ _ _ op_add (@pe_op _ _ _ _ _ _ _ _ op_pow pe_int pe_int) pe_int) (@pa_cons _ _ _ _ _ pe_bl (@pa_cons _ _ _ _ _ pe_bl pa_nil (by rfl)) (by rfl)) (by rfl)) (by rfl)) (by rfl)) (by rfl))) (by rfl) (by first | exact .inl rfl | exact .inr rfl | assumption)) (@pss_one _ _ _ (@ps_ret _ _ _ _ (@pe_op _ _ _ _ _ _ _ _ op_cat (pv 2) (@pe_lst _ _ _ _ (@pa_cons _ _ _ _ _ pe_non (@pa_cons _ _ _ _ _ pe_str (@pa_cons _ _ _ _ _ pe_str (@pa_cons _ _ _ _ _ (@pe_tup _ _ _ _ _ (@pa_cons _ _ _ _ _ pe_int pa_nil (by rfl))) (@pa_cons _ _ _ _ _ (@pe_lst _ _ _ _ (@pa_cons _ _ _ _ _ pe_int pa_nil (by rfl))) pa_nil (by rfl)) (by rfl)) (by rfl)) (by rfl)) (by rfl)))))))), ?_⟩
  have szc := sz18 c0 c1
  (repeat (first | refine ⟨_, rfl, ?_⟩ | refine ⟨_, _, rfl, rfl, ?_⟩ | refine ⟨rfl, ?_⟩ | refine ⟨(by show (_ : Int) ≠ 0; first | decide | decide +kernel), ?_⟩ | refine ⟨⟨(by show (_ : Int) ≠ 0; decide), szd 9000⟩, ?_⟩ | refine ⟨(by show CPow _ _; exact ⟨by decide, by decide, by decide⟩), ?_⟩ | refine ⟨(by show CMulB _ _; refine ⟨_, _, (by trivial), (by trivial), ?_⟩; decide +kernel), ?_⟩ | refine ⟨_, _, _, _, rfl, rfl, SqL.of (by assumption), (by rfl), ?_⟩ | refine ⟨_, _, _, _, rfl, rfl, SqT.of (by assumption), (by rfl), ?_⟩ | refine ⟨_, _, rfl, .inl (SqL.of (by assumption)), ?_⟩ | refine ⟨_, _, rfl, .inr (SqT.of (by assumption)), ?_⟩))
  refine ⟨(by show 6 ≤ sizeLine; decide), fun a ha => ?_⟩
  have s1 := same_new ha (.lst [V.int (-1 - c.fmod (10 ^ (30 : Int).toNat)), V.int (10 ^ (9 : Int).toNat + 1 + c.fmod (10 ^ (30 : Int).toNat)), V.int (-1), V.int (10 ^ (9 : Int).toNat + 1), V.bl true, V.bl false])
  have e1 : (upd H a (.lst [V.int (-1 - c.fmod (10 ^ (30 : Int).toNat)), V.int (10 ^ (9 : Int).toNat + 1 + c.fmod (10 ^ (30 : Int).toNat)), V.int (-1), V.int (10 ^ (9 : Int).toNat + 1), V.bl true, V.bl false])) a = some (.lst [V.int (-1 - c.fmod (10 ^ (30 : Int).toNat)), V.int (10 ^ (9 : Int).toNat + 1 + c.fmod (10 ^ (30 : Int).toNat)), V.int (-1), V.int (10 ^ (9 : Int).toNat + 1), V.bl true, V.bl false]) := upd_same
  generalize upd H a (.lst [V.int (-1 - c.fmod (10 ^ (30 : Int).toNat)), V.int (10 ^ (9 : Int).toNat + 1 + c.fmod (10 ^ (30 : Int).toNat)), V.int (-1), V.int (10 ^ (9 : Int).toNat + 1), V.bl true, V.bl false]) = H1 at s1 e1 ⊢
  (repeat (first | refine ⟨_, rfl, ?_⟩ | refine ⟨_, _, rfl, rfl, ?_⟩ | refine ⟨rfl, ?_⟩ | refine ⟨(by show (_ : Int) ≠ 0; first | decide | decide +kernel), ?_⟩ | refine ⟨⟨(by show (_ : Int) ≠ 0; decide), szd 9000⟩, ?_⟩ | refine ⟨(by show CPow _ _; exact ⟨by decide, by decide, by decide⟩), ?_⟩ | refine ⟨(by show CMulB _ _; refine ⟨_, _, (by trivial), (by trivial), ?_⟩; decide +kernel), ?_⟩ | refine ⟨_, _, _, _, rfl, rfl, SqL.of (by assumption), (by rfl), ?_⟩ | refine ⟨_, _, _, _, rfl, rfl, SqT.of (by assumption), (by rfl), ?_⟩ | refine ⟨_, _, rfl, .inl (SqL.of (by assumption)), ?_⟩ | refine ⟨_, _, rfl, .inr (SqT.of (by assumption)), ?_⟩))
  refine ⟨(by show 1 ≤ sizeLine; decide), fun t ht => ?_⟩
  have s2 := same_new ht (.tup [V.int 1])
  have e2 : (upd H1 t (.tup [V.int 1])) t = some (.tup [V.int 1]) := upd_same
  generalize upd H1 t (.tup [V.int 1]) = H2 at s2 e2 ⊢
  refine ⟨(by show 1 ≤ sizeLine; decide), fun b hb => ?_⟩
  have s3 := same_new hb (.lst [V.int 1])
  have e3 : (upd H2 b (.lst [V.int 1])) b = some (.lst [V.int 1]) := upd_same
  generalize upd H2 b (.lst [V.int 1]) = H3 at s3 e3 ⊢
  refine ⟨(by show 5 ≤ sizeLine; decide), fun d hd => ?_⟩
  have s4 := same_new hd (.lst [V.non, V.str (Str.ofString "1"), V.str (Str.ofString ""), V.ref t, V.ref b])
  have e4 : (upd H3 d (.lst [V.non, V.str (Str.ofString "1"), V.str (Str.ofString ""), V.ref t, V.ref b])) d = some (.lst [V.non, V.str (Str.ofString "1"), V.str (Str.ofString ""), V.ref t, V.ref b]) := upd_same
  generalize upd H3 d (.lst [V.non, V.str (Str.ofString "1"), V.str (Str.ofString ""), V.ref t, V.ref b]) = H4 at s4 e4 ⊢
  refine ⟨a, d, _, _, rfl, rfl, s4 _ _ (s3 _ _ (s2 _ _ e1)), e4, (by show 11 ≤ sizeLine; decide), fun l hl => ?_⟩
  have sA := ((s1.trans s2).trans s3).trans s4
  have s5 := same_new hl (.lst ([V.int (-1 - c.fmod (10 ^ (30 : Int).toNat)), V.int (10 ^ (9 : Int).toNat + 1 + c.fmod (10 ^ (30 : Int).toNat)), V.int (-1), V.int (10 ^ (9 : Int).toNat + 1), V.bl true, V.bl false] ++ [V.non, V.str (Str.ofString "1"), V.str (Str.ofString ""), V.ref t, V.ref b]))
  refine q l _ _ (was_none sA hl) (sA.trans s5) upd_same fun z o hz => ?_
  have nt : t ≠ z := fun e => by rw [e, s1 _ _ hz] at ht; cases ht
  have nb : b ≠ z := fun e => by rw [e, s2 _ _ (s1 _ _ hz)] at hb; cases hb
  exact .cons (.int _) (.cons (.int _) (.cons (.int _) (.cons (.int _) (.cons (.bl true) (.cons (.bl false) (.cons .non (.cons (.str _) (.cons (.str _) (.cons (.tup (ns := [1]) (off_at (s5 _ _ (s4 _ _ (s3 _ _ e2))) nt)) (.cons (.lst (ns := [1]) (off_at (s5 _ _ (s4 _ _ e3)) nb)) .nil))))))))))
theorem ok_is_rank (T : Tx K mg ad) : FnOk P w K mg base CX0 2 ad.f_is_rank ad.d_is_rank ["thing"] (spRankX K) := by
  refine T.F_is_rank.ok sc_is_rank (fun vs H Q E h => ?_) (fun cdv A outer s H vs Q E hr h => ?_)
  · obtain ⟨x, rfl, _⟩ := h
    rfl
  obtain ⟨x, rfl, wx, q⟩ := h
  refine ⟨_, (@pss_one _ _ _ (@ps_ret _ _ _ _ (@pe_and _ _ _ _ _ _ _ (@pe_call _ _ _ _ _ _ _ _ _ _ _ _ _ _ _ _ (ok_is_whole T) (hr.mono (by decide)) rfl T.m_is_whole T.F_is_whole.kp T.b_is_whole .nil pass0 (@pa_cons _ _ _ _ _ (pv 0) pa_nil (by rfl)) (by decide) (by rfl) (by rfl)) (@pe_one _ _ _ _ _ (pe_chain op_le op_le pe_int (pv 0) (pe_glob (v := .int 1000000000) rfl T.k_MOST_RANK ⟨_, rfl⟩)))))), ?_⟩
  refine ⟨_, rfl, x, _, rfl, wx, _, rfl, ?_⟩
  cases x with
  | int n =>
    refine ifT rfl ?_
    by_cases n0 : 0 ≤ n
    · (repeat (first | refine ⟨_, rfl, ?_⟩ | refine ⟨_, _, rfl, rfl, ?_⟩ | refine ⟨rfl, ?_⟩ | refine ⟨(by show (_ : Int) ≠ 0; first | decide | decide +kernel), ?_⟩ | refine ⟨⟨(by show (_ : Int) ≠ 0; decide), szd 9000⟩, ?_⟩ | refine ⟨(by show CPow _ _; exact ⟨by decide, by decide, by decide⟩), ?_⟩ | refine ⟨(by show CMulB _ _; refine ⟨_, _, (by trivial), (by trivial), ?_⟩; decide +kernel), ?_⟩ | refine ⟨_, _, _, _, rfl, rfl, SqL.of (by assumption), (by rfl), ?_⟩ | refine ⟨_, _, _, _, rfl, rfl, SqT.of (by assumption), (by rfl), ?_⟩ | refine ⟨_, _, rfl, .inl (SqL.of (by assumption)), ?_⟩ | refine ⟨_, _, rfl, .inr (SqT.of (by assumption)), ?_⟩))
      refine ifT (decide_eq_true n0) ?_
      (repeat (first | refine ⟨_, rfl, ?_⟩ | refine ⟨_, _, rfl, rfl, ?_⟩ | refine ⟨rfl, ?_⟩ | refine ⟨(by show (_ : Int) ≠ 0; first | decide | decide +kernel), ?_⟩ | refine ⟨⟨(by show (_ : Int) ≠ 0; decide), szd 9000⟩, ?_⟩ | refine ⟨(by show CPow _ _; exact ⟨by decide, by decide, by decide⟩), ?_⟩ | refine ⟨(by show CMulB _ _; refine ⟨_, _, (by trivial), (by trivial), ?_⟩; decide +kernel), ?_⟩ | refine ⟨_, _, _, _, rfl, rfl, SqL.of (by assumption), (by rfl), ?_⟩ | refine ⟨_, _, _, _, rfl, rfl, SqT.of (by assumption), (by rfl), ?_⟩ | refine ⟨_, _, rfl, .inl (SqL.of (by assumption)), ?_⟩ | refine ⟨_, _, rfl, .inr (SqT.of (by assumption)), ?_⟩))
      have e : okR (.int n) = decide (n ≤ 1000000000) := by show (decide (0 ≤ n) && decide (n ≤ 1000000000)) = _; rw [decide_eq_true n0]; rfl
      rw [e] at q
      exact q
    · (repeat (first | refine ⟨_, rfl, ?_⟩ | refine ⟨_, _, rfl, rfl, ?_⟩ | refine ⟨rfl, ?_⟩ | refine ⟨(by show (_ : Int) ≠ 0; first | decide | decide +kernel), ?_⟩ | refine ⟨⟨(by show (_ : Int) ≠ 0; decide), szd 9000⟩, ?_⟩ | refine ⟨(by show CPow _ _; exact ⟨by decide, by decide, by decide⟩), ?_⟩ | refine ⟨(by show CMulB _ _; refine ⟨_, _, (by trivial), (by trivial), ?_⟩; decide +kernel), ?_⟩ | refine ⟨_, _, _, _, rfl, rfl, SqL.of (by assumption), (by rfl), ?_⟩ | refine ⟨_, _, _, _, rfl, rfl, SqT.of (by assumption), (by rfl), ?_⟩ | refine ⟨_, _, rfl, .inl (SqL.of (by assumption)), ?_⟩ | refine ⟨_, _, rfl, .inr (SqT.of (by assumption)), ?_⟩))
      refine ifF (decide_eq_false n0) ?_
      have e : okR (.int n) = false := by show (decide (0 ≤ n) && decide (n ≤ 1000000000)) = _; rw [decide_eq_false n0]; rfl
      rw [e] at q
      exact q
  | _ => exact ifF rfl q
theorem ok_tier_at (T : Tx K mg ad) : FnOk P w K mg base CX0 2 ad.f_tier_at ad.d_tier_at ["ranks", "wanted"] (spTier K) := by
  refine T.F_tier_at.ok sc_tier_at (fun vs H Q E h => ?_) (fun cdv A outer s H vs Q E hr h => ?_)
  · obtain ⟨p, rs, r, rfl, _⟩ := h
    rfl
  obtain ⟨p, rs, r, rfl, hS, h12, q⟩ := h
  refine ⟨_, (@pss_cons _ _ _ _ _ (@ps_set _ _ (2) _ _ _ _ sc_tier_at.nd rfl (Or.inl rfl) pe_int (by rfl) (by first | exact .inl rfl | exact .inr rfl | assumption)) (@pss_cons _ _ _ _ _ (ps_for PassesOwn.never rfl (pi_enum rfl T.z_enumerate (@pa_cons _ _ _ _ _ (pv 0) pa_nil (by rfl))) (pg_tup rfl (pgs_cons (pg_name (i := 3) sc_tier_at.nd rfl (Or.inl rfl)) (pgs_cons (pg_name (i := 4) sc_tier_at.nd rfl (Or.inl rfl)) pgs_nil))) (@pss_one _ _ _ (@ps_if _ _ _ _ _ _ _ _ (@pt_cmpR _ _ _ _ _ _ _ _ op_eq (pv 4) (pv 1) (nomark _)) (@pss_one _ _ _ (@ps_set _ _ (2) _ _ _ _ sc_tier_at.nd rfl (Or.inl rfl) (@pe_call _ _ _ _ _ _ _ _ _ _ _ _ _ _ _ _ (ok_with_one T) (hr.mono (by decide)) rfl T.m_with_one T.F_with_one.kp T.b_with_one .nil pass0 (@pa_cons _ _ _ _ _ (pv 2) (@pa_cons _ _ _ _ _ (pv 3) pa_nil (by rfl)) (by rfl)) (by decide) (by rfl) (by rfl)) (by rfl) (by first | exact .inl rfl | exact .inr rfl | assumption))) pss_nil))) (@pss_one _ _ _ (@ps_ret _ _ _ _ (pv 2))))), ?_⟩
  refine ⟨_, rfl, p, rfl, ⟨_, hS⟩, for_enum (xs := rs.map V.int) (fun i σ' H' => ∃ v3 v4, σ' = [some (.ref p), some (.int r), some (.int (msum i (isR rs r))), v3, v4] ∧ Same H H') ⟨none, none, rfl, fun _ _ e => e⟩ (fun i σ' H' _ ⟨_, _, _, e⟩ => e.seq hS) ?_ ?_⟩
  · rintro i x T0 σ' H' hx ⟨v3, v4, rfl, s1⟩ hT
    obtain ⟨z, hz, rfl⟩ := int_at hx
    have hi : i < rs.length := (List.getElem?_eq_some_iff.mp hz).1
    have s2 := same_new hT (.tup [.int (i : Int), .int z])
    have eT : (upd H' T0 (.tup [.int (i : Int), .int z])) T0 = some (.tup [.int (i : Int), .int z]) := upd_same
    generalize upd H' T0 (.tup [.int (i : Int), .int z]) = H2 at s2 eT ⊢
    refine ⟨T0, _, rfl, SqT.of eT, rfl, _, _, rfl, _, _, rfl, rfl, ?_⟩
    have ms := msum_succ i (isR rs r)
    have eb : decide (V.int z = V.int r) = isR rs r i := by
      unfold isR
      rw [hz]
      by_cases c : z = r
      · rw [decide_eq_true (by rw [c]), decide_eq_true (by rw [c])]
      · rw [decide_eq_false (fun e => c (V.int.inj e)), decide_eq_false (fun e => c (Option.some.inj e))]
    (repeat (first | refine ⟨_, rfl, ?_⟩ | refine ⟨_, _, rfl, rfl, ?_⟩ | refine ⟨rfl, ?_⟩ | refine ⟨(by show (_ : Int) ≠ 0; first | decide | decide +kernel), ?_⟩ | refine ⟨⟨(by show (_ : Int) ≠ 0; decide), szd 9000⟩, ?_⟩ | refine ⟨(by show CPow _ _; exact ⟨by decide, by decide, by decide⟩), ?_⟩ | refine ⟨(by show CMulB _ _; refine ⟨_, _, (by trivial), (by trivial), ?_⟩; decide +kernel), ?_⟩ | refine ⟨_, _, _, _, rfl, rfl, SqL.of (by assumption), (by rfl), ?_⟩ | refine ⟨_, _, _, _, rfl, rfl, SqT.of (by assumption), (by rfl), ?_⟩ | refine ⟨_, _, rfl, .inl (SqL.of (by assumption)), ?_⟩ | refine ⟨_, _, rfl, .inr (SqT.of (by assumption)), ?_⟩))
    cases er : isR rs r i with
    | true =>
      refine ifT (eb.trans er) ?_
      refine ⟨_, rfl, _, rfl, msum i (isR rs r), (i : Int), rfl, by omega, by omega, ?_⟩
      have e : Builtin.bitOr (msum i (isR rs r)) (1 * 2 ^ (i : Int).toNat) = msum (i + 1) (isR rs r) := by
        rw [ms, er, if_pos rfl, Int.toNat_natCast]
        exact or_msum i _
      rw [e]
      exact ⟨_, _, rfl, s1.trans s2⟩
    | false =>
      refine ifF (eb.trans er) ?_
      rw [er, if_neg (by decide), Int.add_zero] at ms
      exact ⟨_, _, by rw [ms]; rfl, s1.trans s2⟩
  · rintro σ' H' ⟨v3, v4, rfl, s1⟩
    refine ⟨_, rfl, ?_⟩
    rw [List.length_map]
    exact q _ s1
theorem ok_law_ranks (T : Tx K mg ad) : FnOk P w K mg base CX0 2 ad.f_law_ranks ad.d_law_ranks ["_law_script", "_law_at", "_law_hands"] (spRanks K) := by
  refine T.F_law_ranks.ok sc_law_ranks (fun vs H Q E h => ?_) (fun cdv A outer s H vs Q E hr h => ?_)
  · obtain ⟨p, ns, k, h, rfl, _⟩ := h
    rfl
  obtain ⟨p, ns, k, h, rfl, hS, h63, k0, k1, h1, h12, q⟩ := h
  refine ⟨_, (@pss_cons _ _ _ _ _ (@ps_set _ _ (3) _ _ _ _ sc_law_ranks.nd rfl (Or.inl rfl) (@pe_call _ _ _ _ _ _ _ _ _ _ _ _ _ _ _ _ (ok_law_cell T) (hr.mono (by decide)) rfl T.m_law_cell T.F_law_cell.kp T.b_law_cell .nil pass0 (@pa_cons _ _ _ _ _ (pv 0) (@pa_cons _ _ _ _ _ (pv 1) pa_nil (by rfl)) (by rfl)) (by decide) (by rfl) (by rfl)) (by rfl) (by first | exact .inl rfl | exact .inr rfl | assumption)) (@pss_cons _ _ _ _ _ (@ps_set _ _ (4) _ _ _ _ sc_law_ranks.nd rfl (Or.inl rfl) (@pe_op _ _ _ _ _ _ _ _ op_add pe_int (@pe_op _ _ _ _ _ _ _ _ op_modN (@pe_call _ _ _ _ _ _ _ _ _ _ _ _ _ _ _ _ (ok_law_mixed T) (hr.mono (by decide)) rfl T.m_law_mixed T.F_law_mixed.kp T.b_law_mixed .nil pass0 (@pa_cons _ _ _ _ _ (pv 3) (@pa_cons _ _ _ _ _ pe_int pa_nil (by rfl)) (by rfl)) (by decide) (by rfl) (by rfl)) (pv 2))) (by rfl) (by first | exact .inl rfl | exact .inr rfl | assumption)) (@pss_cons _ _ _ _ _ (@ps_set _ _ (5) _ _ _ _ sc_law_ranks.nd rfl (Or.inl rfl) pe_int (by rfl) (by first | exact .inl rfl | exact .inr rfl | assumption)) (@pss_cons _ _ _ _ _ (@ps_set _ _ (6) _ _ _ _ sc_law_ranks.nd rfl (Or.inl rfl) pe_int (by rfl) (by first | exact .inl rfl | exact .inr rfl | assumption)) (@pss_cons _ _ _ _ _ (@ps_ifJ _ _ _ _ _ _ _ _ (@pt_cmpR _ _ _ _ _ _ _ _ op_gt (@pe_op _ _ _ _ _ _ _ _ op_modN (pv 3) pe_int) pe_int (nomark _)) (@pss_cons _ _ _ _ _ (@ps_set _ _ (5) _ _ _ _ sc_law_ranks.nd rfl (Or.inl rfl) (@pe_op _ _ _ _ _ _ _ _ op_add pe_int (@pe_op _ _ _ _ _ _ _ _ op_modN (@pe_call _ _ _ _ _ _ _ _ _ _ _ _ _ _ _ _ (ok_law_mixed T) (hr.mono (by decide)) rfl T.m_law_mixed T.F_law_mixed.kp T.b_law_mixed .nil pass0 (@pa_cons _ _ _ _ _ (pv 3) (@pa_cons _ _ _ _ _ pe_int pa_nil (by rfl)) (by rfl)) (by decide) (by rfl) (by rfl)) pe_int)) (by rfl) (by first | exact .inl rfl | exact .inr rfl | assumption)) (@pss_one _ _ _ (@ps_set _ _ (6) _ _ _ _ sc_law_ranks.nd rfl (Or.inl rfl) (@pe_op _ _ _ _ _ _ _ _ op_add pe_int (@pe_op _ _ _ _ _ _ _ _ op_modN (@pe_call _ _ _ _ _ _ _ _ _ _ _ _ _ _ _ _ (ok_law_mixed T) (hr.mono (by decide)) rfl T.m_law_mixed T.F_law_mixed.kp T.b_law_mixed .nil pass0 (@pa_cons _ _ _ _ _ (pv 3) (@pa_cons _ _ _ _ _ pe_int pa_nil (by rfl)) (by rfl)) (by decide) (by rfl) (by rfl)) pe_int)) (by rfl) (by first | exact .inl rfl | exact .inr rfl | assumption)))) pss_nil) (@pss_cons _ _ _ _ _ (@ps_set _ _ (7) _ _ _ _ sc_law_ranks.nd rfl (Or.inl rfl) (@pe_lst _ _ _ _ pa_nil) (by rfl) (by first | exact .inl rfl | exact .inr rfl | assumption)) (@pss_cons _ _ _ _ _ (ps_for PassesOwn.never rfl (pi_range1 rfl T.z_range (@pa_cons _ _ _ _ _ (pv 2) pa_nil (by rfl))) (pg_name (i := 8) sc_law_ranks.nd rfl (Or.inl rfl)) (@pss_cons _ _ _ _ _ (@ps_set _ _ (9) _ _ _ _ sc_law_ranks.nd rfl (Or.inl rfl) (@pe_call _ _ _ _ _ _ _ _ _ _ _ _ _ _ _ _ (ok_law_mixed T) (hr.mono (by decide)) rfl T.m_law_mixed T.F_law_mixed.kp T.b_law_mixed .nil pass0 (@pa_cons _ _ _ _ _ (@pe_call _ _ _ _ _ _ _ _ _ _ _ _ _ _ _ _ (ok_law_cell T) (hr.mono (by decide)) rfl T.m_law_cell T.F_law_cell.kp T.b_law_cell .nil pass0 (@pa_cons _ _ _ _ _ (pv 0) (@pa_cons _ _ _ _ _ (@pe_op _ _ _ _ _ _ _ _ op_add (@pe_op _ _ _ _ _ _ _ _ op_add (pv 1) pe_int) (pv 8)) pa_nil (by rfl)) (by rfl)) (by decide) (by rfl) (by rfl)) (@pa_cons _ _ _ _ _ (pv 8) pa_nil (by rfl)) (by rfl)) (by decide) (by rfl) (by rfl)) (by rfl) (by first | exact .inl rfl | exact .inr rfl | assumption)) (@pss_one _ _ _ (@ps_if _ _ _ _ _ _ _ _ (PW.pt (@pw_and _ _ _ _ _ _ _ (@pt_cmpR _ _ _ _ _ _ _ _ op_eq (@pe_op _ _ _ _ _ _ _ _ op_modN (pv 9) pe_int) pe_int (nomark _)) (@pw_and1 _ _ _ _ (@pt_cmpR _ _ _ _ _ _ _ _ op_gt (@pe_op _ _ _ _ _ _ _ _ op_modN (@pe_op _ _ _ _ _ _ _ _ op_fdivB (pv 3) pe_int) pe_int) pe_int (nomark _))))) (@pss_one _ _ _ (@ps_expr _ _ _ _ (pe_bm PySem.F.plainAttrs_list PySem.F.slot_list_append PySem.F.type_list_append mt_append (pv 7) (@pa_cons _ _ _ _ _ pe_int pa_nil (by rfl))) (by rfl))) (@pss_one _ _ _ (@ps_expr _ _ _ _ (pe_bm PySem.F.plainAttrs_list PySem.F.slot_list_append PySem.F.type_list_append mt_append (pv 7) (@pa_cons _ _ _ _ _ (@pe_op _ _ _ _ _ _ _ _ op_add (pv 5) (@pe_op _ _ _ _ _ _ _ _ op_mulB (pv 6) (@pe_op _ _ _ _ _ _ _ _ op_modN (@pe_op _ _ _ _ _ _ _ _ op_fdivB (pv 9) pe_int) (pv 4)))) pa_nil (by rfl))) (by rfl))))))) (@pss_cons _ _ _ _ _ (@ps_if _ _ _ _ _ _ _ _ (PW.pt (@pw_and _ _ _ _ _ _ _ (@pt_cmpR _ _ _ _ _ _ _ _ op_eq (@pe_op _ _ _ _ _ _ _ _ op_modN (@pe_op _ _ _ _ _ _ _ _ op_fdivB (pv 3) pe_int) pe_int) pe_int (nomark _)) (@pw_and1 _ _ _ _ (@pt_cmpR _ _ _ _ _ _ _ _ op_gt (@pe_callB _ _ _ _ _ _ _ _ _ (call_max1 rfl) (by rfl) T.z_max PyProof.Rows.boot_max (@pa_cons _ _ _ _ _ (pv 7) pa_nil (by rfl)) (by decide) (by decide) (by rfl) (by rfl)) pe_int (nomark _))))) (@pss_cons _ _ _ _ _ (@ps_set _ _ (10) _ _ _ _ sc_law_ranks.nd rfl (Or.inr rfl) (@pe_callB _ _ _ _ _ _ _ _ _ (call_max1 rfl) (by rfl) T.z_max PyProof.Rows.boot_max (@pa_cons _ _ _ _ _ (pv 7) pa_nil (by rfl)) (by decide) (by decide) (by rfl) (by rfl)) (by rfl) (by first | exact .inl rfl | exact .inr rfl | assumption)) (@pss_one _ _ _ (ps_setC (j := 7) (fsc := defScope s_law_ranks) (N := ["_law_script", "_law_at", "_law_hands", "_law_head", "_law_spread", "_law_base", "_law_gap", "_law_ranks_here", "_law_hand", "_law_number", "_law_most"]) (Nc := ["_law_script", "_law_at", "_law_hands", "_law_head", "_law_spread", "_law_base", "_law_gap", "_law_ranks_here", "_law_hand", "_law_number", "_law_most", "_law_rank"]) rfl rfl ⟨rfl, by decide +kernel, by decide +kernel, rfl, by decide +kernel, rfl, by decide +kernel, rfl, by decide +kernel⟩ rfl sc_law_ranks.nd rfl rfl (pi_list (pv 7)) (fun _ _ _ _ => pif_nil) (fun _ _ _ _ => (@pe_ix _ _ _ _ _ _ _ (ix_listK K) (@pe_lst _ _ _ _ (@pa_cons _ _ _ _ _ (pv 11) (@pa_cons _ _ _ _ _ (@pe_op _ _ _ _ _ _ _ _ op_pow pe_int pe_int) pa_nil (by rfl)) (by rfl))) (@pe_callTy _ _ _ _ _ _ _ _ _ call_int1 (by rfl) T.z_int PyProof.Rows.boot_int (@pa_cons _ _ _ _ _ (@pe_cmpR _ _ _ _ _ _ _ _ op_eq (pv 11) (pv 10) (nomark _)) pa_nil (by rfl)) (by decide) (by decide) (by rfl) (by rfl)) (fun _ _ => rfl))) rfl))) pss_nil) (@pss_one _ _ _ (@ps_ret _ _ _ _ (pv 7))))))))))), ?_⟩
  refine ⟨_, rfl, _, rfl, p, ns, k, rfl, hS, h63, k0, by omega, fun c c0 c1 => ?_⟩
  have szc := sz40 c0 c1
  refine ⟨_, rfl, c, 3, rfl, szc, szd 64, fun z z0 z1 => ?_⟩
  refine ⟨_, rfl, _, _, rfl, rfl, (by show h ≠ 0; omega), _, _, rfl, rfl, ?_⟩
  have hm := fmod_in z (show (0 : Int) < h by omega)
  dsimp only
  generalize z.fmod h = sp at hm ⊢
  refine ⟨fun σ' H' => ∃ b g : Int, σ' = [some (.ref p), some (.int k), some (.int h), some (.int c), some (.int (1 + sp)), some (.int b), some (.int g), none, none, none, none] ∧ H' = H ∧ 1 ≤ b ∧ b ≤ 100000000 ∧ 1 ≤ g ∧ g ≤ 70000000, ?_, ?_⟩
  · (repeat (first | refine ⟨_, rfl, ?_⟩ | refine ⟨_, _, rfl, rfl, ?_⟩ | refine ⟨rfl, ?_⟩ | refine ⟨(by show (_ : Int) ≠ 0; first | decide | decide +kernel), ?_⟩ | refine ⟨⟨(by show (_ : Int) ≠ 0; decide), szd 9000⟩, ?_⟩ | refine ⟨(by show CPow _ _; exact ⟨by decide, by decide, by decide⟩), ?_⟩ | refine ⟨(by show CMulB _ _; refine ⟨_, _, (by trivial), (by trivial), ?_⟩; decide +kernel), ?_⟩ | refine ⟨_, _, _, _, rfl, rfl, SqL.of (by assumption), (by rfl), ?_⟩ | refine ⟨_, _, _, _, rfl, rfl, SqT.of (by assumption), (by rfl), ?_⟩ | refine ⟨_, _, rfl, .inl (SqL.of (by assumption)), ?_⟩ | refine ⟨_, _, rfl, .inr (SqT.of (by assumption)), ?_⟩))
    refine ite2 (fun _ => ?_) (fun _ => ?_)
    · refine ⟨_, rfl, c, 1, rfl, szc, szd 64, fun y y0 y1 => ?_⟩
      (repeat (first | refine ⟨_, rfl, ?_⟩ | refine ⟨_, _, rfl, rfl, ?_⟩ | refine ⟨rfl, ?_⟩ | refine ⟨(by show (_ : Int) ≠ 0; first | decide | decide +kernel), ?_⟩ | refine ⟨⟨(by show (_ : Int) ≠ 0; decide), szd 9000⟩, ?_⟩ | refine ⟨(by show CPow _ _; exact ⟨by decide, by decide, by decide⟩), ?_⟩ | refine ⟨(by show CMulB _ _; refine ⟨_, _, (by trivial), (by trivial), ?_⟩; decide +kernel), ?_⟩ | refine ⟨_, _, _, _, rfl, rfl, SqL.of (by assumption), (by rfl), ?_⟩ | refine ⟨_, _, _, _, rfl, rfl, SqT.of (by assumption), (by rfl), ?_⟩ | refine ⟨_, _, rfl, .inl (SqL.of (by assumption)), ?_⟩ | refine ⟨_, _, rfl, .inr (SqT.of (by assumption)), ?_⟩))
      have m1 := fmod_in y (show (0 : Int) < 100000000 by decide)
      (try dsimp only)
      generalize y.fmod 100000000 = b at m1 ⊢
      refine ⟨c, 2, rfl, szc, szd 64, fun y y0 y1 => ?_⟩
      (repeat (first | refine ⟨_, rfl, ?_⟩ | refine ⟨_, _, rfl, rfl, ?_⟩ | refine ⟨rfl, ?_⟩ | refine ⟨(by show (_ : Int) ≠ 0; first | decide | decide +kernel), ?_⟩ | refine ⟨⟨(by show (_ : Int) ≠ 0; decide), szd 9000⟩, ?_⟩ | refine ⟨(by show CPow _ _; exact ⟨by decide, by decide, by decide⟩), ?_⟩ | refine ⟨(by show CMulB _ _; refine ⟨_, _, (by trivial), (by trivial), ?_⟩; decide +kernel), ?_⟩ | refine ⟨_, _, _, _, rfl, rfl, SqL.of (by assumption), (by rfl), ?_⟩ | refine ⟨_, _, _, _, rfl, rfl, SqT.of (by assumption), (by rfl), ?_⟩ | refine ⟨_, _, rfl, .inl (SqL.of (by assumption)), ?_⟩ | refine ⟨_, _, rfl, .inr (SqT.of (by assumption)), ?_⟩))
      have m2 := fmod_in y (show (0 : Int) < 70000000 by decide)
      (try dsimp only)
      generalize y.fmod 70000000 = g at m2 ⊢
      exact ⟨by omega, by omega, by omega, by omega⟩
    · exact ⟨1, 1, rfl, rfl, by decide, by decide, by decide, by decide⟩
  rintro σ' H' ⟨b, g, rfl, rfl, b0, b1, g0, g1⟩
  refine ⟨(by show 0 ≤ sizeLine; decide), fun l hl => ?_⟩
  refine ⟨_, rfl, h, rfl, by omega, by omega, for_range (fun i σ' H1 => ∃ (v8 v9 : Option V) (rs : List Int), σ' = [some (.ref p), some (.int k), some (.int h), some (.int c), some (.int (1 + sp)), some (.int b), some (.int g), some (.ref l), v8, v9, none] ∧ rs.length = i ∧ Same H' H1 ∧ H1 l = some (.lst (rs.map V.int)) ∧ ∀ r ∈ rs, 0 ≤ r ∧ r ≤ 1000000000) ⟨none, none, [], rfl, rfl, same_new hl _, upd_same, fun r m => nomatch m⟩ ?_ ?_⟩
  · rintro i σ' H1 hi ⟨v8, v9, rs, rfl, e1, s1, e2, hR⟩
    have more : ∀ x : Int, 0 ≤ x → x ≤ 1000000000 → ∀ r ∈ rs ++ [x], 0 ≤ r ∧ r ≤ 1000000000 := fun x x0 x1 r m => by
      rcases List.mem_append.mp m with m | m
      · exact hR r m
      · rw [List.mem_singleton.mp m]; exact ⟨x0, x1⟩
    (repeat (first | refine ⟨_, rfl, ?_⟩ | refine ⟨_, _, rfl, rfl, ?_⟩ | refine ⟨rfl, ?_⟩ | refine ⟨(by show (_ : Int) ≠ 0; first | decide | decide +kernel), ?_⟩ | refine ⟨⟨(by show (_ : Int) ≠ 0; decide), szd 9000⟩, ?_⟩ | refine ⟨(by show CPow _ _; exact ⟨by decide, by decide, by decide⟩), ?_⟩ | refine ⟨(by show CMulB _ _; refine ⟨_, _, (by trivial), (by trivial), ?_⟩; decide +kernel), ?_⟩ | refine ⟨_, _, _, _, rfl, rfl, SqL.of (by assumption), (by rfl), ?_⟩ | refine ⟨_, _, _, _, rfl, rfl, SqT.of (by assumption), (by rfl), ?_⟩ | refine ⟨_, _, rfl, .inl (SqL.of (by assumption)), ?_⟩ | refine ⟨_, _, rfl, .inr (SqT.of (by assumption)), ?_⟩))
    refine ⟨p, ns, _, rfl, s1.seq hS, h63, by omega, by omega, fun c' c0' c1' => ?_⟩
    refine ⟨_, rfl, c', _, rfl, sz40 c0' c1', sz_of (by omega) (by omega), fun y y0 y1 => ?_⟩
    (repeat (first | refine ⟨_, rfl, ?_⟩ | refine ⟨_, _, rfl, rfl, ?_⟩ | refine ⟨rfl, ?_⟩ | refine ⟨(by show (_ : Int) ≠ 0; first | decide | decide +kernel), ?_⟩ | refine ⟨⟨(by show (_ : Int) ≠ 0; decide), szd 9000⟩, ?_⟩ | refine ⟨(by show CPow _ _; exact ⟨by decide, by decide, by decide⟩), ?_⟩ | refine ⟨(by show CMulB _ _; refine ⟨_, _, (by trivial), (by trivial), ?_⟩; decide +kernel), ?_⟩ | refine ⟨_, _, _, _, rfl, rfl, SqL.of (by assumption), (by rfl), ?_⟩ | refine ⟨_, _, _, _, rfl, rfl, SqT.of (by assumption), (by rfl), ?_⟩ | refine ⟨_, _, rfl, .inl (SqL.of (by assumption)), ?_⟩ | refine ⟨_, _, rfl, .inr (SqT.of (by assumption)), ?_⟩))
    have put : ∀ x : Int, 0 ≤ x → x ≤ 1000000000 → ∃ (w8 w9 : Option V) (qs : List Int), [some (V.ref p), some (.int k), some (.int h), some (.int c), some (.int (1 + sp)), some (.int b), some (.int g), some (.ref l), some (.int (0 + (i : Int))), some (.int y), none] = [some (V.ref p), some (.int k), some (.int h), some (.int c), some (.int (1 + sp)), some (.int b), some (.int g), some (.ref l), w8, w9, none] ∧ qs.length = i + 1 ∧ Same H' (upd H1 l (.lst (rs.map V.int ++ [.int x]))) ∧ (upd H1 l (.lst (rs.map V.int ++ [.int x]))) l = some (.lst (qs.map V.int)) ∧ ∀ r ∈ qs, 0 ≤ r ∧ r ≤ 1000000000 := fun x x0 x1 =>
      ⟨_, _, rs ++ [x], rfl, by rw [List.length_append, e1]; rfl, same_upd s1 hl, by rw [upd_same, List.map_append]; rfl, more x x0 x1⟩
    have lim : (rs.map V.int).length < sizeLine := by rw [List.length_map]; exact small1000 (by omega)
    have other : 0 ≤ b + g * ((y.fdiv 4).fmod (1 + sp)) ∧ b + g * ((y.fdiv 4).fmod (1 + sp)) ≤ 1000000000 := by
      have m := fmod_in (y.fdiv 4) (show (0 : Int) < 1 + sp by omega)
      generalize (y.fdiv 4).fmod (1 + sp) = x at m ⊢
      have x11 : x ≤ 11 := by omega
      have a1 := Int.mul_nonneg (show 0 ≤ g by omega) m.1
      have a2 := Int.mul_le_mul g1 x11 m.1 (show (0 : Int) ≤ 70000000 by decide)
      omega
    have szg : Sz 64 g := sz_of (by omega) (by omega)
    have szo : Sz 64 ((y.fdiv 4).fmod (1 + sp)) := by
      have m := fmod_in (y.fdiv 4) (show (0 : Int) < 1 + sp by omega)
      exact sz_of (by omega) (by omega)
    refine ite2 (fun _ => ?_) (fun _ => ?_)
    · (repeat (first | refine ⟨_, rfl, ?_⟩ | refine ⟨_, _, rfl, rfl, ?_⟩ | refine ⟨rfl, ?_⟩ | refine ⟨(by show (_ : Int) ≠ 0; first | decide | decide +kernel), ?_⟩ | refine ⟨⟨(by show (_ : Int) ≠ 0; decide), szd 9000⟩, ?_⟩ | refine ⟨(by show CPow _ _; exact ⟨by decide, by decide, by decide⟩), ?_⟩ | refine ⟨(by show CMulB _ _; refine ⟨_, _, (by trivial), (by trivial), ?_⟩; decide +kernel), ?_⟩ | refine ⟨_, _, _, _, rfl, rfl, SqL.of (by assumption), (by rfl), ?_⟩ | refine ⟨_, _, _, _, rfl, rfl, SqT.of (by assumption), (by rfl), ?_⟩ | refine ⟨_, _, rfl, .inl (SqL.of (by assumption)), ?_⟩ | refine ⟨_, _, rfl, .inr (SqT.of (by assumption)), ?_⟩))
      refine ite2 (fun _ => ?_) (fun _ => ?_)
      · refine ⟨_, rfl, .inl ⟨rfl, _, SqL.of e2⟩, l, _, _, rfl, rfl, e2, lim, ?_⟩
        exact put 0 (by decide) (by decide)
      · exact ⟨_, rfl, .inl ⟨rfl, _, SqL.of e2⟩, _, rfl, _, rfl, _, rfl, _, _, rfl, rfl, ⟨(by show (_ : Int) ≠ 0; decide), szd 9000⟩, _, rfl, _, _, rfl, rfl, (by show (_ : Int) ≠ 0; omega), _, _, rfl, rfl, mulB szg szo, _, _, rfl, rfl, l, _, _, rfl, rfl, e2, lim, put _ other.1 other.2⟩
    · exact ifF rfl ⟨_, rfl, .inl ⟨rfl, _, SqL.of e2⟩, _, rfl, _, rfl, _, rfl, _, _, rfl, rfl, ⟨(by show (_ : Int) ≠ 0; decide), szd 9000⟩, _, rfl, _, _, rfl, rfl, (by show (_ : Int) ≠ 0; omega), _, _, rfl, rfl, mulB szg szo, _, _, rfl, rfl, l, _, _, rfl, rfl, e2, lim, put _ other.1 other.2⟩
  · rintro σ' H1 ⟨v8, v9, rs, rfl, e1, s1, e2, hR⟩
    (repeat (first | refine ⟨_, rfl, ?_⟩ | refine ⟨_, _, rfl, rfl, ?_⟩ | refine ⟨rfl, ?_⟩ | refine ⟨(by show (_ : Int) ≠ 0; first | decide | decide +kernel), ?_⟩ | refine ⟨⟨(by show (_ : Int) ≠ 0; decide), szd 9000⟩, ?_⟩ | refine ⟨(by show CPow _ _; exact ⟨by decide, by decide, by decide⟩), ?_⟩ | refine ⟨(by show CMulB _ _; refine ⟨_, _, (by trivial), (by trivial), ?_⟩; decide +kernel), ?_⟩ | refine ⟨_, _, _, _, rfl, rfl, SqL.of (by assumption), (by rfl), ?_⟩ | refine ⟨_, _, _, _, rfl, rfl, SqT.of (by assumption), (by rfl), ?_⟩ | refine ⟨_, _, rfl, .inl (SqL.of (by assumption)), ?_⟩ | refine ⟨_, _, rfl, .inr (SqT.of (by assumption)), ?_⟩))
    have fin : Q (.ref l) H1 := q l rs H1 hl s1 e2 (by omega) hR
    have pos : 0 < rs.length := by omega
    refine ite2 (fun _ => ?_) (fun _ => ?_)
    · refine ⟨_, rfl, l, rs, rfl, SqL.of e2, pos, fun M m1 m2 => ?_⟩
      (repeat (first | refine ⟨_, rfl, ?_⟩ | refine ⟨_, _, rfl, rfl, ?_⟩ | refine ⟨rfl, ?_⟩ | refine ⟨(by show (_ : Int) ≠ 0; first | decide | decide +kernel), ?_⟩ | refine ⟨⟨(by show (_ : Int) ≠ 0; decide), szd 9000⟩, ?_⟩ | refine ⟨(by show CPow _ _; exact ⟨by decide, by decide, by decide⟩), ?_⟩ | refine ⟨(by show CMulB _ _; refine ⟨_, _, (by trivial), (by trivial), ?_⟩; decide +kernel), ?_⟩ | refine ⟨_, _, _, _, rfl, rfl, SqL.of (by assumption), (by rfl), ?_⟩ | refine ⟨_, _, _, _, rfl, rfl, SqT.of (by assumption), (by rfl), ?_⟩ | refine ⟨_, _, rfl, .inl (SqL.of (by assumption)), ?_⟩ | refine ⟨_, _, rfl, .inr (SqT.of (by assumption)), ?_⟩))
      refine ite2 (fun _ => ?_) (fun _ => ?_)
      · refine ⟨_, rfl, l, rs, rfl, SqL.of e2, pos, fun N n1 n2 => ?_⟩
        refine ⟨_, rfl, l, rfl, ⟨_, SqL.of e2⟩, ?_⟩
        refine comp_list (xs := rs.map V.int) (by rw [List.length_map]; exact small63 (by omega)) (fun D i ys H2 => ∃ qs : List Int, ys = qs.map V.int ∧ qs.length = i ∧ H2 D = some (.lst ys) ∧ Same H1 H2 ∧ ∀ r ∈ qs, 0 ≤ r ∧ r ≤ 1000000000) (fun D hD => ⟨[], rfl, rfl, upd_same, same_new hD _, fun r m => nomatch m⟩)
          (fun D i ys H2 ⟨qs, f1, f2, f3, _⟩ => ⟨f3, by rw [f1, List.length_map]; omega⟩) (fun D i ys H2 hD ⟨qs, _, _, _, f4, _⟩ => SqL.of (f4 _ _ e2)) ?_ ?_
        · rintro D i x ys H2 K1 K2 hD hx ⟨qs, rfl, f2, f3, f4, f5⟩ k1 k2
          obtain ⟨z, hz, rfl⟩ := int_at hx
          have zR := hR z (List.mem_of_getElem? hz)
          have e9 : (10 : Int) ^ (9 : Int).toNat = 1000000000 := by decide
          refine yes (ifT rfl ?_)
          refine ⟨_, rfl, _, _, rfl, rfl, (by show CPow _ _; exact ⟨by decide, by decide, by decide⟩), (by show 2 ≤ sizeLine; decide), fun a ha => ?_⟩
          have s5 := same_new ha (.lst [V.int z, V.int (10 ^ (9 : Int).toNat)])
          have ea : (upd H2 a (.lst [V.int z, V.int (10 ^ (9 : Int).toNat)])) a = some (.lst [V.int z, V.int (10 ^ (9 : Int).toNat)]) := upd_same
          refine ⟨_, rfl, _, rfl, rfl, .inr ⟨_, rfl, ?_⟩⟩
          have fine : ∀ y : Int, 0 ≤ y → y ≤ 1000000000 → K1 (.int y) (upd H2 a (.lst [V.int z, V.int (10 ^ (9 : Int).toNat)])) := fun y y0 y1 => by
            refine k1 _ _ (s5 _ _ f3) ⟨qs ++ [y], by rw [List.map_append]; rfl, by rw [List.length_append, f2]; rfl, upd_same, same_upd (f4.trans s5) hD, fun r m => ?_⟩
            rcases List.mem_append.mp m with m | m
            · exact f5 r m
            · rw [List.mem_singleton.mp m]; exact ⟨y0, y1⟩
          by_cases zN : z = N
          · refine ⟨a, _, _, _, rfl, rfl, SqL.of ea, (by rw [eq_t zN]; rfl), ?_⟩
            exact fine _ (by rw [e9]; decide) (by rw [e9]; decide)
          · refine ⟨a, _, _, _, rfl, rfl, SqL.of ea, (by rw [eq_f zN]; rfl), ?_⟩
            exact fine _ zR.1 zR.2
        · rintro D ys H2 hD ⟨qs, rfl, f2, f3, f4, f5⟩
          rw [List.length_map] at f2
          have hDH : H' D = none := by
            cases e : H' D with
            | none => rfl
            | some u => rw [s1 _ _ e] at hD; cases hD
          exact ⟨_, rfl, q D qs H2 hDH (s1.trans f4) f3 (by omega) f5⟩
      · exact ⟨_, rfl, fin⟩
    · exact ifF rfl ⟨_, rfl, fin⟩
theorem ok_law_slip (T : Tx K mg ad) : FnOk P w K mg base CX0 2 ad.f_law_slip ad.d_law_slip ["_law_ranks_here"] (spSlip K) := by
  refine T.F_law_slip.ok sc_law_slip (fun vs H Q E h => ?_) (fun cdv A outer s H vs Q E hr h => ?_)
  · obtain ⟨p, rs, rfl, _⟩ := h
    rfl
  obtain ⟨p, rs, rfl, hS, h12, q⟩ := h
  refine ⟨_, (@pss_one _ _ _ (@ps_ret _ _ _ _ (@pe_callTy _ _ _ _ _ _ _ _ _ call_tuple_of (by rfl) T.z_tuple PyProof.Rows.boot_tuple (@pa_cons _ _ _ _ _ (pe_comp (fsc := defScope s_law_slip) (N := ["_law_ranks_here"]) (Nc := ["_law_ranks_here", "_law_rank"]) rfl rfl ⟨rfl, by decide +kernel, by decide +kernel, rfl, by decide +kernel, rfl, by decide +kernel, rfl, by decide +kernel⟩ rfl (pi_list (pe_sortedset rfl (by rfl) T.z_sorted (by rfl) T.z_set (pv 0))) (fun _ _ _ _ => (pif_one (@pt_cmpR _ _ _ _ _ _ _ _ op_gt (pv 1) pe_int (nomark _)))) (fun _ _ _ _ => (@pe_call _ _ _ _ _ _ _ _ _ _ _ _ _ _ _ _ (ok_law_tier T) (hr.mono (by decide)) rfl T.m_law_tier T.F_law_tier.kp T.b_law_tier .nil pass0 (@pa_cons _ _ _ _ _ (pv 0) (@pa_cons _ _ _ _ _ (pv 1) pa_nil (by rfl)) (by rfl)) (by decide) (by rfl) (by rfl)))) pa_nil (by rfl)) (by decide) (by decide) (by rfl) (by rfl)))), ?_⟩
  refine ⟨_, rfl, p, rs, rfl, hS, by omega, fun l ms m1 m2 hl => ?_⟩
  obtain rfl := sset_of m1 m2
  have sl := sset_len rs
  have s0 := same_new hl (.lst ((sset rs).map V.int))
  have el : (upd H l (.lst ((sset rs).map V.int))) l = some (.lst ((sset rs).map V.int)) := upd_same
  generalize upd H l (.lst ((sset rs).map V.int)) = H1 at s0 el ⊢
  refine ⟨l, rfl, ⟨_, SqL.of el⟩, ?_⟩
  refine comp_list (xs := (sset rs).map V.int) (by rw [List.length_map]; exact small63 (by omega)) (fun D i ys H' => ys = ((((sset rs).take i).filter fun r => decide (0 < r)).map (tierOf rs)).map V.int ∧ H' D = some (.lst ys) ∧ Same H1 H') (fun D hD => ⟨rfl, upd_same, same_new hD _⟩)
    (fun D i ys H' ⟨e1, e2, _⟩ => ⟨e2, by rw [e1, List.length_map, List.length_map]; exact Nat.le_trans (List.length_filter_le _ _) (List.length_take_le _ _)⟩) (fun D i ys H' hD ⟨_, _, e3⟩ => SqL.of (e3 _ _ el)) ?_ ?_
  · rintro D i x ys H' K1 K2 hD hx ⟨e1, e2, e3⟩ k1 k2
    obtain ⟨z, hz, rfl⟩ := int_at hx
    have et : (sset rs).take (i + 1) = (sset rs).take i ++ [z] := by rw [List.take_succ, hz]; rfl
    refine ⟨_, rfl, _, _, rfl, rfl, _, rfl, ?_⟩
    refine ite2 (fun c => ?_) (fun c => ?_)
    · have c' : decide (0 < z) = true := c
      refine ⟨_, rfl, _, rfl, p, rs, z, rfl, (s0.trans e3).seq hS, h12, fun H5 s5 => ?_⟩
      refine k1 _ _ (s5 _ _ e2) ⟨?_, upd_same, same_upd (e3.trans s5) hD⟩
      rw [et, List.filter_append, List.map_append, List.map_append, e1]
      simp [c']
    · have c' : decide (0 < z) = false := Bool.eq_false_iff.mpr c
      refine k2 _ ⟨?_, e2, e3⟩
      rw [et, List.filter_append, e1]
      simp [c']
  · rintro D ys H' hD ⟨e1, e2, e3⟩
    rw [List.length_map, List.take_of_length_le (Nat.le_refl _)] at e1
    subst e1
    refine ⟨D, _, rfl, .inl ⟨SqL.of e2, fun t ht => ?_⟩⟩
    have s9 := (s0.trans e3)
    exact q t _ (by
      cases e : H t with
      | none => rfl
      | some u => rw [s9 _ _ e] at ht; cases ht) (s9.trans (same_new ht _)) upd_same
theorem ok_law_same_slip (T : Tx K mg ad) : FnOk P w K mg base CX0 2 ad.f_law_same_slip ad.d_law_same_slip ["_law_found", "_law_due"] spSameSlip := by
  refine T.F_law_same_slip.ok sc_law_same_slip (fun vs H Q E h => ?_) (fun cdv A outer s H vs Q E hr h => ?_)
  · obtain ⟨a, b, ts, rfl, _⟩ := h
    rfl
  obtain ⟨a, b, ts, rfl, h1, h2, q⟩ := h
  refine ⟨_, (@pss_cons _ _ _ _ _ (@ps_if _ _ _ _ _ _ _ _ (PW.pt (@pw_or _ _ _ _ _ _ _ (@pt_not _ _ _ _ (@pt_val _ _ _ (@pe_callB _ _ _ _ _ _ _ _ _ call_isi (by rfl) T.z_isinstance PyProof.Rows.boot_isinstance (@pa_cons _ _ _ _ _ (pv 0) (@pa_cons _ _ _ _ _ (pe_bltn (v := .ty "tuple") rfl T.z_tuple PyProof.Rows.boot_tuple rfl) pa_nil (by rfl)) (by rfl)) (by decide) (by decide) (by rfl) (by rfl)) (by intro _; rfl))) (@pw_or1 _ _ _ _ (@pt_cmpR _ _ _ _ _ _ _ _ (op_neT hr.units) (pv 0) (pv 1) (nomark _))))) (@pss_one _ _ _ (@ps_ret _ _ _ _ pe_bl)) pss_nil) (@pss_cons _ _ _ _ _ (ps_for PassesOwn.never rfl (pi_tup (pv 0)) (pg_name (i := 2) sc_law_same_slip.nd rfl (Or.inl rfl)) (@pss_one _ _ _ (@ps_if _ _ _ _ _ _ _ _ (@pt_not _ _ _ _ (@pt_val _ _ _ (@pe_call _ _ _ _ _ _ _ _ _ _ _ _ _ _ _ _ (ok_law_whole T) (hr.mono (by decide)) rfl T.m_law_whole T.F_law_whole.kp T.b_law_whole .nil pass0 (@pa_cons _ _ _ _ _ (pv 2) pa_nil (by rfl)) (by decide) (by rfl) (by rfl)) (by intro _; rfl))) (@pss_one _ _ _ (@ps_ret _ _ _ _ pe_bl)) pss_nil))) (@pss_one _ _ _ (@ps_ret _ _ _ _ pe_bl)))), ?_⟩
  refine ⟨_, rfl, _, _, _, _, rfl, TyOf.tup h1, kit_tuple_tuple, ?_⟩
  (repeat (first | refine ⟨_, rfl, ?_⟩ | refine ⟨_, _, rfl, rfl, ?_⟩ | refine ⟨rfl, ?_⟩ | refine ⟨(by show (_ : Int) ≠ 0; first | decide | decide +kernel), ?_⟩ | refine ⟨⟨(by show (_ : Int) ≠ 0; decide), szd 9000⟩, ?_⟩ | refine ⟨(by show CPow _ _; exact ⟨by decide, by decide, by decide⟩), ?_⟩ | refine ⟨(by show CMulB _ _; refine ⟨_, _, (by trivial), (by trivial), ?_⟩; decide +kernel), ?_⟩ | refine ⟨_, _, _, _, rfl, rfl, SqL.of (by assumption), (by rfl), ?_⟩ | refine ⟨_, _, _, _, rfl, rfl, SqT.of (by assumption), (by rfl), ?_⟩ | refine ⟨_, _, rfl, .inl (SqL.of (by assumption)), ?_⟩ | refine ⟨_, _, rfl, .inr (SqT.of (by assumption)), ?_⟩))
  refine ⟨a, b, ts, ts, rfl, rfl, SqT.of h1, SqT.of h2, ?_⟩
  (repeat (first | refine ⟨_, rfl, ?_⟩ | refine ⟨_, _, rfl, rfl, ?_⟩ | refine ⟨rfl, ?_⟩ | refine ⟨(by show (_ : Int) ≠ 0; first | decide | decide +kernel), ?_⟩ | refine ⟨⟨(by show (_ : Int) ≠ 0; decide), szd 9000⟩, ?_⟩ | refine ⟨(by show CPow _ _; exact ⟨by decide, by decide, by decide⟩), ?_⟩ | refine ⟨(by show CMulB _ _; refine ⟨_, _, (by trivial), (by trivial), ?_⟩; decide +kernel), ?_⟩ | refine ⟨_, _, _, _, rfl, rfl, SqL.of (by assumption), (by rfl), ?_⟩ | refine ⟨_, _, _, _, rfl, rfl, SqT.of (by assumption), (by rfl), ?_⟩ | refine ⟨_, _, rfl, .inl (SqL.of (by assumption)), ?_⟩ | refine ⟨_, _, rfl, .inr (SqT.of (by assumption)), ?_⟩))
  refine ifF (by rw [decide_eq_true rfl]; rfl) ?_
  refine ⟨_, rfl, a, rfl, ⟨_, SqT.of h1⟩, for_tup (xs := ts.map V.int) (fun i σ' H' => ∃ v, σ' = [some (.ref a), some (.ref b), v] ∧ H' = H) ⟨none, rfl, rfl⟩ (fun i σ' H' _ ⟨_, _, e⟩ => by rw [e]; exact SqT.of h1) ?_ ?_⟩
  · rintro i x σ' H' hx ⟨v, rfl, rfl⟩
    obtain ⟨z, hz, rfl⟩ := int_at hx
    refine ⟨_, rfl, z, rfl, ?_⟩
    (repeat (first | refine ⟨_, rfl, ?_⟩ | refine ⟨_, _, rfl, rfl, ?_⟩ | refine ⟨rfl, ?_⟩ | refine ⟨(by show (_ : Int) ≠ 0; first | decide | decide +kernel), ?_⟩ | refine ⟨⟨(by show (_ : Int) ≠ 0; decide), szd 9000⟩, ?_⟩ | refine ⟨(by show CPow _ _; exact ⟨by decide, by decide, by decide⟩), ?_⟩ | refine ⟨(by show CMulB _ _; refine ⟨_, _, (by trivial), (by trivial), ?_⟩; decide +kernel), ?_⟩ | refine ⟨_, _, _, _, rfl, rfl, SqL.of (by assumption), (by rfl), ?_⟩ | refine ⟨_, _, _, _, rfl, rfl, SqT.of (by assumption), (by rfl), ?_⟩ | refine ⟨_, _, rfl, .inl (SqL.of (by assumption)), ?_⟩ | refine ⟨_, _, rfl, .inr (SqT.of (by assumption)), ?_⟩))
    rfl
  · rintro σ' H' ⟨v, rfl, rfl⟩
    exact q
theorem ok_law_bad (T : Tx K mg ad) : FnOk P w K mg base CX0 2 ad.f_law_bad ad.d_law_bad ["_law_ranks_here", "_law_cell_here"] (spBad24 K) := by
  refine T.F_law_bad.ok sc_law_bad (fun vs H Q E h => ?_) (fun cdv A outer s H vs Q E hr h => ?_)
  · obtain ⟨p, rs, c, rfl, _⟩ := h
    rfl
  obtain ⟨p, rs, c, rfl, hp, r1, r12, c0, c1, q⟩ := h
  refine ⟨_, (@pss_cons _ _ _ _ _ (@ps_set _ _ (2) _ _ _ _ sc_law_bad.nd rfl (Or.inl rfl) (@pe_lst _ _ _ _ pa_nil) (by rfl) (by first | exact .inl rfl | exact .inr rfl | assumption)) (@pss_cons _ _ _ _ _ (@ps_set _ _ (3) _ _ _ _ sc_law_bad.nd rfl (Or.inl rfl) (@pe_op _ _ _ _ _ _ _ _ op_modN (pv 1) (@pe_callB _ _ _ _ _ _ _ _ _ call_len_seq (by rfl) T.z_len PySem.boot_len (@pa_cons _ _ _ _ _ (pv 0) pa_nil (by rfl)) (by decide) (by decide) (by rfl) (by rfl))) (by rfl) (by first | exact .inl rfl | exact .inr rfl | assumption)) (@pss_cons _ _ _ _ _ (ps_for PassesOwn.never rfl (pi_list (@pe_call _ _ _ _ _ _ _ _ _ _ _ _ _ _ _ _ (ok_law_bad_ranks T) (hr.mono (by decide)) rfl T.m_law_bad_ranks T.F_law_bad_ranks.kp T.b_law_bad_ranks .nil pass0 (@pa_cons _ _ _ _ _ (@pe_op _ _ _ _ _ _ _ _ op_fdivB (pv 1) pe_int) pa_nil (by rfl)) (by decide) (by rfl) (by rfl))) (pg_name (i := 4) sc_law_bad.nd rfl (Or.inl rfl)) (@pss_one _ _ _ (@ps_expr _ _ _ _ (pe_bm PySem.F.plainAttrs_list PySem.F.slot_list_append PySem.F.type_list_append mt_append (pv 2) (@pa_cons _ _ _ _ _ (@pe_op _ _ _ _ _ _ _ _ op_cat (@pe_op _ _ _ _ _ _ _ _ op_cat (pe_slice sl_list (pv 0) po_none (po_some (pv 3))) (@pe_lst _ _ _ _ (@pa_cons _ _ _ _ _ (pv 4) pa_nil (by rfl)))) (pe_slice sl_list (pv 0) (po_some (@pe_op _ _ _ _ _ _ _ _ op_add (pv 3) pe_int)) po_none)) pa_nil (by rfl))) (by rfl)))) (@pss_cons _ _ _ _ _ (@ps_expr _ _ _ _ (pe_bm PySem.F.plainAttrs_list PySem.F.slot_list_append PySem.F.type_list_append mt_append (pv 2) (@pa_cons _ _ _ _ _ (@pe_op _ _ _ _ _ _ _ _ op_cat (pe_slice sl_list (pv 0) po_none (po_some (pv 3))) (pe_slice sl_list (pv 0) (po_some (@pe_op _ _ _ _ _ _ _ _ op_add (pv 3) pe_int)) po_none)) pa_nil (by rfl))) (by rfl)) (@pss_cons _ _ _ _ _ (@ps_expr _ _ _ _ (pe_bm PySem.F.plainAttrs_list PySem.F.slot_list_append PySem.F.type_list_append mt_append (pv 2) (@pa_cons _ _ _ _ _ (@pe_op _ _ _ _ _ _ _ _ op_cat (@pe_op _ _ _ _ _ _ _ _ op_cat (pe_slice sl_list (pv 0) po_none (po_some (pv 3))) (@pe_lst _ _ _ _ (@pa_cons _ _ _ _ _ (@pe_op _ _ _ _ _ _ _ _ op_modN (@pe_op _ _ _ _ _ _ _ _ op_fdivB (pv 1) pe_int) pe_int) pa_nil (by rfl)))) (pe_slice sl_list (pv 0) (po_some (pv 3)) po_none)) pa_nil (by rfl))) (by rfl)) (@pss_cons _ _ _ _ _ (@ps_expr _ _ _ _ (pe_bm PySem.F.plainAttrs_list PySem.F.slot_list_append PySem.F.type_list_append mt_append (pv 2) (@pa_cons _ _ _ _ _ pe_non pa_nil (by rfl))) (by rfl)) (@pss_cons _ _ _ _ _ (@ps_expr _ _ _ _ (pe_bm PySem.F.plainAttrs_list PySem.F.slot_list_append PySem.F.type_list_append mt_append (pv 2) (@pa_cons _ _ _ _ _ (@pe_callTy _ _ _ _ _ _ _ _ _ call_tuple_of (by rfl) T.z_tuple PyProof.Rows.boot_tuple (@pa_cons _ _ _ _ _ (pv 0) pa_nil (by rfl)) (by decide) (by decide) (by rfl) (by rfl)) pa_nil (by rfl))) (by rfl)) (@pss_cons _ _ _ _ _ (@ps_expr _ _ _ _ (pe_bm PySem.F.plainAttrs_list PySem.F.slot_list_append PySem.F.type_list_append mt_append (pv 2) (@pa_cons _ _ _ _ _ (@pe_op _ _ _ _ _ _ _ _ op_repS pe_str (@pe_callB _ _ _ _ _ _ _ _ _ call_len_seq (by rfl) T.z_len PySem.boot_len (@pa_cons _ _ _ _ _ (pv 0) pa_nil (by rfl)) (by decide) (by decide) (by rfl) (by rfl))) pa_nil (by rfl))) (by rfl)) (@pss_cons _ _ _ _ _ (@ps_expr _ _ _ _ (pe_bm PySem.F.plainAttrs_list PySem.F.slot_list_append PySem.F.type_list_append mt_append (pv 2) (@pa_cons _ _ _ _ _ (@pe_callB _ _ _ _ _ _ _ _ _ call_len_seq (by rfl) T.z_len PySem.boot_len (@pa_cons _ _ _ _ _ (pv 0) pa_nil (by rfl)) (by decide) (by decide) (by rfl) (by rfl)) pa_nil (by rfl))) (by rfl)) (@pss_cons _ _ _ _ _ (@ps_expr _ _ _ _ (pe_bm PySem.F.plainAttrs_list PySem.F.slot_list_append PySem.F.type_list_append mt_append (pv 2) (@pa_cons _ _ _ _ _ pe_bl pa_nil (by rfl))) (by rfl)) (@pss_cons _ _ _ _ _ (@ps_expr _ _ _ _ (pe_bm PySem.F.plainAttrs_list PySem.F.slot_list_append PySem.F.type_list_append mt_append (pv 2) (@pa_cons _ _ _ _ _ (@pe_callTy _ _ _ _ _ _ _ _ _ (call_dictI rfl hr.units) (by rfl) T.z_dict PyProof.Rows.boot_dict (@pa_cons _ _ _ _ _ (pe_listenum rfl (by rfl) T.z_list (by rfl) T.z_enumerate (pv 0)) pa_nil (by rfl)) (by decide) (by decide) (by rfl) (by rfl)) pa_nil (by rfl))) (by rfl)) (@pss_cons _ _ _ _ _ (@ps_expr _ _ _ _ (pe_bm PySem.F.plainAttrs_list PySem.F.slot_list_append PySem.F.type_list_append mt_append (pv 2) (@pa_cons _ _ _ _ _ (@pe_lst _ _ _ _ (@pa_cons _ _ _ _ _ (pv 0) pa_nil (by rfl))) pa_nil (by rfl))) (by rfl)) (@pss_one _ _ _ (@ps_ret _ _ _ _ (pv 2))))))))))))))), ?_⟩
  have szc := sz18 c0 c1
  refine ⟨(by show 0 ≤ sizeLine; decide), fun l hl => ?_⟩
  have s1 := same_new hl (.lst [])
  have e1 : (upd H l (.lst [])) l = some (.lst []) := upd_same
  generalize upd H l (.lst []) = H1 at s1 e1 ⊢
  have hp1 := s1 _ _ hp
  have ln : (rs.map V.int).length = rs.length := List.length_map _
  have hm := fmod_in c (show (0 : Int) < (rs.length : Nat) by omega)
  (repeat (first | refine ⟨_, rfl, ?_⟩ | refine ⟨_, _, rfl, rfl, ?_⟩ | refine ⟨rfl, ?_⟩ | refine ⟨(by show (_ : Int) ≠ 0; first | decide | decide +kernel), ?_⟩ | refine ⟨⟨(by show (_ : Int) ≠ 0; decide), szd 9000⟩, ?_⟩ | refine ⟨(by show CPow _ _; exact ⟨by decide, by decide, by decide⟩), ?_⟩ | refine ⟨(by show CMulB _ _; refine ⟨_, _, (by trivial), (by trivial), ?_⟩; decide +kernel), ?_⟩ | refine ⟨_, _, _, _, rfl, rfl, SqL.of (by assumption), (by rfl), ?_⟩ | refine ⟨_, _, _, _, rfl, rfl, SqT.of (by assumption), (by rfl), ?_⟩ | refine ⟨_, _, rfl, .inl (SqL.of (by assumption)), ?_⟩ | refine ⟨_, _, rfl, .inr (SqT.of (by assumption)), ?_⟩))
  refine ⟨(by show (((rs.map V.int).length : Nat) : Int) ≠ 0; omega), ?_⟩
  rw [ln]
  obtain ⟨k, ek⟩ : ∃ k : Nat, c.fmod (rs.length : Nat) = (k : Int) := ⟨(c.fmod (rs.length : Nat)).toNat, by omega⟩
  have hk : k < rs.length := by omega
  dsimp only
  rw [ek]
  rw [ek, Int.toNat_natCast] at q
  have cd : 0 ≤ c.fdiv 12 ∧ c.fdiv 12 < 10 ^ 18 := by
    rw [Int.fdiv_eq_ediv_of_nonneg c (by decide)]
    omega
  (repeat (first | refine ⟨_, rfl, ?_⟩ | refine ⟨_, _, rfl, rfl, ?_⟩ | refine ⟨rfl, ?_⟩ | refine ⟨(by show (_ : Int) ≠ 0; first | decide | decide +kernel), ?_⟩ | refine ⟨⟨(by show (_ : Int) ≠ 0; decide), szd 9000⟩, ?_⟩ | refine ⟨(by show CPow _ _; exact ⟨by decide, by decide, by decide⟩), ?_⟩ | refine ⟨(by show CMulB _ _; refine ⟨_, _, (by trivial), (by trivial), ?_⟩; decide +kernel), ?_⟩ | refine ⟨_, _, _, _, rfl, rfl, SqL.of (by assumption), (by rfl), ?_⟩ | refine ⟨_, _, _, _, rfl, rfl, SqT.of (by assumption), (by rfl), ?_⟩ | refine ⟨_, _, rfl, .inl (SqL.of (by assumption)), ?_⟩ | refine ⟨_, _, rfl, .inr (SqT.of (by assumption)), ?_⟩))
  refine ⟨cd.1, cd.2, fun bl xs H2 hb s2 e2 sm => ?_⟩
  have f0 := (fmod_in (c.fdiv 12) (show (0 : Int) < 10 ^ (30 : Int).toNat by decide)).1
  generalize (c.fdiv 12).fmod (10 ^ (30 : Int).toNat) = f at sm f0 q
  have sml := sm l _ e1
  have bl_l : bl ≠ l := fun z => by rw [z, e1] at hb; cases hb
  have xl : xs.length = 11 := sml.len
  refine ⟨bl, rfl, ⟨_, SqL.of e2⟩, for_list (xs := xs) (fun i σ' J => ∃ v zs, σ' = [some (.ref p), some (.int c), some (.ref l), some (.int (k : Int)), v] ∧ Same (off H2 l) J ∧ Bld rs H l p i J zs (((oddD f).take i).map fun d => some (setD rs k d))) ⟨none, [], rfl, off_le H2 l, ⟨s2 _ _ e1, .nil, s2 _ _ hp1, s1.trans s2, rfl⟩⟩ (fun i σ' J _ ⟨_, _, _, e, _⟩ => SqL.of (e _ _ (off_at e2 bl_l))) ?_ ?_⟩
  · rintro i x σ' J hx ⟨v, zs, rfl, s3, h⟩
    obtain ⟨d, hd, smd⟩ := sml.get hx
    have hi : i < 11 := by rw [← xl]; exact (List.getElem?_eq_some_iff.mp hx).1
    refine ⟨_, rfl, .inl ⟨rfl, _, SqL.of h.el⟩, ?_⟩
    refine ⟨_, rfl, _, rfl, _, rfl, p, _, rfl, SqL.of h.hp, fun a1 ha1 => ?_⟩
    rw [cut_take, ← List.map_take]
    have u1 := same_new ha1 (.lst ((rs.take k).map V.int))
    have g1 : (upd J a1 (.lst ((rs.take k).map V.int))) a1 = some (.lst ((rs.take k).map V.int)) := upd_same
    generalize upd J a1 (.lst ((rs.take k).map V.int)) = J1 at u1 g1 ⊢
    refine ⟨_, rfl, (by show 1 ≤ sizeLine; decide), fun a2 ha2 => ?_⟩
    have u2 := same_new ha2 (.lst [x])
    have g2 : (upd J1 a2 (.lst [x])) a2 = some (.lst [x]) := upd_same
    generalize upd J1 a2 (.lst [x]) = J2 at u2 g2 ⊢
    refine ⟨a1, a2, _, _, rfl, rfl, (u2 _ _ g1), g2, small63 (by simp only [List.length_append, List.length_map, List.length_take, List.length_drop, List.length_singleton]; omega), fun a3 ha3 => ?_⟩
    have u3 := same_new ha3 (.lst ((rs.take k).map V.int ++ [x]))
    have g3 : (upd J2 a3 (.lst ((rs.take k).map V.int ++ [x]))) a3 = some (.lst ((rs.take k).map V.int ++ [x])) := upd_same
    generalize upd J2 a3 (.lst ((rs.take k).map V.int ++ [x])) = J3 at u3 g3 ⊢
    have p3 := ((u1.trans u2).trans u3) _ _ h.hp
    refine ⟨_, rfl, _, rfl, _, _, rfl, rfl, _, rfl, p, _, rfl, SqL.of p3, fun a4 ha4 => ?_⟩
    rw [show cutV (rs.map V.int) (some ((k : Int) + 1)) none = (rs.drop (k + 1)).map V.int from (cut_drop (j := k + 1)).trans (List.map_drop ..).symm]
    have u4 := same_new ha4 (.lst ((rs.drop (k + 1)).map V.int))
    have g4 : (upd J3 a4 (.lst ((rs.drop (k + 1)).map V.int))) a4 = some (.lst ((rs.drop (k + 1)).map V.int)) := upd_same
    generalize upd J3 a4 (.lst ((rs.drop (k + 1)).map V.int)) = J4 at u4 g4 ⊢
    refine ⟨a3, a4, _, _, rfl, rfl, (u4 _ _ g3), g4, small63 (by simp only [List.length_append, List.length_map, List.length_take, List.length_drop, List.length_singleton]; omega), fun a5 ha5 => ?_⟩
    have u5 := same_new ha5 (.lst (((rs.take k).map V.int ++ [x]) ++ (rs.drop (k + 1)).map V.int))
    have g5 : (upd J4 a5 (.lst (((rs.take k).map V.int ++ [x]) ++ (rs.drop (k + 1)).map V.int))) a5 = some (.lst (((rs.take k).map V.int ++ [x]) ++ (rs.drop (k + 1)).map V.int)) := upd_same
    generalize upd J4 a5 (.lst (((rs.take k).map V.int ++ [x]) ++ (rs.drop (k + 1)).map V.int)) = J5 at u5 g5 ⊢
    have u := (((u1.trans u2).trans u3).trans u4).trans u5
    have nl : a5 ≠ l := fun z => by rw [z, ((((u1.trans u2).trans u3).trans u4) _ _ h.el)] at ha5; cases ha5
    refine ⟨l, _, _, rfl, rfl, u _ _ h.el, small1000 (by rw [h.ln]; omega), ?_⟩
    refine ⟨_, zs ++ [.ref a5], rfl, ?_, ?_⟩
    · exact off_put (s3.trans u)
    · have := h.push hl hp u (x := .ref a5) (d := some (setD rs k d)) (.lst (off_at g5 nl) (((Sms.ints _).app (.cons (smd.same (off_of (s3.trans u) off_self)) .nil)).app (Sms.ints _)))
      rw [List.take_succ, hd, List.map_append]
      exact this
  rintro σ' J ⟨v, zs, rfl, s3, h⟩
  rw [xl, List.take_of_length_le (show (oddD f).length ≤ 11 from Nat.le_refl 11)] at h
  generalize hz : zs = z11 at h
  have h11 := h
  clear h s3 sm sml
  generalize hK : J = K11 at h11 ⊢
  refine ⟨_, rfl, .inl ⟨rfl, _, SqL.of h11.el⟩, ?_⟩
  refine ⟨_, rfl, _, rfl, _, rfl, p, _, rfl, SqL.of h11.hp, fun b1 hb1 => ?_⟩
  rw [cut_take, ← List.map_take]
  have u1 := same_new hb1 (.lst ((rs.take k).map V.int))
  have g1 : (upd K11 b1 (.lst ((rs.take k).map V.int))) b1 = some (.lst ((rs.take k).map V.int)) := upd_same
  generalize upd K11 b1 (.lst ((rs.take k).map V.int)) = L1 at u1 g1 ⊢
  refine ⟨_, rfl, _, rfl, _, _, rfl, rfl, _, rfl, p, _, rfl, SqL.of (u1 _ _ h11.hp), fun b2 hb2 => ?_⟩
  rw [show cutV (rs.map V.int) (some ((k : Int) + 1)) none = (rs.drop (k + 1)).map V.int from (cut_drop (j := k + 1)).trans (List.map_drop ..).symm]
  have u2 := same_new hb2 (.lst ((rs.drop (k + 1)).map V.int))
  have g2 : (upd L1 b2 (.lst ((rs.drop (k + 1)).map V.int))) b2 = some (.lst ((rs.drop (k + 1)).map V.int)) := upd_same
  generalize upd L1 b2 (.lst ((rs.drop (k + 1)).map V.int)) = L2' at u2 g2 ⊢
  refine ⟨b1, b2, _, _, rfl, rfl, (u2 _ _ g1), g2, small63 (by simp only [List.length_append, List.length_map, List.length_take, List.length_drop, List.length_singleton]; omega), fun b3 hb3 => ?_⟩
  have u3 := same_new hb3 (.lst ((rs.take k).map V.int ++ (rs.drop (k + 1)).map V.int))
  have g3 : (upd L2' b3 (.lst ((rs.take k).map V.int ++ (rs.drop (k + 1)).map V.int))) b3 = some (.lst ((rs.take k).map V.int ++ (rs.drop (k + 1)).map V.int)) := upd_same
  generalize upd L2' b3 (.lst ((rs.take k).map V.int ++ (rs.drop (k + 1)).map V.int)) = L3 at u3 g3 ⊢
  have u := (u1.trans u2).trans u3
  have nl : b3 ≠ l := fun z => by rw [z, (u1.trans u2) _ _ h11.el] at hb3; cases hb3
  refine ⟨l, _, _, rfl, rfl, u _ _ h11.el, small1000 (by rw [h11.ln]; omega), ?_⟩
  have h12 := h11.push hl hp u (x := .ref b3) (d := some (.list ((rs.take k).map .int ++ (rs.drop (k + 1)).map .int))) (.lst (off_at g3 nl) ((Sms.ints _).app (Sms.ints _)))
  generalize upd L3 l _ = K12 at h12 ⊢
  generalize z11 ++ [.ref b3] = z12 at h12 ⊢
  clear u nl u1 u2 u3 g1 g2 g3 hb1 hb2 hb3
  refine ⟨_, rfl, .inl ⟨rfl, _, SqL.of h12.el⟩, ?_⟩
  refine ⟨_, rfl, _, rfl, _, rfl, p, _, rfl, SqL.of h12.hp, fun b1 hb1 => ?_⟩
  rw [cut_take, ← List.map_take]
  have u1 := same_new hb1 (.lst ((rs.take k).map V.int))
  have g1 : (upd K12 b1 (.lst ((rs.take k).map V.int))) b1 = some (.lst ((rs.take k).map V.int)) := upd_same
  generalize upd K12 b1 (.lst ((rs.take k).map V.int)) = L1 at u1 g1 ⊢
  (repeat (first | refine ⟨_, rfl, ?_⟩ | refine ⟨_, _, rfl, rfl, ?_⟩ | refine ⟨rfl, ?_⟩ | refine ⟨(by show (_ : Int) ≠ 0; first | decide | decide +kernel), ?_⟩ | refine ⟨⟨(by show (_ : Int) ≠ 0; decide), szd 9000⟩, ?_⟩ | refine ⟨(by show CPow _ _; exact ⟨by decide, by decide, by decide⟩), ?_⟩ | refine ⟨(by show CMulB _ _; refine ⟨_, _, (by trivial), (by trivial), ?_⟩; decide +kernel), ?_⟩ | refine ⟨_, _, _, _, rfl, rfl, SqL.of (by assumption), (by rfl), ?_⟩ | refine ⟨_, _, _, _, rfl, rfl, SqT.of (by assumption), (by rfl), ?_⟩ | refine ⟨_, _, rfl, .inl (SqL.of (by assumption)), ?_⟩ | refine ⟨_, _, rfl, .inr (SqT.of (by assumption)), ?_⟩))
  refine ⟨(by show 1 ≤ sizeLine; decide), fun b2 hb2 => ?_⟩
  have u2 := same_new hb2 (.lst [V.int ((c.fdiv 12).fmod 3)])
  have g2 : (upd L1 b2 (.lst [V.int ((c.fdiv 12).fmod 3)])) b2 = some (.lst [V.int ((c.fdiv 12).fmod 3)]) := upd_same
  generalize upd L1 b2 (.lst [V.int ((c.fdiv 12).fmod 3)]) = L2' at u2 g2 ⊢
  refine ⟨b1, b2, _, _, rfl, rfl, (u2 _ _ g1), g2, small63 (by simp only [List.length_append, List.length_map, List.length_take, List.length_drop, List.length_singleton]; omega), fun b3 hb3 => ?_⟩
  have u3 := same_new hb3 (.lst ((rs.take k).map V.int ++ [V.int ((c.fdiv 12).fmod 3)]))
  have g3 : (upd L2' b3 (.lst ((rs.take k).map V.int ++ [V.int ((c.fdiv 12).fmod 3)]))) b3 = some (.lst ((rs.take k).map V.int ++ [V.int ((c.fdiv 12).fmod 3)])) := upd_same
  generalize upd L2' b3 (.lst ((rs.take k).map V.int ++ [V.int ((c.fdiv 12).fmod 3)])) = L3 at u3 g3 ⊢
  have p3 := ((u1.trans u2).trans u3) _ _ h12.hp
  refine ⟨_, rfl, _, rfl, _, rfl, p, _, rfl, SqL.of p3, fun b4 hb4 => ?_⟩
  rw [show cutV (rs.map V.int) (some (k : Int)) none = (rs.drop k).map V.int from (cut_drop (j := k)).trans (List.map_drop ..).symm]
  have u4 := same_new hb4 (.lst ((rs.drop k).map V.int))
  have g4 : (upd L3 b4 (.lst ((rs.drop k).map V.int))) b4 = some (.lst ((rs.drop k).map V.int)) := upd_same
  generalize upd L3 b4 (.lst ((rs.drop k).map V.int)) = L4 at u4 g4 ⊢
  refine ⟨b3, b4, _, _, rfl, rfl, (u4 _ _ g3), g4, small63 (by simp only [List.length_append, List.length_map, List.length_take, List.length_drop, List.length_singleton]; omega), fun b5 hb5 => ?_⟩
  have u5 := same_new hb5 (.lst (((rs.take k).map V.int ++ [V.int ((c.fdiv 12).fmod 3)]) ++ (rs.drop k).map V.int))
  have g5 : (upd L4 b5 (.lst (((rs.take k).map V.int ++ [V.int ((c.fdiv 12).fmod 3)]) ++ (rs.drop k).map V.int))) b5 = some (.lst (((rs.take k).map V.int ++ [V.int ((c.fdiv 12).fmod 3)]) ++ (rs.drop k).map V.int)) := upd_same
  generalize upd L4 b5 (.lst (((rs.take k).map V.int ++ [V.int ((c.fdiv 12).fmod 3)]) ++ (rs.drop k).map V.int)) = L5 at u5 g5 ⊢
  have u := (((u1.trans u2).trans u3).trans u4).trans u5
  have nl : b5 ≠ l := fun z => by rw [z, (((u1.trans u2).trans u3).trans u4) _ _ h12.el] at hb5; cases hb5
  refine ⟨l, _, _, rfl, rfl, u _ _ h12.el, small1000 (by rw [h12.ln]; omega), ?_⟩
  have h13 := h12.push hl hp u (x := .ref b5) (d := some (.list ((rs.take k).map .int ++ [.int ((c.fdiv 12).fmod 3)] ++ (rs.drop k).map .int))) (.lst (off_at g5 nl) (((Sms.ints _).app (.cons (.int _) .nil)).app (Sms.ints _)))
  generalize upd L5 l _ = K13 at h13 ⊢
  generalize z12 ++ [.ref b5] = z13 at h13 ⊢
  clear u nl u1 u2 u3 u4 u5 g1 g2 g3 g4 g5 hb1 hb2 hb3 hb4 hb5 p3
  refine ⟨_, rfl, .inl ⟨rfl, _, SqL.of h13.el⟩, ?_⟩
  refine ⟨l, _, _, rfl, rfl, h13.el, small1000 (by rw [h13.ln]; omega), ?_⟩
  have h14 := h13.push hl hp (Same.refl K13) (x := .non) (d := some .none) (.sm .non)
  generalize upd K13 l _ = K14 at h14 ⊢
  generalize z13 ++ [.non] = z14 at h14 ⊢
  refine ⟨_, rfl, .inl ⟨rfl, _, SqL.of h14.el⟩, ?_⟩
  refine ⟨_, rfl, p, _, rfl, .inl ⟨SqL.of h14.hp, fun b1 hb1 => ?_⟩⟩
  have u1 := same_new hb1 (.tup (rs.map V.int))
  have g1 : (upd K14 b1 (.tup (rs.map V.int))) b1 = some (.tup (rs.map V.int)) := upd_same
  generalize upd K14 b1 (.tup (rs.map V.int)) = L1 at u1 g1 ⊢
  have nl : b1 ≠ l := fun z => by rw [z, h14.el] at hb1; cases hb1
  refine ⟨l, _, _, rfl, rfl, u1 _ _ h14.el, small1000 (by rw [h14.ln]; omega), ?_⟩
  have h15 := h14.push hl hp u1 (x := .ref b1) (d := some (.tuple (rs.map .int))) (.sm (.tup (off_at g1 nl)))
  generalize upd L1 l _ = K15 at h15 ⊢
  generalize z14 ++ [.ref b1] = z15 at h15 ⊢
  clear u1 g1 nl hb1
  refine ⟨_, rfl, .inl ⟨rfl, _, SqL.of h15.el⟩, ?_⟩
  refine ⟨_, rfl, p, _, rfl, .inl (SqL.of h15.hp), ?_⟩
  rw [ln]
  refine ⟨_, _, rfl, rfl, ones_ok r12, ?_⟩
  refine ⟨l, _, _, rfl, rfl, h15.el, small1000 (by rw [h15.ln]; omega), ?_⟩
  have h16 := h15.push hl hp (Same.refl K15) (x := .str (PySem.Txt.mul (Str.ofString "1") (rs.length : Nat))) (d := some (.str (PySem.Txt.mul (Str.ofString "1") (rs.length : Nat)))) (.sm (.str _))
  generalize upd K15 l _ = K16 at h16 ⊢
  generalize z15 ++ [.str (PySem.Txt.mul (Str.ofString "1") (rs.length : Nat))] = z16 at h16 ⊢
  refine ⟨_, rfl, .inl ⟨rfl, _, SqL.of h16.el⟩, ?_⟩
  refine ⟨_, rfl, p, _, rfl, .inl (SqL.of h16.hp), ?_⟩
  rw [ln]
  refine ⟨l, _, _, rfl, rfl, h16.el, small1000 (by rw [h16.ln]; omega), ?_⟩
  have h17 := h16.push hl hp (Same.refl K16) (x := .int (rs.length : Nat)) (d := some (.int (rs.length : Nat))) (.sm (.int _))
  generalize upd K16 l _ = K17 at h17 ⊢
  generalize z16 ++ [.int (rs.length : Nat)] = z17 at h17 ⊢
  refine ⟨_, rfl, .inl ⟨rfl, _, SqL.of h17.el⟩, ?_⟩
  refine ⟨l, _, _, rfl, rfl, h17.el, small1000 (by rw [h17.ln]; omega), ?_⟩
  have h18 := h17.push hl hp (Same.refl K17) (x := .bl true) (d := some (.bool true)) (.sm (.bl _))
  generalize upd K17 l _ = K18 at h18 ⊢
  generalize z17 ++ [.bl true] = z18 at h18 ⊢
  refine ⟨_, rfl, .inl ⟨rfl, _, SqL.of h18.el⟩, ?_⟩
  refine ⟨_, rfl, p, rs.map V.int, rfl, h18.hp, small63 (by omega), fun b1 ts L1 hb1 u1 g1 lt pr => ?_⟩
  rw [ln] at lt
  refine ⟨b1, prR ts rs 0, rfl, by rw [prR_v 0 lt]; exact g1, fun y my => ?_, Nat.lt_of_le_of_lt (prR_len 0) (small1000 (by omega)), fun b2 hb2 => ?_⟩
  · obtain ⟨j, t, r, h1, h2, rfl⟩ := prR_mem 0 my
    rw [Nat.zero_add]
    exact pr j t _ h1 (by rw [List.getElem?_map, h2]; rfl)
  rw [show putAllI [] (prR ts rs 0) = kvR rs from putAllI_like [] (prR_like 0 lt (List.length_map _))]
  have u2 := same_new hb2 (.dK (kvR rs))
  have g2 : (upd L1 b2 (.dK (kvR rs))) b2 = some (.dK (kvR rs)) := upd_same
  generalize upd L1 b2 (.dK (kvR rs)) = L2' at u2 g2 ⊢
  have u := u1.trans u2
  have nl : b2 ≠ l := fun z => by rw [z, u1 _ _ h18.el] at hb2; cases hb2
  refine ⟨l, _, _, rfl, rfl, u _ _ h18.el, small1000 (by rw [h18.ln]; omega), ?_⟩
  have h19 := h18.push hl hp u (x := .ref b2) (d := none) ⟨b2, rfl, was_none (h18.s.trans u1) hb2, off_at g2 nl⟩
  generalize upd L2' l _ = K19 at h19 ⊢
  generalize z18 ++ [.ref b2] = z19 at h19 ⊢
  clear u nl u1 u2 g1 g2 hb1 hb2 lt pr
  refine ⟨_, rfl, .inl ⟨rfl, _, SqL.of h19.el⟩, ?_⟩
  refine ⟨_, rfl, (by show 1 ≤ sizeLine; decide), fun b1 hb1 => ?_⟩
  have u1 := same_new hb1 (.lst [V.ref p])
  have g1 : (upd K19 b1 (.lst [V.ref p])) b1 = some (.lst [V.ref p]) := upd_same
  generalize upd K19 b1 (.lst [V.ref p]) = L1 at u1 g1 ⊢
  have nl : b1 ≠ l := fun z => by rw [z, h19.el] at hb1; cases hb1
  have pl : p ≠ l := fun z => by rw [z, hl] at hp; cases hp
  refine ⟨l, _, _, rfl, rfl, u1 _ _ h19.el, small1000 (by rw [h19.ln]; omega), ?_⟩
  have h20 := h19.push hl hp u1 (x := .ref b1) (d := some (.list [.list (rs.map .int)])) (.lst (off_at g1 nl) (.cons (.lst (off_at (u1 _ _ h19.hp) pl)) .nil))
  generalize upd L1 l _ = K20 at h20 ⊢
  generalize z19 ++ [.ref b1] = z20 at h20 ⊢
  refine ⟨_, rfl, ?_⟩
  exact q l _ _ hl h20.s h20.el (h20.g.same (off_le _ _))
theorem ok_are_ranks (T : Tx K mg ad) : FnOk P w K mg base CX0 3 ad.f_are_ranks ad.d_are_ranks ["thing", "hands"] (spAreX K) := by
  refine T.F_are_ranks.ok sc_are_ranks (fun vs H Q E h => ?_) (fun cdv A outer s H vs Q E hr h => ?_)
  · obtain ⟨x, n, rfl, _⟩ := h
    rfl
  obtain ⟨x, n, rfl, h⟩ := h
  refine ⟨_, (@pss_cons _ _ _ _ _ (@ps_if _ _ _ _ _ _ _ _ (@pt_not _ _ _ _ (@pt_val _ _ _ (@pe_callB _ _ _ _ _ _ _ _ _ call_isi (by rfl) T.z_isinstance PyProof.Rows.boot_isinstance (@pa_cons _ _ _ _ _ (pv 0) (@pa_cons _ _ _ _ _ (pe_bltn (v := .ty "list") rfl T.z_list PyProof.Rows.boot_list rfl) pa_nil (by rfl)) (by rfl)) (by decide) (by decide) (by rfl) (by rfl)) (by intro _; rfl))) (@pss_one _ _ _ (@ps_ret _ _ _ _ pe_bl)) pss_nil) (@pss_one _ _ _ (@ps_ret _ _ _ _ (@pe_and _ _ _ _ _ _ _ (@pe_cmpR _ _ _ _ _ _ _ _ op_eq (@pe_callB _ _ _ _ _ _ _ _ _ call_len_seq (by rfl) T.z_len PySem.boot_len (@pa_cons _ _ _ _ _ (pv 0) pa_nil (by rfl)) (by decide) (by decide) (by rfl) (by rfl)) (pv 1) (nomark _)) (@pe_one _ _ _ _ _ (@pe_callB _ _ _ _ _ _ _ _ _ (call_all rfl) (by rfl) T.z_all PyProof.Rows.boot_all (@pa_cons _ _ _ _ _ (pe_comp (fsc := defScope s_are_ranks) (N := ["thing", "hands"]) (Nc := ["thing", "hands", "rank"]) rfl rfl ⟨rfl, by decide +kernel, by decide +kernel, rfl, by decide +kernel, rfl, by decide +kernel, rfl, by decide +kernel⟩ rfl (pi_list (pv 0)) (fun _ _ _ _ => pif_nil) (fun _ _ _ _ => (@pe_call _ _ _ _ _ _ _ _ _ _ _ _ _ _ _ _ (ok_is_rank T) (hr.mono (by decide)) rfl T.m_is_rank T.F_is_rank.kp T.b_is_rank .nil pass0 (@pa_cons _ _ _ _ _ (pv 2) pa_nil (by rfl)) (by decide) (by rfl) (by rfl)))) pa_nil (by rfl)) (by decide) (by decide) (by rfl) (by rfl))))))), ?_⟩
  have key : (∃ t, TyOf K H x t ∧ PySem.W.kitOne K t (.type "list") = some false ∧ Q (.bl false) H) ∨ ∃ a ys, x = .ref a ∧ H a = some (.lst ys) ∧ (∀ y ∈ ys, Wh K H y (isI y)) ∧ ys.length ≤ 14 ∧ ∀ H' : Hp, Same H H' → Q (.bl (decide (ys.length = n) && ys.all okR)) H' := by
    rcases h with ⟨⟨t, ty, k⟩ | ⟨a, ys, rfl, ea, w, l14, no⟩, q⟩ | ⟨p, rs, rfl, rfl, hp, l12, hR, q⟩
    · exact .inl ⟨t, ty, k, q H (Same.refl H)⟩
    · refine .inr ⟨a, ys, rfl, ea, w, l14, fun H' s => ?_⟩
      by_cases c : ys.length = n
      · rw [decide_eq_true c, no c]; exact q H' s
      · rw [decide_eq_false c]; exact q H' s
    · refine .inr ⟨p, rs.map V.int, rfl, hp, (Sms.ints (H := H) rs).wh, by rw [List.length_map]; omega, fun H' s => ?_⟩
      rw [List.length_map, decide_eq_true rfl, show (rs.map V.int).all okR = true from List.all_eq_true.mpr fun y m => by
        obtain ⟨r, mr, rfl⟩ := List.mem_map.mp m
        obtain ⟨r0, r1⟩ := hR r mr
        show (decide (0 ≤ r) && decide (r ≤ 1000000000)) = true
        rw [decide_eq_true r0, decide_eq_true r1]
        rfl]
      exact q H' s
  clear h
  rcases key with ⟨t, ty, k, q⟩ | ⟨a, ys, rfl, ea, w, l14, q⟩
  · refine ⟨_, rfl, _, _, _, _, rfl, ty, k, ?_⟩
    (repeat (first | refine ⟨_, rfl, ?_⟩ | refine ⟨_, _, rfl, rfl, ?_⟩ | refine ⟨rfl, ?_⟩ | refine ⟨(by show (_ : Int) ≠ 0; first | decide | decide +kernel), ?_⟩ | refine ⟨⟨(by show (_ : Int) ≠ 0; decide), szd 9000⟩, ?_⟩ | refine ⟨(by show CPow _ _; exact ⟨by decide, by decide, by decide⟩), ?_⟩ | refine ⟨(by show CMulB _ _; refine ⟨_, _, (by trivial), (by trivial), ?_⟩; decide +kernel), ?_⟩ | refine ⟨_, _, _, _, rfl, rfl, SqL.of (by assumption), (by rfl), ?_⟩ | refine ⟨_, _, _, _, rfl, rfl, SqT.of (by assumption), (by rfl), ?_⟩ | refine ⟨_, _, rfl, .inl (SqL.of (by assumption)), ?_⟩ | refine ⟨_, _, rfl, .inr (SqT.of (by assumption)), ?_⟩))
    exact q
  refine ⟨_, rfl, _, _, _, _, rfl, TyOf.lst ea, kit_list_list, ?_⟩
  (repeat (first | refine ⟨_, rfl, ?_⟩ | refine ⟨_, _, rfl, rfl, ?_⟩ | refine ⟨rfl, ?_⟩ | refine ⟨(by show (_ : Int) ≠ 0; first | decide | decide +kernel), ?_⟩ | refine ⟨⟨(by show (_ : Int) ≠ 0; decide), szd 9000⟩, ?_⟩ | refine ⟨(by show CPow _ _; exact ⟨by decide, by decide, by decide⟩), ?_⟩ | refine ⟨(by show CMulB _ _; refine ⟨_, _, (by trivial), (by trivial), ?_⟩; decide +kernel), ?_⟩ | refine ⟨_, _, _, _, rfl, rfl, SqL.of (by assumption), (by rfl), ?_⟩ | refine ⟨_, _, _, _, rfl, rfl, SqT.of (by assumption), (by rfl), ?_⟩ | refine ⟨_, _, rfl, .inl (SqL.of (by assumption)), ?_⟩ | refine ⟨_, _, rfl, .inr (SqT.of (by assumption)), ?_⟩))
  by_cases c : ys.length = n
  · refine ifT (eq_t (by rw [c])) ?_
    refine ⟨_, rfl, a, rfl, ⟨_, SqL.of ea⟩, ?_⟩
    refine comp_list (xs := ys) (small63 (by omega)) (fun D i zs H' => zs = ((ys.take i).map okR).map V.bl ∧ H' = upd H D (.lst zs)) (fun D hD => ⟨rfl, rfl⟩) (fun D i zs H' ⟨f1, f2⟩ => ⟨by rw [f2]; exact upd_same, by rw [f1, List.length_map, List.length_map]; exact List.length_take_le _ _⟩) (fun D i zs H' hD ⟨_, f2⟩ => by rw [f2]; exact SqL.of (same_new hD _ _ _ ea)) ?_ ?_
    · rintro D i y zs H' K1 K2 hD hy ⟨f1, rfl⟩ k1 k2
      refine yes (ifT rfl ?_)
      refine ⟨_, rfl, y, rfl, (w y (List.mem_of_getElem? hy)).same (same_new hD _), ?_⟩
      refine k1 _ _ upd_same ⟨?_, by rw [upd_upd]⟩
      rw [f1, List.take_succ, hy, List.map_append, List.map_append]
      rfl
    · rintro D zs H' hD ⟨f1, rfl⟩
      rw [List.take_length] at f1
      subst f1
      refine ⟨D, _, rfl, SqL.of upd_same, ?_⟩
      rw [show (ys.map okR).all id = ys.all okR from by rw [List.all_map]; rfl]
      have := q _ (same_new hD (.lst ((ys.map okR).map V.bl)))
      rw [decide_eq_true c, Bool.true_and] at this
      exact this
  · refine ifF (eq_f (by omega)) ?_
    have := q H (Same.refl H)
    rw [decide_eq_false c] at this
    exact this
theorem ok_slip_of (T : Tx K mg ad) : FnOk P w K mg base (CX1 P w) 4 ad.f_slip_of ad.d_slip_of ["ranks", "hands"] (spSlipX K ad.c_NoBallot) := by
  refine T.F_slip_of.okX sc_slip_of (fun vs H Q E h => ?_) (fun cdv A outer s H vs Q E hr h => ?_)
  · obtain ⟨x, n, rfl, _⟩ := h
    rfl
  obtain ⟨x, n, rfl, h⟩ := h
  refine ⟨_, (@pss_cons _ _ _ _ _ (@ps_if _ _ _ _ _ _ _ _ (@pt_not _ _ _ _ (@pt_val _ _ _ (@pe_call _ _ _ _ _ _ _ _ _ _ _ _ _ _ _ _ (ok_are_ranks T) (hr.mono (by decide)) rfl T.m_are_ranks T.F_are_ranks.kp T.b_are_ranks .nil pass0 (@pa_cons _ _ _ _ _ (pv 0) (@pa_cons _ _ _ _ _ (pv 1) pa_nil (by rfl)) (by rfl)) (by decide) (by rfl) (by rfl)) (by intro _; rfl))) (@pss_one _ _ _ (ps_raise ⟨rfl, rfl, rfl⟩ rfl rfl T.m_NoBallot T.x_NoBallot (@pa_cons _ _ _ _ _ pe_str pa_nil (by rfl)))) pss_nil) (@pss_one _ _ _ (@ps_ret _ _ _ _ (@pe_callTy _ _ _ _ _ _ _ _ _ call_tuple_of (by rfl) T.z_tuple PyProof.Rows.boot_tuple (@pa_cons _ _ _ _ _ (pe_comp (fsc := defScope s_slip_of) (N := ["ranks", "hands"]) (Nc := ["ranks", "hands", "rank"]) rfl rfl ⟨rfl, by decide +kernel, by decide +kernel, rfl, by decide +kernel, rfl, by decide +kernel, rfl, by decide +kernel⟩ rfl (pi_list (pe_sortedset rfl (by rfl) T.z_sorted (by rfl) T.z_set (pv 0))) (fun _ _ _ _ => (pif_one (@pt_cmpR _ _ _ _ _ _ _ _ op_gt (pv 2) pe_int (nomark _)))) (fun _ _ _ _ => (@pe_call _ _ _ _ _ _ _ _ _ _ _ _ _ _ _ _ (ok_tier_at T) (hr.mono (by decide)) rfl T.m_tier_at T.F_tier_at.kp T.b_tier_at .nil pass0 (@pa_cons _ _ _ _ _ (pv 0) (@pa_cons _ _ _ _ _ (pv 2) pa_nil (by rfl)) (by rfl)) (by decide) (by rfl) (by rfl)))) pa_nil (by rfl)) (by decide) (by decide) (by rfl) (by rfl))))), ?_⟩
  have say : 1 ≤ sizeLine := by decide
  rcases h with ⟨bad, he⟩ | ⟨p, rs, rfl, rfl, hS, h12, hR, q⟩
  · refine ⟨_, rfl, _, rfl, x, n, rfl, .inl ⟨bad, fun H1 s1 => ?_⟩⟩
    refine ⟨_, rfl, ?_⟩
    exact iteT ⟨say, he _ s1⟩
  refine ⟨_, rfl, _, rfl, _, _, rfl, .inr ⟨p, rs, rfl, rfl, hS, h12, hR, fun H0 s00 => ?_⟩⟩
  (repeat (first | refine ⟨_, rfl, ?_⟩ | refine ⟨_, _, rfl, rfl, ?_⟩ | refine ⟨rfl, ?_⟩ | refine ⟨(by show (_ : Int) ≠ 0; first | decide | decide +kernel), ?_⟩ | refine ⟨⟨(by show (_ : Int) ≠ 0; decide), szd 9000⟩, ?_⟩ | refine ⟨(by show CPow _ _; exact ⟨by decide, by decide, by decide⟩), ?_⟩ | refine ⟨(by show CMulB _ _; refine ⟨_, _, (by trivial), (by trivial), ?_⟩; decide +kernel), ?_⟩ | refine ⟨_, _, _, _, rfl, rfl, SqL.of (by assumption), (by rfl), ?_⟩ | refine ⟨_, _, _, _, rfl, rfl, SqT.of (by assumption), (by rfl), ?_⟩ | refine ⟨_, _, rfl, .inl (SqL.of (by assumption)), ?_⟩ | refine ⟨_, _, rfl, .inr (SqT.of (by assumption)), ?_⟩))
  refine ⟨p, rs, rfl, SqL.of (s00 _ _ hS), by omega, fun l ms m1 m2 hl => ?_⟩
  obtain rfl := sset_of m1 m2
  have sl := sset_len rs
  have s0 := s00.trans (same_new hl (.lst ((sset rs).map V.int)))
  have el : (upd H0 l (.lst ((sset rs).map V.int))) l = some (.lst ((sset rs).map V.int)) := upd_same
  generalize upd H0 l (.lst ((sset rs).map V.int)) = H1 at s0 el ⊢
  refine ⟨l, rfl, ⟨_, SqL.of el⟩, ?_⟩
  refine comp_list (xs := (sset rs).map V.int) (by rw [List.length_map]; exact small63 (by omega)) (fun D i ys H' => ys = ((((sset rs).take i).filter fun r => decide (0 < r)).map (tierOf rs)).map V.int ∧ H' D = some (.lst ys) ∧ Same H1 H') (fun D hD => ⟨rfl, upd_same, same_new hD _⟩)
    (fun D i ys H' ⟨e1, e2, _⟩ => ⟨e2, by rw [e1, List.length_map, List.length_map]; exact Nat.le_trans (List.length_filter_le _ _) (List.length_take_le _ _)⟩) (fun D i ys H' hD ⟨_, _, e3⟩ => SqL.of (e3 _ _ el)) ?_ ?_
  · rintro D i x ys H' K1 K2 hD hx ⟨e1, e2, e3⟩ k1 k2
    obtain ⟨z, hz, rfl⟩ := int_at hx
    have et : (sset rs).take (i + 1) = (sset rs).take i ++ [z] := by rw [List.take_succ, hz]; rfl
    refine ⟨_, rfl, _, _, rfl, rfl, _, rfl, ?_⟩
    refine ite2 (fun c => ?_) (fun c => ?_)
    · have c' : decide (0 < z) = true := c
      refine ⟨_, rfl, _, rfl, p, rs, z, rfl, SqL.of ((s0.trans e3) _ _ hS), h12, fun H5 s5 => ?_⟩
      refine k1 _ _ (s5 _ _ e2) ⟨?_, upd_same, same_upd (e3.trans s5) hD⟩
      rw [et, List.filter_append, List.map_append, List.map_append, e1]
      simp [c']
    · have c' : decide (0 < z) = false := Bool.eq_false_iff.mpr c
      refine k2 _ ⟨?_, e2, e3⟩
      rw [et, List.filter_append, e1]
      simp [c']
  · rintro D ys H' hD ⟨e1, e2, e3⟩
    rw [List.length_map, List.take_of_length_le (Nat.le_refl _)] at e1
    subst e1
    refine ⟨D, _, rfl, .inl ⟨SqL.of e2, fun t ht => ?_⟩⟩
    have s9 := (s0.trans e3)
    exact q t _ (by
      cases e : H t with
      | none => rfl
      | some u => rw [s9 _ _ e] at ht; cases ht) (s9.trans (same_new ht _)) upd_same
theorem ok_law_refused (T : Tx K mg ad) : FnOk P w K mg base CX0 5 ad.f_law_refused ad.d_law_refused ["_law_ranks_here", "_law_hands"] (spRef24 K) := by
  refine T.F_law_refused.ok sc_law_refused (fun vs H Q E h => ?_) (fun cdv A outer s H vs Q E hr h => ?_)
  · obtain ⟨x, n, rfl, _⟩ := h
    rfl
  obtain ⟨x, n, rfl, bad, q⟩ := h
  refine ⟨_, (@pss_cons _ _ _ _ _ (@ps_set _ _ (2) _ _ _ _ sc_law_refused.nd rfl (Or.inl rfl) pe_bl (by rfl) (by first | exact .inl rfl | exact .inr rfl | assumption)) (@pss_cons _ _ _ _ _ (ps_try ⟨rfl, rfl, rfl⟩ (fun _ _ => (@pss_one _ _ _ (@ps_expr _ _ _ _ (@pe_callW _ _ _ _ _ _ _ _ _ _ _ _ _ _ _ ⟨rfl, rfl, rfl⟩ (ok_slip_of T) (hr.mono (by decide)) rfl T.m_slip_of T.F_slip_of.kp T.b_slip_of .nil (@pa_cons _ _ _ _ _ (pv 0) (@pa_cons _ _ _ _ _ (pv 1) pa_nil (by rfl)) (by rfl)) (by decide) (by rfl) (by rfl)) (by rfl)))) (ph_as (i := 3) ⟨rfl, rfl, rfl⟩ T.h_PollError rfl T.m_PollError sc_law_refused.nd rfl rfl (fun _ => (@pss_cons _ _ _ _ _ (@ps_set _ _ (4) _ _ _ _ sc_law_refused.nd rfl (Or.inl rfl) (@pe_callB _ _ _ _ _ _ _ _ _ (call_isxT (K := K)) (by rfl) T.z_isinstance PyProof.Rows.boot_isinstance (@pa_cons _ _ _ _ _ (pv 3) (@pa_cons _ _ _ _ _ (@pe_tup _ _ _ _ _ (@pa_cons _ _ _ _ _ (pe_glob (v := .ref ad.c_Ended) rfl T.m_Ended rfl) (@pa_cons _ _ _ _ _ (pe_glob (v := .ref ad.c_NoBundle) rfl T.m_NoBundle rfl) (@pa_cons _ _ _ _ _ (pe_glob (v := .ref ad.c_NoChange) rfl T.m_NoChange rfl) (@pa_cons _ _ _ _ _ (pe_glob (v := .ref ad.c_NoNumber) rfl T.m_NoNumber rfl) (@pa_cons _ _ _ _ _ (pe_glob (v := .ref ad.c_NoRow) rfl T.m_NoRow rfl) (@pa_cons _ _ _ _ _ (pe_glob (v := .ref ad.c_NoSheet) rfl T.m_NoSheet rfl) (@pa_cons _ _ _ _ _ (pe_glob (v := .ref ad.c_NoWay) rfl T.m_NoWay rfl) (@pa_cons _ _ _ _ _ (pe_glob (v := .ref ad.c_TooHard) rfl T.m_TooHard rfl) (@pa_cons _ _ _ _ _ (pe_glob (v := .ref ad.c_Torn) rfl T.m_Torn rfl) (@pa_cons _ _ _ _ _ (pe_glob (v := .ref ad.c_WrongNumber) rfl T.m_WrongNumber rfl) pa_nil (by rfl)) (by rfl)) (by rfl)) (by rfl)) (by rfl)) (by rfl)) (by rfl)) (by rfl)) (by rfl)) (by rfl))) pa_nil (by rfl)) (by rfl)) (by decide) (by decide) (by rfl) (by rfl)) (by rfl) (by first | exact .inl rfl | exact .inr rfl | assumption)) (@pss_one _ _ _ (@ps_set _ _ (2) _ _ _ _ sc_law_refused.nd rfl (Or.inl rfl) (@pe_and _ _ _ _ _ _ _ (@pe_callB _ _ _ _ _ _ _ _ _ (call_isx (K := K)) (by rfl) T.z_isinstance PyProof.Rows.boot_isinstance (@pa_cons _ _ _ _ _ (pv 3) (@pa_cons _ _ _ _ _ (pe_glob (v := .ref ad.c_NoBallot) rfl T.m_NoBallot rfl) pa_nil (by rfl)) (by rfl)) (by decide) (by decide) (by rfl) (by rfl)) (@pe_and _ _ _ _ _ _ _ (@pe_callB _ _ _ _ _ _ _ _ _ (call_isx (K := K)) (by rfl) T.z_isinstance PyProof.Rows.boot_isinstance (@pa_cons _ _ _ _ _ (pv 3) (@pa_cons _ _ _ _ _ (pe_bltn (v := .ty "ValueError") rfl T.z_ValueError PyProof.Rows.Boot.«ValueError» rfl) pa_nil (by rfl)) (by rfl)) (by decide) (by decide) (by rfl) (by rfl)) (@pe_one _ _ _ _ _ (@pe_not _ _ _ _ (pv 4))))) (by rfl) (by first | exact .inl rfl | exact .inr rfl | assumption))))) ph_never)) (@pss_one _ _ _ (@ps_ret _ _ _ _ (pv 2))))), ?_⟩
  have kit : ∀ {B : Addr} {b : Bool}, HCls K B → PySem.W.subIn K (.ref ad.c_NoBallot) (.ref B) = some b → PySem.W.kitOne K (.ref ad.c_NoBallot) (.ref B) = some b := fun c h => kit_cc c h T.s_NoBallot_NoBallot
  (repeat (first | refine ⟨_, rfl, ?_⟩ | refine ⟨_, _, rfl, rfl, ?_⟩ | refine ⟨rfl, ?_⟩ | refine ⟨(by show (_ : Int) ≠ 0; first | decide | decide +kernel), ?_⟩ | refine ⟨⟨(by show (_ : Int) ≠ 0; decide), szd 9000⟩, ?_⟩ | refine ⟨(by show CPow _ _; exact ⟨by decide, by decide, by decide⟩), ?_⟩ | refine ⟨(by show CMulB _ _; refine ⟨_, _, (by trivial), (by trivial), ?_⟩; decide +kernel), ?_⟩ | refine ⟨_, _, _, _, rfl, rfl, SqL.of (by assumption), (by rfl), ?_⟩ | refine ⟨_, _, _, _, rfl, rfl, SqT.of (by assumption), (by rfl), ?_⟩ | refine ⟨_, _, rfl, .inl (SqL.of (by assumption)), ?_⟩ | refine ⟨_, _, rfl, .inr (SqT.of (by assumption)), ?_⟩))
  refine ⟨x, n, rfl, .inl ⟨bad, fun H1 s1 => ?_⟩⟩
  refine ⟨true, T.s_NoBallot_PollError, ?_⟩
  rw [if_pos rfl]
  intro e he
  have se : Same H1 (upd H1 e (hoX e (.ref ad.c_NoBallot) none)) := same_new he _
  have ee : (upd H1 e (hoX e (.ref ad.c_NoBallot) none)) e = some (hoX e (.ref ad.c_NoBallot) none) := upd_same
  generalize upd H1 e (hoX e (.ref ad.c_NoBallot) none) = H2 at se ee ⊢
  refine ⟨_, rfl, (by show 10 ≤ sizeLine; decide), fun t1 ht1 => ?_⟩
  have st := same_new ht1 (.tup ([.ref ad.c_Ended, .ref ad.c_NoBundle, .ref ad.c_NoChange, .ref ad.c_NoNumber, .ref ad.c_NoRow, .ref ad.c_NoSheet, .ref ad.c_NoWay, .ref ad.c_TooHard, .ref ad.c_Torn, .ref ad.c_WrongNumber] : List V))
  refine ⟨e, ad.c_NoBallot, none, t1, _, [.ref ad.c_Ended, .ref ad.c_NoBundle, .ref ad.c_NoChange, .ref ad.c_NoNumber, .ref ad.c_NoRow, .ref ad.c_NoSheet, .ref ad.c_NoWay, .ref ad.c_TooHard, .ref ad.c_Torn, .ref ad.c_WrongNumber], false, rfl, st _ _ ee, .inl rfl, T.k_NoBallot, SqT.of upd_same, rfl, (kan (kit T.h_Ended T.s_NoBallot_Ended) (kan (kit T.h_NoBundle T.s_NoBallot_NoBundle) (kan (kit T.h_NoChange T.s_NoBallot_NoChange) (kan (kit T.h_NoNumber T.s_NoBallot_NoNumber) (kan (kit T.h_NoRow T.s_NoBallot_NoRow) (kan (kit T.h_NoSheet T.s_NoBallot_NoSheet) (kan (kit T.h_NoWay T.s_NoBallot_NoWay) (kan (kit T.h_TooHard T.s_NoBallot_TooHard) (kan (kit T.h_Torn T.s_NoBallot_Torn) (kan (kit T.h_WrongNumber T.s_NoBallot_WrongNumber) kan_nil)))))))))), ?_⟩
  have e3 := st _ _ ee
  have s3 := (s1.trans se).trans st
  generalize upd H2 t1 _ = H3 at e3 s3 ⊢
  refine ⟨_, rfl, e, ad.c_NoBallot, none, _, _, true, rfl, e3, .inl rfl, T.k_NoBallot, rfl, kit T.h_NoBallot T.s_NoBallot_NoBallot, _, rfl, ?_⟩
  refine iteT ?_
  refine ⟨_, rfl, e, ad.c_NoBallot, none, _, _, true, rfl, e3, .inl rfl, T.k_NoBallot, rfl, kit_cv kitMeta_ve T.v_NoBallot, _, rfl, ?_⟩
  refine iteT ?_
  (repeat (first | refine ⟨_, rfl, ?_⟩ | refine ⟨_, _, rfl, rfl, ?_⟩ | refine ⟨rfl, ?_⟩ | refine ⟨(by show (_ : Int) ≠ 0; first | decide | decide +kernel), ?_⟩ | refine ⟨⟨(by show (_ : Int) ≠ 0; decide), szd 9000⟩, ?_⟩ | refine ⟨(by show CPow _ _; exact ⟨by decide, by decide, by decide⟩), ?_⟩ | refine ⟨(by show CMulB _ _; refine ⟨_, _, (by trivial), (by trivial), ?_⟩; decide +kernel), ?_⟩ | refine ⟨_, _, _, _, rfl, rfl, SqL.of (by assumption), (by rfl), ?_⟩ | refine ⟨_, _, _, _, rfl, rfl, SqT.of (by assumption), (by rfl), ?_⟩ | refine ⟨_, _, rfl, .inl (SqL.of (by assumption)), ?_⟩ | refine ⟨_, _, rfl, .inr (SqT.of (by assumption)), ?_⟩))
  exact q _ s3
theorem ok_law_named (T : Tx K mg ad) : FnOk P w K mg base CX0 5 ad.f_law_named ad.d_law_named ["_law_ranks_here", "_law_hands"] (spRef24 K) := by
  refine T.F_law_named.ok sc_law_named (fun vs H Q E h => ?_) (fun cdv A outer s H vs Q E hr h => ?_)
  · obtain ⟨x, n, rfl, _⟩ := h
    rfl
  obtain ⟨x, n, rfl, bad, q⟩ := h
  refine ⟨_, (@pss_cons _ _ _ _ _ (@ps_set _ _ (2) _ _ _ _ sc_law_named.nd rfl (Or.inl rfl) pe_bl (by rfl) (by first | exact .inl rfl | exact .inr rfl | assumption)) (@pss_cons _ _ _ _ _ (ps_try ⟨rfl, rfl, rfl⟩ (fun _ _ => (@pss_one _ _ _ (@ps_expr _ _ _ _ (@pe_callW _ _ _ _ _ _ _ _ _ _ _ _ _ _ _ ⟨rfl, rfl, rfl⟩ (ok_slip_of T) (hr.mono (by decide)) rfl T.m_slip_of T.F_slip_of.kp T.b_slip_of .nil (@pa_cons _ _ _ _ _ (pv 0) (@pa_cons _ _ _ _ _ (pv 1) pa_nil (by rfl)) (by rfl)) (by decide) (by rfl) (by rfl)) (by rfl)))) (ph_c ⟨rfl, rfl, rfl⟩ T.h_NoBallot rfl T.m_NoBallot (fun _ => (@pss_one _ _ _ (@ps_set _ _ (2) _ _ _ _ sc_law_named.nd rfl (Or.inl rfl) pe_bl (by rfl) (by first | exact .inl rfl | exact .inr rfl | assumption)))) ph_never)) (@pss_one _ _ _ (@ps_ret _ _ _ _ (pv 2))))), ?_⟩
  have kit : ∀ {B : Addr} {b : Bool}, HCls K B → PySem.W.subIn K (.ref ad.c_NoBallot) (.ref B) = some b → PySem.W.kitOne K (.ref ad.c_NoBallot) (.ref B) = some b := fun c h => kit_cc c h T.s_NoBallot_NoBallot
  (repeat (first | refine ⟨_, rfl, ?_⟩ | refine ⟨_, _, rfl, rfl, ?_⟩ | refine ⟨rfl, ?_⟩ | refine ⟨(by show (_ : Int) ≠ 0; first | decide | decide +kernel), ?_⟩ | refine ⟨⟨(by show (_ : Int) ≠ 0; decide), szd 9000⟩, ?_⟩ | refine ⟨(by show CPow _ _; exact ⟨by decide, by decide, by decide⟩), ?_⟩ | refine ⟨(by show CMulB _ _; refine ⟨_, _, (by trivial), (by trivial), ?_⟩; decide +kernel), ?_⟩ | refine ⟨_, _, _, _, rfl, rfl, SqL.of (by assumption), (by rfl), ?_⟩ | refine ⟨_, _, _, _, rfl, rfl, SqT.of (by assumption), (by rfl), ?_⟩ | refine ⟨_, _, rfl, .inl (SqL.of (by assumption)), ?_⟩ | refine ⟨_, _, rfl, .inr (SqT.of (by assumption)), ?_⟩))
  refine ⟨x, n, rfl, .inl ⟨bad, fun H1 s1 => ?_⟩⟩
  refine ⟨true, T.s_NoBallot_NoBallot, ?_⟩
  rw [if_pos rfl]
  intro e he
  (repeat (first | refine ⟨_, rfl, ?_⟩ | refine ⟨_, _, rfl, rfl, ?_⟩ | refine ⟨rfl, ?_⟩ | refine ⟨(by show (_ : Int) ≠ 0; first | decide | decide +kernel), ?_⟩ | refine ⟨⟨(by show (_ : Int) ≠ 0; decide), szd 9000⟩, ?_⟩ | refine ⟨(by show CPow _ _; exact ⟨by decide, by decide, by decide⟩), ?_⟩ | refine ⟨(by show CMulB _ _; refine ⟨_, _, (by trivial), (by trivial), ?_⟩; decide +kernel), ?_⟩ | refine ⟨_, _, _, _, rfl, rfl, SqL.of (by assumption), (by rfl), ?_⟩ | refine ⟨_, _, _, _, rfl, rfl, SqT.of (by assumption), (by rfl), ?_⟩ | refine ⟨_, _, rfl, .inl (SqL.of (by assumption)), ?_⟩ | refine ⟨_, _, rfl, .inr (SqT.of (by assumption)), ?_⟩))
  exact q _ (s1.trans (same_new he _))
theorem ok_law (T : Tx K mg ad) : FnOk P w K mg base CX0 6 ad.f_law ad.d_law ["_law_script"] (spLaw K) := by
  refine T.F_law.ok sc_law (fun vs H Q E h => ?_) (fun cdv A outer s H vs Q E hr h => ?_)
  · obtain ⟨p, ns, rfl, _⟩ := h
    rfl
  obtain ⟨p, ns, rfl, hS, h63, q⟩ := h
  refine ⟨_, (@pss_cons _ _ _ _ _ (@ps_set _ _ (1) _ _ _ _ sc_law.nd rfl (Or.inl rfl) (@pe_op _ _ _ _ _ _ _ _ op_add pe_int (@pe_op _ _ _ _ _ _ _ _ op_modN (@pe_call _ _ _ _ _ _ _ _ _ _ _ _ _ _ _ _ (ok_law_cell T) (hr.mono (by decide)) rfl T.m_law_cell T.F_law_cell.kp T.b_law_cell .nil pass0 (@pa_cons _ _ _ _ _ (pv 0) (@pa_cons _ _ _ _ _ pe_int pa_nil (by rfl)) (by rfl)) (by decide) (by rfl) (by rfl)) pe_int)) (by rfl) (by first | exact .inl rfl | exact .inr rfl | assumption)) (@pss_cons _ _ _ _ _ (@ps_set _ _ (2) _ _ _ _ sc_law.nd rfl (Or.inl rfl) (@pe_call _ _ _ _ _ _ _ _ _ _ _ _ _ _ _ _ (ok_law_ranks T) (hr.mono (by decide)) rfl T.m_law_ranks T.F_law_ranks.kp T.b_law_ranks .nil pass0 (@pa_cons _ _ _ _ _ (pv 0) (@pa_cons _ _ _ _ _ pe_int (@pa_cons _ _ _ _ _ (pv 1) pa_nil (by rfl)) (by rfl)) (by rfl)) (by decide) (by rfl) (by rfl)) (by rfl) (by first | exact .inl rfl | exact .inr rfl | assumption)) (@pss_cons _ _ _ _ _ (@ps_set _ _ (3) _ _ _ _ sc_law.nd rfl (Or.inl rfl) (@pe_call _ _ _ _ _ _ _ _ _ _ _ _ _ _ _ _ (ok_law_slip T) (hr.mono (by decide)) rfl T.m_law_slip T.F_law_slip.kp T.b_law_slip .nil pass0 (@pa_cons _ _ _ _ _ (pv 2) pa_nil (by rfl)) (by decide) (by rfl) (by rfl)) (by rfl) (by first | exact .inl rfl | exact .inr rfl | assumption)) (@pss_cons _ _ _ _ _ (@ps_set _ _ (4) _ _ _ _ sc_law.nd rfl (Or.inl rfl) (@pe_call _ _ _ _ _ _ _ _ _ _ _ _ _ _ _ _ (ok_law_mixed T) (hr.mono (by decide)) rfl T.m_law_mixed T.F_law_mixed.kp T.b_law_mixed .nil pass0 (@pa_cons _ _ _ _ _ (@pe_call _ _ _ _ _ _ _ _ _ _ _ _ _ _ _ _ (ok_law_cell T) (hr.mono (by decide)) rfl T.m_law_cell T.F_law_cell.kp T.b_law_cell .nil pass0 (@pa_cons _ _ _ _ _ (pv 0) (@pa_cons _ _ _ _ _ pe_int pa_nil (by rfl)) (by rfl)) (by decide) (by rfl) (by rfl)) (@pa_cons _ _ _ _ _ pe_int pa_nil (by rfl)) (by rfl)) (by decide) (by rfl) (by rfl)) (by rfl) (by first | exact .inl rfl | exact .inr rfl | assumption)) (@pss_cons _ _ _ _ _ (@ps_if _ _ _ _ _ _ _ _ (@pt_not _ _ _ _ (@pt_val _ _ _ (@pe_call _ _ _ _ _ _ _ _ _ _ _ _ _ _ _ _ (ok_law_same_slip T) (hr.mono (by decide)) rfl T.m_law_same_slip T.F_law_same_slip.kp T.b_law_same_slip .nil pass0 (@pa_cons _ _ _ _ _ (@pe_call _ _ _ _ _ _ _ _ _ _ _ _ _ _ _ _ (ok_slip_of T) (hr.mono (by decide)) rfl T.m_slip_of T.F_slip_of.kp T.b_slip_of .nil pass1 (@pa_cons _ _ _ _ _ (@pe_callTy _ _ _ _ _ _ _ _ _ call_list_of (by rfl) T.z_list PyProof.Rows.boot_list (@pa_cons _ _ _ _ _ (pv 2) pa_nil (by rfl)) (by decide) (by decide) (by rfl) (by rfl)) (@pa_cons _ _ _ _ _ (pv 1) pa_nil (by rfl)) (by rfl)) (by decide) (by rfl) (by rfl)) (@pa_cons _ _ _ _ _ (pv 3) pa_nil (by rfl)) (by rfl)) (by decide) (by rfl) (by rfl)) (by intro _; rfl))) (@pss_one _ _ _ (@ps_ret _ _ _ _ pe_bl)) pss_nil) (@pss_cons _ _ _ _ _ (@ps_set _ _ (5) _ _ _ _ sc_law.nd rfl (Or.inl rfl) (@pe_call _ _ _ _ _ _ _ _ _ _ _ _ _ _ _ _ (ok_law_bad T) (hr.mono (by decide)) rfl T.m_law_bad T.F_law_bad.kp T.b_law_bad .nil pass0 (@pa_cons _ _ _ _ _ (pv 2) (@pa_cons _ _ _ _ _ (pv 4) pa_nil (by rfl)) (by rfl)) (by decide) (by rfl) (by rfl)) (by rfl) (by first | exact .inl rfl | exact .inr rfl | assumption)) (@pss_cons _ _ _ _ _ (@ps_set _ _ (6) _ _ _ _ sc_law.nd rfl (Or.inl rfl) (@pe_call _ _ _ _ _ _ _ _ _ _ _ _ _ _ _ _ (ok_law_bad T) (hr.mono (by decide)) rfl T.m_law_bad T.F_law_bad.kp T.b_law_bad .nil pass0 (@pa_cons _ _ _ _ _ (pv 2) (@pa_cons _ _ _ _ _ (pv 4) pa_nil (by rfl)) (by rfl)) (by decide) (by rfl) (by rfl)) (by rfl) (by first | exact .inl rfl | exact .inr rfl | assumption)) (@pss_cons _ _ _ _ _ (ps_for PassesOwn.never rfl (pi_range1 rfl T.z_range (@pa_cons _ _ _ _ _ (@pe_callB _ _ _ _ _ _ _ _ _ call_len_seq (by rfl) T.z_len PySem.boot_len (@pa_cons _ _ _ _ _ (pv 5) pa_nil (by rfl)) (by decide) (by decide) (by rfl) (by rfl)) pa_nil (by rfl))) (pg_name (i := 7) sc_law.nd rfl (Or.inl rfl)) (@pss_cons _ _ _ _ _ (@ps_if _ _ _ _ _ _ _ _ (@pt_not _ _ _ _ (@pt_val _ _ _ (@pe_call _ _ _ _ _ _ _ _ _ _ _ _ _ _ _ _ (ok_law_refused T) (hr.mono (by decide)) rfl T.m_law_refused T.F_law_refused.kp T.b_law_refused .nil pass0 (@pa_cons _ _ _ _ _ (@pe_ix _ _ _ _ _ _ _ ix_list (pv 5) (pv 7) (fun _ _ => rfl)) (@pa_cons _ _ _ _ _ (pv 1) pa_nil (by rfl)) (by rfl)) (by decide) (by rfl) (by rfl)) (by intro _; rfl))) (@pss_one _ _ _ (@ps_ret _ _ _ _ pe_bl)) pss_nil) (@pss_one _ _ _ (@ps_if _ _ _ _ _ _ _ _ (@pt_cmpR _ _ _ _ _ _ _ _ op_eq (@pe_op _ _ _ _ _ _ _ _ op_modN (pv 7) pe_int) (@pe_op _ _ _ _ _ _ _ _ op_modN (@pe_op _ _ _ _ _ _ _ _ op_fdivB (pv 4) pe_int) pe_int) (nomark _)) (@pss_one _ _ _ (@ps_if _ _ _ _ _ _ _ _ (PW.pt (@pw_or _ _ _ _ _ _ _ (@pt_not _ _ _ _ (@pt_val _ _ _ (@pe_call _ _ _ _ _ _ _ _ _ _ _ _ _ _ _ _ (ok_law_named T) (hr.mono (by decide)) rfl T.m_law_named T.F_law_named.kp T.b_law_named .nil pass0 (@pa_cons _ _ _ _ _ (@pe_ix _ _ _ _ _ _ _ ix_list (pv 5) (pv 7) (fun _ _ => rfl)) (@pa_cons _ _ _ _ _ (pv 1) pa_nil (by rfl)) (by rfl)) (by decide) (by rfl) (by rfl)) (by intro _; rfl))) (@pw_or1 _ _ _ _ (@pt_not _ _ _ _ (@pt_val _ _ _ (@pe_call _ _ _ _ _ _ _ _ _ _ _ _ _ _ _ _ (ok_law_same_slip T) (hr.mono (by decide)) rfl T.m_law_same_slip T.F_law_same_slip.kp T.b_law_same_slip .nil pass0 (@pa_cons _ _ _ _ _ (@pe_call _ _ _ _ _ _ _ _ _ _ _ _ _ _ _ _ (ok_slip_of T) (hr.mono (by decide)) rfl T.m_slip_of T.F_slip_of.kp T.b_slip_of .nil pass1 (@pa_cons _ _ _ _ _ (@pe_callTy _ _ _ _ _ _ _ _ _ call_list_of (by rfl) T.z_list PyProof.Rows.boot_list (@pa_cons _ _ _ _ _ (pv 2) pa_nil (by rfl)) (by decide) (by decide) (by rfl) (by rfl)) (@pa_cons _ _ _ _ _ (pv 1) pa_nil (by rfl)) (by rfl)) (by decide) (by rfl) (by rfl)) (@pa_cons _ _ _ _ _ (pv 3) pa_nil (by rfl)) (by rfl)) (by decide) (by rfl) (by rfl)) (by intro _; rfl)))))) (@pss_one _ _ _ (@ps_ret _ _ _ _ pe_bl)) pss_nil)) pss_nil)))) (@pss_one _ _ _ (@ps_ret _ _ _ _ (@pe_and _ _ _ _ _ _ _ (@pe_cmpR _ _ _ _ _ _ _ _ (op_eqX (K := K) hr.units) (pv 5) (pv 6) (nomark _)) (@pe_one _ _ _ _ _ (@pe_call _ _ _ _ _ _ _ _ _ _ _ _ _ _ _ _ (ok_law_same_slip T) (hr.mono (by decide)) rfl T.m_law_same_slip T.F_law_same_slip.kp T.b_law_same_slip .nil pass0 (@pa_cons _ _ _ _ _ (@pe_call _ _ _ _ _ _ _ _ _ _ _ _ _ _ _ _ (ok_slip_of T) (hr.mono (by decide)) rfl T.m_slip_of T.F_slip_of.kp T.b_slip_of .nil pass1 (@pa_cons _ _ _ _ _ (@pe_callTy _ _ _ _ _ _ _ _ _ call_list_of (by rfl) T.z_list PyProof.Rows.boot_list (@pa_cons _ _ _ _ _ (pv 2) pa_nil (by rfl)) (by decide) (by decide) (by rfl) (by rfl)) (@pa_cons _ _ _ _ _ (pv 1) pa_nil (by rfl)) (by rfl)) (by decide) (by rfl) (by rfl)) (@pa_cons _ _ _ _ _ (pv 3) pa_nil (by rfl)) (by rfl)) (by decide) (by rfl) (by rfl)))))))))))))), ?_⟩
  refine ⟨_, rfl, p, ns, 0, rfl, hS, h63, by decide, by decide, fun c c0 c1 => ?_⟩
  (repeat (first | refine ⟨_, rfl, ?_⟩ | refine ⟨_, _, rfl, rfl, ?_⟩ | refine ⟨rfl, ?_⟩ | refine ⟨(by show (_ : Int) ≠ 0; first | decide | decide +kernel), ?_⟩ | refine ⟨⟨(by show (_ : Int) ≠ 0; decide), szd 9000⟩, ?_⟩ | refine ⟨(by show CPow _ _; exact ⟨by decide, by decide, by decide⟩), ?_⟩ | refine ⟨(by show CMulB _ _; refine ⟨_, _, (by trivial), (by trivial), ?_⟩; decide +kernel), ?_⟩ | refine ⟨_, _, _, _, rfl, rfl, SqL.of (by assumption), (by rfl), ?_⟩ | refine ⟨_, _, _, _, rfl, rfl, SqT.of (by assumption), (by rfl), ?_⟩ | refine ⟨_, _, rfl, .inl (SqL.of (by assumption)), ?_⟩ | refine ⟨_, _, rfl, .inr (SqT.of (by assumption)), ?_⟩))
  have hm := fmod_in c (show (0 : Int) < 12 by decide)
  dsimp only
  obtain ⟨h, eh⟩ : ∃ h, h = 1 + c.fmod 12 := ⟨_, rfl⟩
  have h1 : 1 ≤ h ∧ h ≤ 12 := by omega
  rw [← eh]
  clear eh
  refine ⟨p, ns, 1, h, rfl, hS, h63, by decide, by decide, h1.1, h1.2, fun l rs H1 hl s1 e1 en hR => ?_⟩
  subst en
  have r1 : 1 ≤ rs.length := by omega
  have r12 : rs.length ≤ 12 := by omega
  refine ⟨_, rfl, l, rs, rfl, SqL.of e1, r12, fun t H2 ht s2 e2 => ?_⟩
  refine ⟨_, rfl, p, ns, 14, rfl, (s1.trans s2).seq hS, h63, by decide, by decide, fun c c0 c1 => ?_⟩
  refine ⟨c, 5, rfl, sz40 c0 c1, szd 64, fun z z0 z1 => ?_⟩
  refine ⟨_, rfl, l, _, rfl, .inl (SqL.of (s2 _ _ e1)), fun m1 hm1 => ?_⟩
  have x3 := same_new hm1 (.lst (rs.map V.int))
  have k1 : (upd H2 m1 (.lst (rs.map V.int))) m1 = some (.lst (rs.map V.int)) := upd_same
  generalize upd H2 m1 (.lst (rs.map V.int)) = X3 at x3 k1 ⊢
  refine ⟨_, rfl, _, _, rfl, .inr ⟨m1, rs, rfl, rfl, k1, by omega, hR, fun t2 Y3 ht2 y3 k2 => ?_⟩⟩
  refine ⟨_, rfl, t2, t, tiersOf rs, rfl, k2, (x3.trans y3) _ _ e2, ?_⟩
  replace y3 := x3.trans y3
  clear x3 hm1 ht2
  (repeat (first | refine ⟨_, rfl, ?_⟩ | refine ⟨_, _, rfl, rfl, ?_⟩ | refine ⟨rfl, ?_⟩ | refine ⟨(by show (_ : Int) ≠ 0; first | decide | decide +kernel), ?_⟩ | refine ⟨⟨(by show (_ : Int) ≠ 0; decide), szd 9000⟩, ?_⟩ | refine ⟨(by show CPow _ _; exact ⟨by decide, by decide, by decide⟩), ?_⟩ | refine ⟨(by show CMulB _ _; refine ⟨_, _, (by trivial), (by trivial), ?_⟩; decide +kernel), ?_⟩ | refine ⟨_, _, _, _, rfl, rfl, SqL.of (by assumption), (by rfl), ?_⟩ | refine ⟨_, _, _, _, rfl, rfl, SqT.of (by assumption), (by rfl), ?_⟩ | refine ⟨_, _, rfl, .inl (SqL.of (by assumption)), ?_⟩ | refine ⟨_, _, rfl, .inr (SqT.of (by assumption)), ?_⟩))
  have q1 := (s2.trans y3) _ _ e1
  have q2 := y3 _ _ e2
  refine ⟨l, rs, z, rfl, q1, r1, r12, z0, z1, fun a xs H5 ha s5 ea ga => ?_⟩
  (repeat (first | refine ⟨_, rfl, ?_⟩ | refine ⟨_, _, rfl, rfl, ?_⟩ | refine ⟨rfl, ?_⟩ | refine ⟨(by show (_ : Int) ≠ 0; first | decide | decide +kernel), ?_⟩ | refine ⟨⟨(by show (_ : Int) ≠ 0; decide), szd 9000⟩, ?_⟩ | refine ⟨(by show CPow _ _; exact ⟨by decide, by decide, by decide⟩), ?_⟩ | refine ⟨(by show CMulB _ _; refine ⟨_, _, (by trivial), (by trivial), ?_⟩; decide +kernel), ?_⟩ | refine ⟨_, _, _, _, rfl, rfl, SqL.of (by assumption), (by rfl), ?_⟩ | refine ⟨_, _, _, _, rfl, rfl, SqT.of (by assumption), (by rfl), ?_⟩ | refine ⟨_, _, rfl, .inl (SqL.of (by assumption)), ?_⟩ | refine ⟨_, _, rfl, .inr (SqT.of (by assumption)), ?_⟩))
  refine ⟨l, rs, z, rfl, s5 _ _ q1, r1, r12, z0, z1, fun b ys H6 hb s6 eb gb => ?_⟩
  have hk := fmod_in z (show (0 : Int) < (rs.length : Nat) by omega)
  have f0 := (fmod_in (z.fdiv 12) (show (0 : Int) < 10 ^ (30 : Int).toNat by decide)).1
  have are := things_are (rs := rs) (k := (z.fmod (rs.length : Nat)).toNat) (m := (z.fdiv 12).fmod 3) f0 r12 (by omega)
  have ea6 := s6 _ _ ea
  have xl : xs.length = 20 := ga.len
  have yl : ys.length = 20 := gb.len
  generalize thingsD rs (z.fmod (rs.length : Nat)).toNat ((z.fdiv 12).fmod (10 ^ (30 : Int).toNat)) ((z.fdiv 12).fmod 3) = ds at are ga gb
  refine ⟨_, rfl, a, _, rfl, .inl (SqL.of ea6), _, rfl, by omega, by omega, for_range (fun i σ' H' => ∃ v, σ' = [some (.ref p), some (.int (rs.length : Nat)), some (.ref l), some (.ref t), some (.int z), some (.ref a), some (.ref b), v] ∧ Same H6 H') ⟨none, rfl, Same.refl H6⟩ ?_ ?_⟩
  · rintro i σ' J hi ⟨v, rfl, sJ⟩
    have hi' : i < xs.length := by omega
    obtain ⟨x, hx⟩ : ∃ x, xs[i]? = some x := ⟨_, List.getElem?_eq_getElem hi'⟩
    have bad : Bad24 K J x rs.length := (ga.bad (fun d m => (are d m).1) hx).same (s6.trans sJ)
    have s5J := (s5.trans s6).trans sJ
    refine ⟨_, rfl, _, rfl, a, _, _, _, rfl, rfl, SqL.of (sJ _ _ ea6), (by rw [Int.zero_add]; exact atI_nat hx), ?_⟩
    (repeat (first | refine ⟨_, rfl, ?_⟩ | refine ⟨_, _, rfl, rfl, ?_⟩ | refine ⟨rfl, ?_⟩ | refine ⟨(by show (_ : Int) ≠ 0; first | decide | decide +kernel), ?_⟩ | refine ⟨⟨(by show (_ : Int) ≠ 0; decide), szd 9000⟩, ?_⟩ | refine ⟨(by show CPow _ _; exact ⟨by decide, by decide, by decide⟩), ?_⟩ | refine ⟨(by show CMulB _ _; refine ⟨_, _, (by trivial), (by trivial), ?_⟩; decide +kernel), ?_⟩ | refine ⟨_, _, _, _, rfl, rfl, SqL.of (by assumption), (by rfl), ?_⟩ | refine ⟨_, _, _, _, rfl, rfl, SqT.of (by assumption), (by rfl), ?_⟩ | refine ⟨_, _, rfl, .inl (SqL.of (by assumption)), ?_⟩ | refine ⟨_, _, rfl, .inr (SqT.of (by assumption)), ?_⟩))
    refine ⟨x, rs.length, rfl, bad, fun J1 j1 => ?_⟩
    (repeat (first | refine ⟨_, rfl, ?_⟩ | refine ⟨_, _, rfl, rfl, ?_⟩ | refine ⟨rfl, ?_⟩ | refine ⟨(by show (_ : Int) ≠ 0; first | decide | decide +kernel), ?_⟩ | refine ⟨⟨(by show (_ : Int) ≠ 0; decide), szd 9000⟩, ?_⟩ | refine ⟨(by show CPow _ _; exact ⟨by decide, by decide, by decide⟩), ?_⟩ | refine ⟨(by show CMulB _ _; refine ⟨_, _, (by trivial), (by trivial), ?_⟩; decide +kernel), ?_⟩ | refine ⟨_, _, _, _, rfl, rfl, SqL.of (by assumption), (by rfl), ?_⟩ | refine ⟨_, _, _, _, rfl, rfl, SqT.of (by assumption), (by rfl), ?_⟩ | refine ⟨_, _, rfl, .inl (SqL.of (by assumption)), ?_⟩ | refine ⟨_, _, rfl, .inr (SqT.of (by assumption)), ?_⟩))
    refine ite2 (fun _ => ?_) (fun _ => ?_)
    · refine ⟨_, rfl, _, rfl, a, _, _, _, rfl, rfl, SqL.of ((sJ.trans j1) _ _ ea6), (by rw [Int.zero_add]; exact atI_nat hx), ?_⟩
      (repeat (first | refine ⟨_, rfl, ?_⟩ | refine ⟨_, _, rfl, rfl, ?_⟩ | refine ⟨rfl, ?_⟩ | refine ⟨(by show (_ : Int) ≠ 0; first | decide | decide +kernel), ?_⟩ | refine ⟨⟨(by show (_ : Int) ≠ 0; decide), szd 9000⟩, ?_⟩ | refine ⟨(by show CPow _ _; exact ⟨by decide, by decide, by decide⟩), ?_⟩ | refine ⟨(by show CMulB _ _; refine ⟨_, _, (by trivial), (by trivial), ?_⟩; decide +kernel), ?_⟩ | refine ⟨_, _, _, _, rfl, rfl, SqL.of (by assumption), (by rfl), ?_⟩ | refine ⟨_, _, _, _, rfl, rfl, SqT.of (by assumption), (by rfl), ?_⟩ | refine ⟨_, _, rfl, .inl (SqL.of (by assumption)), ?_⟩ | refine ⟨_, _, rfl, .inr (SqT.of (by assumption)), ?_⟩))
      refine ⟨x, rs.length, rfl, bad.same j1, fun J2 j2 => ?_⟩
      (repeat (first | refine ⟨_, rfl, ?_⟩ | refine ⟨_, _, rfl, rfl, ?_⟩ | refine ⟨rfl, ?_⟩ | refine ⟨(by show (_ : Int) ≠ 0; first | decide | decide +kernel), ?_⟩ | refine ⟨⟨(by show (_ : Int) ≠ 0; decide), szd 9000⟩, ?_⟩ | refine ⟨(by show CPow _ _; exact ⟨by decide, by decide, by decide⟩), ?_⟩ | refine ⟨(by show CMulB _ _; refine ⟨_, _, (by trivial), (by trivial), ?_⟩; decide +kernel), ?_⟩ | refine ⟨_, _, _, _, rfl, rfl, SqL.of (by assumption), (by rfl), ?_⟩ | refine ⟨_, _, _, _, rfl, rfl, SqT.of (by assumption), (by rfl), ?_⟩ | refine ⟨_, _, rfl, .inl (SqL.of (by assumption)), ?_⟩ | refine ⟨_, _, rfl, .inr (SqT.of (by assumption)), ?_⟩))
      refine ⟨l, _, rfl, .inl (SqL.of ((s5J.trans (j1.trans j2)) _ _ q1)), fun m1 hm1 => ?_⟩
      have x4 := same_new hm1 (.lst (rs.map V.int))
      have k1 : (upd J2 m1 (.lst (rs.map V.int))) m1 = some (.lst (rs.map V.int)) := upd_same
      generalize upd J2 m1 (.lst (rs.map V.int)) = X4 at x4 k1 ⊢
      refine ⟨_, rfl, _, _, rfl, .inr ⟨m1, rs, rfl, rfl, k1, by omega, hR, fun t2 Y4 ht2 y4 k2 => ?_⟩⟩
      refine ⟨_, rfl, t2, t, tiersOf rs, rfl, k2, (x4.trans y4) _ _ ((s5J.trans (j1.trans j2)) _ _ q2), ?_⟩
      replace y4 := x4.trans y4
      clear x4 hm1 ht2
      (repeat (first | refine ⟨_, rfl, ?_⟩ | refine ⟨_, _, rfl, rfl, ?_⟩ | refine ⟨rfl, ?_⟩ | refine ⟨(by show (_ : Int) ≠ 0; first | decide | decide +kernel), ?_⟩ | refine ⟨⟨(by show (_ : Int) ≠ 0; decide), szd 9000⟩, ?_⟩ | refine ⟨(by show CPow _ _; exact ⟨by decide, by decide, by decide⟩), ?_⟩ | refine ⟨(by show CMulB _ _; refine ⟨_, _, (by trivial), (by trivial), ?_⟩; decide +kernel), ?_⟩ | refine ⟨_, _, _, _, rfl, rfl, SqL.of (by assumption), (by rfl), ?_⟩ | refine ⟨_, _, _, _, rfl, rfl, SqT.of (by assumption), (by rfl), ?_⟩ | refine ⟨_, _, rfl, .inl (SqL.of (by assumption)), ?_⟩ | refine ⟨_, _, rfl, .inr (SqT.of (by assumption)), ?_⟩))
      exact sJ.trans ((j1.trans j2).trans y4)
    · exact ⟨_, rfl, sJ.trans j1⟩
  rintro σ' J ⟨v, rfl, sJ⟩
  have s5J := (s5.trans s6).trans sJ
  refine ⟨_, rfl, _, rfl, a, b, xs, ys, rfl, rfl, SqL.of (sJ _ _ ea6), SqL.of (sJ _ _ eb), by rw [xl, yl], fun i u v e1 e2 => (ga.alike s6 gb (fun d m => (are d m).2) e1 e2).same sJ, ?_⟩
  (repeat (first | refine ⟨_, rfl, ?_⟩ | refine ⟨_, _, rfl, rfl, ?_⟩ | refine ⟨rfl, ?_⟩ | refine ⟨(by show (_ : Int) ≠ 0; first | decide | decide +kernel), ?_⟩ | refine ⟨⟨(by show (_ : Int) ≠ 0; decide), szd 9000⟩, ?_⟩ | refine ⟨(by show CPow _ _; exact ⟨by decide, by decide, by decide⟩), ?_⟩ | refine ⟨(by show CMulB _ _; refine ⟨_, _, (by trivial), (by trivial), ?_⟩; decide +kernel), ?_⟩ | refine ⟨_, _, _, _, rfl, rfl, SqL.of (by assumption), (by rfl), ?_⟩ | refine ⟨_, _, _, _, rfl, rfl, SqT.of (by assumption), (by rfl), ?_⟩ | refine ⟨_, _, rfl, .inl (SqL.of (by assumption)), ?_⟩ | refine ⟨_, _, rfl, .inr (SqT.of (by assumption)), ?_⟩))
  refine ⟨l, _, rfl, .inl (SqL.of (s5J _ _ q1)), fun m1 hm1 => ?_⟩
  have x4 := same_new hm1 (.lst (rs.map V.int))
  have k1 : (upd J m1 (.lst (rs.map V.int))) m1 = some (.lst (rs.map V.int)) := upd_same
  generalize upd J m1 (.lst (rs.map V.int)) = X4 at x4 k1 ⊢
  refine ⟨_, rfl, _, _, rfl, .inr ⟨m1, rs, rfl, rfl, k1, by omega, hR, fun t2 Y4 ht2 y4 k2 => ?_⟩⟩
  refine ⟨_, rfl, t2, t, tiersOf rs, rfl, k2, (x4.trans y4) _ _ (s5J _ _ q2), ?_⟩
  replace y4 := x4.trans y4
  clear x4 hm1 ht2
  exact q _
end
theorem all_mk {l : PySem.W.OpenLaw} {w : World} {K : PySem.W.Frag} {h : Heap} {mg : Str → Option Value} {fa f1 f2 f3 f4 f5 f6 f7 f8 f9 f10 f11 f12 f13 f14 f15 f16 f17 f18 c_NoBallot c_WrongNumber c_Torn c_TooHard c_NoWay c_NoSheet c_NoRow c_NoNumber c_NoChange c_NoBundle c_Ended c_PollError : Addr} (X : K.In h) (G : h.Ns mainGlobals mg) (hfa : mg "law" = some (.ref fa))
    {od1 an1 od2 an2 od3 an3 od4 an4 od5 an5 od6 an6 od7 an7 od8 an8 od9 an9 od10 an10 od11 an11 od12 an12 od13 an13 od14 an14 od15 an15 od16 an16 od17 an17 od18 an18 : Option Addr} {sl1 sl2 sl3 sl4 sl5 sl6 sl7 sl8 sl9 sl10 sl11 sl12 sl13 sl14 sl15 sl16 sl17 sl18 : Array (Option Value)} {oc1 kV1 dc1 pm1 cd1 ct1 oc2 kV2 dc2 pm2 cd2 ct2 oc3 kV3 dc3 pm3 cd3 ct3 oc4 kV4 dc4 pm4 cd4 ct4 oc5 kV5 dc5 pm5 cd5 ct5 oc6 kV6 dc6 pm6 cd6 ct6 oc7 kV7 dc7 pm7 cd7 ct7 oc8 kV8 dc8 pm8 cd8 ct8 oc9 kV9 dc9 pm9 cd9 ct9 oc10 kV10 dc10 pm10 cd10 ct10 oc11 kV11 dc11 pm11 cd11 ct11 oc12 kV12 dc12 pm12 cd12 ct12 oc13 kV13 dc13 pm13 cd13 ct13 oc14 kV14 dc14 pm14 cd14 ct14 oc15 kV15 dc15 pm15 cd15 ct15 oc16 kV16 dc16 pm16 cd16 ct16 oc17 kV17 dc17 pm17 cd17 ct17 oc18 kV18 dc18 pm18 cd18 ct18 : Value} {t_MOST_RANK : Tok}
    (a1 : PySem.W.nsIn K mainGlobals "with_one" = some (some (.ref f1)))
    (l1 : K.lookup f1 = some ⟨oc1, od1, .func (PySem.W.fnOf "with_one" "with_one" (defArgs s_with_one) (defBody s_with_one) (defScope s_with_one) .none kV1 dc1 pm1 an1 cd1 ct1), sl1⟩) (c1 : PySem.W.codeIn K cd1 "with_one" = true) (k1 : PySem.W.keepIn K (.ref f1) = true)
    (a2 : PySem.W.nsIn K mainGlobals "is_whole" = some (some (.ref f2)))
    (l2 : K.lookup f2 = some ⟨oc2, od2, .func (PySem.W.fnOf "is_whole" "is_whole" (defArgs s_is_whole) (defBody s_is_whole) (defScope s_is_whole) .none kV2 dc2 pm2 an2 cd2 ct2), sl2⟩) (c2 : PySem.W.codeIn K cd2 "is_whole" = true) (k2 : PySem.W.keepIn K (.ref f2) = true)
    (a3 : PySem.W.nsIn K mainGlobals "_law_whole" = some (some (.ref f3)))
    (l3 : K.lookup f3 = some ⟨oc3, od3, .func (PySem.W.fnOf "_law_whole" "_law_whole" (defArgs s_law_whole) (defBody s_law_whole) (defScope s_law_whole) .none kV3 dc3 pm3 an3 cd3 ct3), sl3⟩) (c3 : PySem.W.codeIn K cd3 "_law_whole" = true) (k3 : PySem.W.keepIn K (.ref f3) = true)
    (a4 : PySem.W.nsIn K mainGlobals "_law_cell" = some (some (.ref f4)))
    (l4 : K.lookup f4 = some ⟨oc4, od4, .func (PySem.W.fnOf "_law_cell" "_law_cell" (defArgs s_law_cell) (defBody s_law_cell) (defScope s_law_cell) .none kV4 dc4 pm4 an4 cd4 ct4), sl4⟩) (c4 : PySem.W.codeIn K cd4 "_law_cell" = true) (k4 : PySem.W.keepIn K (.ref f4) = true)
    (a5 : PySem.W.nsIn K mainGlobals "_law_mixed" = some (some (.ref f5)))
    (l5 : K.lookup f5 = some ⟨oc5, od5, .func (PySem.W.fnOf "_law_mixed" "_law_mixed" (defArgs s_law_mixed) (defBody s_law_mixed) (defScope s_law_mixed) .none kV5 dc5 pm5 an5 cd5 ct5), sl5⟩) (c5 : PySem.W.codeIn K cd5 "_law_mixed" = true) (k5 : PySem.W.keepIn K (.ref f5) = true)
    (a6 : PySem.W.nsIn K mainGlobals "_law_tier" = some (some (.ref f6)))
    (l6 : K.lookup f6 = some ⟨oc6, od6, .func (PySem.W.fnOf "_law_tier" "_law_tier" (defArgs s_law_tier) (defBody s_law_tier) (defScope s_law_tier) .none kV6 dc6 pm6 an6 cd6 ct6), sl6⟩) (c6 : PySem.W.codeIn K cd6 "_law_tier" = true) (k6 : PySem.W.keepIn K (.ref f6) = true)
    (a7 : PySem.W.nsIn K mainGlobals "_law_bad_ranks" = some (some (.ref f7)))
    (l7 : K.lookup f7 = some ⟨oc7, od7, .func (PySem.W.fnOf "_law_bad_ranks" "_law_bad_ranks" (defArgs s_law_bad_ranks) (defBody s_law_bad_ranks) (defScope s_law_bad_ranks) .none kV7 dc7 pm7 an7 cd7 ct7), sl7⟩) (c7 : PySem.W.codeIn K cd7 "_law_bad_ranks" = true) (k7 : PySem.W.keepIn K (.ref f7) = true)
    (a8 : PySem.W.nsIn K mainGlobals "is_rank" = some (some (.ref f8)))
    (l8 : K.lookup f8 = some ⟨oc8, od8, .func (PySem.W.fnOf "is_rank" "is_rank" (defArgs s_is_rank) (defBody s_is_rank) (defScope s_is_rank) .none kV8 dc8 pm8 an8 cd8 ct8), sl8⟩) (c8 : PySem.W.codeIn K cd8 "is_rank" = true) (k8 : PySem.W.keepIn K (.ref f8) = true)
    (a9 : PySem.W.nsIn K mainGlobals "tier_at" = some (some (.ref f9)))
    (l9 : K.lookup f9 = some ⟨oc9, od9, .func (PySem.W.fnOf "tier_at" "tier_at" (defArgs s_tier_at) (defBody s_tier_at) (defScope s_tier_at) .none kV9 dc9 pm9 an9 cd9 ct9), sl9⟩) (c9 : PySem.W.codeIn K cd9 "tier_at" = true) (k9 : PySem.W.keepIn K (.ref f9) = true)
    (a10 : PySem.W.nsIn K mainGlobals "_law_ranks" = some (some (.ref f10)))
    (l10 : K.lookup f10 = some ⟨oc10, od10, .func (PySem.W.fnOf "_law_ranks" "_law_ranks" (defArgs s_law_ranks) (defBody s_law_ranks) (defScope s_law_ranks) .none kV10 dc10 pm10 an10 cd10 ct10), sl10⟩) (c10 : PySem.W.codeIn K cd10 "_law_ranks" = true) (k10 : PySem.W.keepIn K (.ref f10) = true)
    (a11 : PySem.W.nsIn K mainGlobals "_law_slip" = some (some (.ref f11)))
    (l11 : K.lookup f11 = some ⟨oc11, od11, .func (PySem.W.fnOf "_law_slip" "_law_slip" (defArgs s_law_slip) (defBody s_law_slip) (defScope s_law_slip) .none kV11 dc11 pm11 an11 cd11 ct11), sl11⟩) (c11 : PySem.W.codeIn K cd11 "_law_slip" = true) (k11 : PySem.W.keepIn K (.ref f11) = true)
    (a12 : PySem.W.nsIn K mainGlobals "_law_same_slip" = some (some (.ref f12)))
    (l12 : K.lookup f12 = some ⟨oc12, od12, .func (PySem.W.fnOf "_law_same_slip" "_law_same_slip" (defArgs s_law_same_slip) (defBody s_law_same_slip) (defScope s_law_same_slip) .none kV12 dc12 pm12 an12 cd12 ct12), sl12⟩) (c12 : PySem.W.codeIn K cd12 "_law_same_slip" = true) (k12 : PySem.W.keepIn K (.ref f12) = true)
    (a13 : PySem.W.nsIn K mainGlobals "_law_bad" = some (some (.ref f13)))
    (l13 : K.lookup f13 = some ⟨oc13, od13, .func (PySem.W.fnOf "_law_bad" "_law_bad" (defArgs s_law_bad) (defBody s_law_bad) (defScope s_law_bad) .none kV13 dc13 pm13 an13 cd13 ct13), sl13⟩) (c13 : PySem.W.codeIn K cd13 "_law_bad" = true) (k13 : PySem.W.keepIn K (.ref f13) = true)
    (a14 : PySem.W.nsIn K mainGlobals "are_ranks" = some (some (.ref f14)))
    (l14 : K.lookup f14 = some ⟨oc14, od14, .func (PySem.W.fnOf "are_ranks" "are_ranks" (defArgs s_are_ranks) (defBody s_are_ranks) (defScope s_are_ranks) .none kV14 dc14 pm14 an14 cd14 ct14), sl14⟩) (c14 : PySem.W.codeIn K cd14 "are_ranks" = true) (k14 : PySem.W.keepIn K (.ref f14) = true)
    (a15 : PySem.W.nsIn K mainGlobals "slip_of" = some (some (.ref f15)))
    (l15 : K.lookup f15 = some ⟨oc15, od15, .func (PySem.W.fnOf "slip_of" "slip_of" (defArgs s_slip_of) (defBody s_slip_of) (defScope s_slip_of) .none kV15 dc15 pm15 an15 cd15 ct15), sl15⟩) (c15 : PySem.W.codeIn K cd15 "slip_of" = true) (k15 : PySem.W.keepIn K (.ref f15) = true)
    (a16 : PySem.W.nsIn K mainGlobals "_law_refused" = some (some (.ref f16)))
    (l16 : K.lookup f16 = some ⟨oc16, od16, .func (PySem.W.fnOf "_law_refused" "_law_refused" (defArgs s_law_refused) (defBody s_law_refused) (defScope s_law_refused) .none kV16 dc16 pm16 an16 cd16 ct16), sl16⟩) (c16 : PySem.W.codeIn K cd16 "_law_refused" = true) (k16 : PySem.W.keepIn K (.ref f16) = true)
    (a17 : PySem.W.nsIn K mainGlobals "_law_named" = some (some (.ref f17)))
    (l17 : K.lookup f17 = some ⟨oc17, od17, .func (PySem.W.fnOf "_law_named" "_law_named" (defArgs s_law_named) (defBody s_law_named) (defScope s_law_named) .none kV17 dc17 pm17 an17 cd17 ct17), sl17⟩) (c17 : PySem.W.codeIn K cd17 "_law_named" = true) (k17 : PySem.W.keepIn K (.ref f17) = true)
    (a18 : PySem.W.nsIn K mainGlobals "law" = some (some (.ref f18)))
    (l18 : K.lookup f18 = some ⟨oc18, od18, .func (PySem.W.fnOf "law" "law" (defArgs s_law) (defBody s_law) (defScope s_law) .none kV18 dc18 pm18 an18 cd18 ct18), sl18⟩) (c18 : PySem.W.codeIn K cd18 "law" = true) (k18 : PySem.W.keepIn K (.ref f18) = true)
    (z0 : PySem.W.nsIn K mainGlobals "ValueError" = some none)
    (z1 : PySem.W.nsIn K mainGlobals "all" = some none)
    (z2 : PySem.W.nsIn K mainGlobals "bool" = some none)
    (z3 : PySem.W.nsIn K mainGlobals "dict" = some none)
    (z4 : PySem.W.nsIn K mainGlobals "enumerate" = some none)
    (z5 : PySem.W.nsIn K mainGlobals "int" = some none)
    (z6 : PySem.W.nsIn K mainGlobals "isinstance" = some none)
    (z7 : PySem.W.nsIn K mainGlobals "len" = some none)
    (z8 : PySem.W.nsIn K mainGlobals "list" = some none)
    (z9 : PySem.W.nsIn K mainGlobals "max" = some none)
    (z10 : PySem.W.nsIn K mainGlobals "range" = some none)
    (z11 : PySem.W.nsIn K mainGlobals "set" = some none)
    (z12 : PySem.W.nsIn K mainGlobals "sorted" = some none)
    (z13 : PySem.W.nsIn K mainGlobals "sum" = some none)
    (z14 : PySem.W.nsIn K mainGlobals "tuple" = some none)
    (kc_MOST_RANK : PySem.W.nsIn K mainGlobals "MOST_RANK" = some (some (.int 1000000000 t_MOST_RANK)))
    (mc_NoBallot : PySem.W.nsIn K mainGlobals "NoBallot" = some (some (.ref c_NoBallot))) (ty_NoBallot : PySem.W.typeIn K (.ref c_NoBallot) = some (.type "type")) (be_NoBallot : PySem.W.mroIn K c_NoBallot (.type "BaseException") = some true)
    (mc_WrongNumber : PySem.W.nsIn K mainGlobals "WrongNumber" = some (some (.ref c_WrongNumber))) (ty_WrongNumber : PySem.W.typeIn K (.ref c_WrongNumber) = some (.type "type")) (be_WrongNumber : PySem.W.mroIn K c_WrongNumber (.type "BaseException") = some true)
    (mc_Torn : PySem.W.nsIn K mainGlobals "Torn" = some (some (.ref c_Torn))) (ty_Torn : PySem.W.typeIn K (.ref c_Torn) = some (.type "type")) (be_Torn : PySem.W.mroIn K c_Torn (.type "BaseException") = some true)
    (mc_TooHard : PySem.W.nsIn K mainGlobals "TooHard" = some (some (.ref c_TooHard))) (ty_TooHard : PySem.W.typeIn K (.ref c_TooHard) = some (.type "type")) (be_TooHard : PySem.W.mroIn K c_TooHard (.type "BaseException") = some true)
    (mc_NoWay : PySem.W.nsIn K mainGlobals "NoWay" = some (some (.ref c_NoWay))) (ty_NoWay : PySem.W.typeIn K (.ref c_NoWay) = some (.type "type")) (be_NoWay : PySem.W.mroIn K c_NoWay (.type "BaseException") = some true)
    (mc_NoSheet : PySem.W.nsIn K mainGlobals "NoSheet" = some (some (.ref c_NoSheet))) (ty_NoSheet : PySem.W.typeIn K (.ref c_NoSheet) = some (.type "type")) (be_NoSheet : PySem.W.mroIn K c_NoSheet (.type "BaseException") = some true)
    (mc_NoRow : PySem.W.nsIn K mainGlobals "NoRow" = some (some (.ref c_NoRow))) (ty_NoRow : PySem.W.typeIn K (.ref c_NoRow) = some (.type "type")) (be_NoRow : PySem.W.mroIn K c_NoRow (.type "BaseException") = some true)
    (mc_NoNumber : PySem.W.nsIn K mainGlobals "NoNumber" = some (some (.ref c_NoNumber))) (ty_NoNumber : PySem.W.typeIn K (.ref c_NoNumber) = some (.type "type")) (be_NoNumber : PySem.W.mroIn K c_NoNumber (.type "BaseException") = some true)
    (mc_NoChange : PySem.W.nsIn K mainGlobals "NoChange" = some (some (.ref c_NoChange))) (ty_NoChange : PySem.W.typeIn K (.ref c_NoChange) = some (.type "type")) (be_NoChange : PySem.W.mroIn K c_NoChange (.type "BaseException") = some true)
    (mc_NoBundle : PySem.W.nsIn K mainGlobals "NoBundle" = some (some (.ref c_NoBundle))) (ty_NoBundle : PySem.W.typeIn K (.ref c_NoBundle) = some (.type "type")) (be_NoBundle : PySem.W.mroIn K c_NoBundle (.type "BaseException") = some true)
    (mc_Ended : PySem.W.nsIn K mainGlobals "Ended" = some (some (.ref c_Ended))) (ty_Ended : PySem.W.typeIn K (.ref c_Ended) = some (.type "type")) (be_Ended : PySem.W.mroIn K c_Ended (.type "BaseException") = some true)
    (mc_PollError : PySem.W.nsIn K mainGlobals "PollError" = some (some (.ref c_PollError))) (ty_PollError : PySem.W.typeIn K (.ref c_PollError) = some (.type "type")) (be_PollError : PySem.W.mroIn K c_PollError (.type "BaseException") = some true)
    (gt0 : PySem.W.specialIn K (.builtin "object.__class__") "__get__" = some (some (.builtin "getset_descriptor.__get__"))) (tk0 : PySem.W.takesIn K (.builtin "object.__class__") = some true)
    (xq_NoBallot : PySem.W.excIn K c_NoBallot [.type "ValueError", .type "Exception", .type "BaseException", .type "object"] "ValueError.__new__" = true)
    (ga_NoBallot : PySem.W.findIn K (.ref c_NoBallot) "__getattribute__" = some (some (.builtin "BaseException.__getattribute__"))) (gh_NoBallot : PySem.W.findIn K (.ref c_NoBallot) "__getattr__" = some none) (cl_NoBallot : PySem.W.findIn K (.ref c_NoBallot) "__class__" = some (some (.builtin "object.__class__"))) (ob_NoBallot : PySem.W.mroIn K c_NoBallot (.type "object") = some true) (ve_NoBallot : PySem.W.subIn K (.ref c_NoBallot) (.type "ValueError") = some true)
    (su_NoBallot_NoBallot : PySem.W.subIn K (.ref c_NoBallot) (.ref c_NoBallot) = some true)
    (su_NoBallot_WrongNumber : PySem.W.subIn K (.ref c_NoBallot) (.ref c_WrongNumber) = some false)
    (su_NoBallot_Torn : PySem.W.subIn K (.ref c_NoBallot) (.ref c_Torn) = some false)
    (su_NoBallot_TooHard : PySem.W.subIn K (.ref c_NoBallot) (.ref c_TooHard) = some false)
    (su_NoBallot_NoWay : PySem.W.subIn K (.ref c_NoBallot) (.ref c_NoWay) = some false)
    (su_NoBallot_NoSheet : PySem.W.subIn K (.ref c_NoBallot) (.ref c_NoSheet) = some false)
    (su_NoBallot_NoRow : PySem.W.subIn K (.ref c_NoBallot) (.ref c_NoRow) = some false)
    (su_NoBallot_NoNumber : PySem.W.subIn K (.ref c_NoBallot) (.ref c_NoNumber) = some false)
    (su_NoBallot_NoChange : PySem.W.subIn K (.ref c_NoBallot) (.ref c_NoChange) = some false)
    (su_NoBallot_NoBundle : PySem.W.subIn K (.ref c_NoBallot) (.ref c_NoBundle) = some false)
    (su_NoBallot_Ended : PySem.W.subIn K (.ref c_NoBallot) (.ref c_Ended) = some false)
    (su_NoBallot_PollError : PySem.W.subIn K (.ref c_NoBallot) (.ref c_PollError) = some true) :
    ∃ fd : FuncData, (∀ (s : Shared) (v : Value), BindsTo s fd ⟨[v], []⟩ [("_law_script", v)]) ∧ ∀ base : Heap, K.In base → base.Ns mainGlobals mg → FnOk l.prog w K mg base CX0 6 fa fd ["_law_script"] (spLaw K) := by
  have e := hfa.symm.trans (PySem.W.mg_of X G a18)
  cases e
  have F1 := fun_mk (st := s_with_one) l1 c1 k1
  have b1 := F1.binds (ps := ["mask", "hand"]) fun _ _ _ _ _ _ us hl => match us, hl with | [_, _], _ => rfl
  have F2 := fun_mk (st := s_is_whole) l2 c2 k2
  have b2 := F2.binds (ps := ["thing"]) fun _ _ _ _ _ _ us hl => match us, hl with | [_], _ => rfl
  have F3 := fun_mk (st := s_law_whole) l3 c3 k3
  have b3 := F3.binds (ps := ["_law_found"]) fun _ _ _ _ _ _ us hl => match us, hl with | [_], _ => rfl
  have F4 := fun_mk (st := s_law_cell) l4 c4 k4
  have b4 := F4.binds (ps := ["_law_script", "_law_k"]) fun _ _ _ _ _ _ us hl => match us, hl with | [_, _], _ => rfl
  have F5 := fun_mk (st := s_law_mixed) l5 c5 k5
  have b5 := F5.binds (ps := ["_law_cell_here", "_law_by"]) fun _ _ _ _ _ _ us hl => match us, hl with | [_, _], _ => rfl
  have F6 := fun_mk (st := s_law_tier) l6 c6 k6
  have b6 := F6.binds (ps := ["_law_ranks_here", "_law_rank"]) fun _ _ _ _ _ _ us hl => match us, hl with | [_, _], _ => rfl
  have F7 := fun_mk (st := s_law_bad_ranks) l7 c7 k7
  have b7 := F7.binds (ps := ["_law_cell_here"]) fun _ _ _ _ _ _ us hl => match us, hl with | [_], _ => rfl
  have F8 := fun_mk (st := s_is_rank) l8 c8 k8
  have b8 := F8.binds (ps := ["thing"]) fun _ _ _ _ _ _ us hl => match us, hl with | [_], _ => rfl
  have F9 := fun_mk (st := s_tier_at) l9 c9 k9
  have b9 := F9.binds (ps := ["ranks", "wanted"]) fun _ _ _ _ _ _ us hl => match us, hl with | [_, _], _ => rfl
  have F10 := fun_mk (st := s_law_ranks) l10 c10 k10
  have b10 := F10.binds (ps := ["_law_script", "_law_at", "_law_hands"]) fun _ _ _ _ _ _ us hl => match us, hl with | [_, _, _], _ => rfl
  have F11 := fun_mk (st := s_law_slip) l11 c11 k11
  have b11 := F11.binds (ps := ["_law_ranks_here"]) fun _ _ _ _ _ _ us hl => match us, hl with | [_], _ => rfl
  have F12 := fun_mk (st := s_law_same_slip) l12 c12 k12
  have b12 := F12.binds (ps := ["_law_found", "_law_due"]) fun _ _ _ _ _ _ us hl => match us, hl with | [_, _], _ => rfl
  have F13 := fun_mk (st := s_law_bad) l13 c13 k13
  have b13 := F13.binds (ps := ["_law_ranks_here", "_law_cell_here"]) fun _ _ _ _ _ _ us hl => match us, hl with | [_, _], _ => rfl
  have F14 := fun_mk (st := s_are_ranks) l14 c14 k14
  have b14 := F14.binds (ps := ["thing", "hands"]) fun _ _ _ _ _ _ us hl => match us, hl with | [_, _], _ => rfl
  have F15 := fun_mk (st := s_slip_of) l15 c15 k15
  have b15 := F15.binds (ps := ["ranks", "hands"]) fun _ _ _ _ _ _ us hl => match us, hl with | [_, _], _ => rfl
  have F16 := fun_mk (st := s_law_refused) l16 c16 k16
  have b16 := F16.binds (ps := ["_law_ranks_here", "_law_hands"]) fun _ _ _ _ _ _ us hl => match us, hl with | [_, _], _ => rfl
  have F17 := fun_mk (st := s_law_named) l17 c17 k17
  have b17 := F17.binds (ps := ["_law_ranks_here", "_law_hands"]) fun _ _ _ _ _ _ us hl => match us, hl with | [_, _], _ => rfl
  have F18 := fun_mk (st := s_law) l18 c18 k18
  have b18 := F18.binds (ps := ["_law_script"]) fun _ _ _ _ _ _ us hl => match us, hl with | [_], _ => rfl
  have T : Tx K mg (⟨f1, _, f2, _, f3, _, f4, _, f5, _, f6, _, f7, _, f8, _, f9, _, f10, _, f11, _, f12, _, f13, _, f14, _, f15, _, f16, _, f17, _, fa, _, c_NoBallot, c_WrongNumber, c_Torn, c_TooHard, c_NoWay, c_NoSheet, c_NoRow, c_NoNumber, c_NoChange, c_NoBundle, c_Ended, c_PollError, t_MOST_RANK⟩ : Ads) := ⟨F1, b1, PySem.W.mg_of X G a1, F2, b2, PySem.W.mg_of X G a2, F3, b3, PySem.W.mg_of X G a3, F4, b4, PySem.W.mg_of X G a4, F5, b5, PySem.W.mg_of X G a5, F6, b6, PySem.W.mg_of X G a6, F7, b7, PySem.W.mg_of X G a7, F8, b8, PySem.W.mg_of X G a8, F9, b9, PySem.W.mg_of X G a9, F10, b10, PySem.W.mg_of X G a10, F11, b11, PySem.W.mg_of X G a11, F12, b12, PySem.W.mg_of X G a12, F13, b13, PySem.W.mg_of X G a13, F14, b14, PySem.W.mg_of X G a14, F15, b15, PySem.W.mg_of X G a15, F16, b16, PySem.W.mg_of X G a16, F17, b17, PySem.W.mg_of X G a17, F18, b18, PySem.W.mg_of X G a18, PySem.W.mg_none_of X G z0, PySem.W.mg_none_of X G z1, PySem.W.mg_none_of X G z2, PySem.W.mg_none_of X G z3, PySem.W.mg_none_of X G z4, PySem.W.mg_none_of X G z5, PySem.W.mg_none_of X G z6, PySem.W.mg_none_of X G z7, PySem.W.mg_none_of X G z8, PySem.W.mg_none_of X G z9, PySem.W.mg_none_of X G z10, PySem.W.mg_none_of X G z11, PySem.W.mg_none_of X G z12, PySem.W.mg_none_of X G z13, PySem.W.mg_none_of X G z14, PySem.W.mg_of X G kc_MOST_RANK, PySem.W.mg_of X G mc_NoBallot, ⟨ty_NoBallot, be_NoBallot⟩, PySem.W.mg_of X G mc_WrongNumber, ⟨ty_WrongNumber, be_WrongNumber⟩, PySem.W.mg_of X G mc_Torn, ⟨ty_Torn, be_Torn⟩, PySem.W.mg_of X G mc_TooHard, ⟨ty_TooHard, be_TooHard⟩, PySem.W.mg_of X G mc_NoWay, ⟨ty_NoWay, be_NoWay⟩, PySem.W.mg_of X G mc_NoSheet, ⟨ty_NoSheet, be_NoSheet⟩, PySem.W.mg_of X G mc_NoRow, ⟨ty_NoRow, be_NoRow⟩, PySem.W.mg_of X G mc_NoNumber, ⟨ty_NoNumber, be_NoNumber⟩, PySem.W.mg_of X G mc_NoChange, ⟨ty_NoChange, be_NoChange⟩, PySem.W.mg_of X G mc_NoBundle, ⟨ty_NoBundle, be_NoBundle⟩, PySem.W.mg_of X G mc_Ended, ⟨ty_Ended, be_Ended⟩, PySem.W.mg_of X G mc_PollError, ⟨ty_PollError, be_PollError⟩, xq_NoBallot, ⟨⟨ga_NoBallot, gh_NoBallot, be_NoBallot⟩, cl_NoBallot, gt0, tk0, ob_NoBallot⟩, ve_NoBallot, su_NoBallot_NoBallot, su_NoBallot_WrongNumber, su_NoBallot_Torn, su_NoBallot_TooHard, su_NoBallot_NoWay, su_NoBallot_NoSheet, su_NoBallot_NoRow, su_NoBallot_NoNumber, su_NoBallot_NoChange, su_NoBallot_NoBundle, su_NoBallot_Ended, su_NoBallot_PollError⟩
  exact ⟨PySem.W.fnOf "law" "law" (defArgs s_law) (defBody s_law) (defScope s_law) .none kV18 dc18 pm18 an18 cd18 ct18, fun s v => .of_eq rfl, fun base _ _ => ok_law T⟩
theorem walk {l : PySem.W.OpenLaw} {q : Program} {loose : List Str} {XP : (Str → Option Value) → Heap → Prop} {YP : World → Heap → Prop} {d : DefRec} {K : Params → PySem.W.Frag} (hn : l.most = some 63) (hdf : d.params.defaults = [])
    (hY : ∀ (w : World) (h : Heap), YP w h → (K w.params).In h)
    (F : ∀ (w : World) (mg : Str → Option Value) (fa : Addr) (h : Heap), (K w.params).In h → h.Ns mainGlobals mg → mg d.name = some (.ref fa) →
      ∃ fd : FuncData, (∀ (s : Shared) (u : Value), BindsTo s fd ⟨[u], []⟩ [("_law_script", u)]) ∧ ∀ base : Heap, (K w.params).In base → base.Ns mainGlobals mg → FnOk l.prog w (K w.params) mg base CX0 6 fa fd ["_law_script"] (spLaw (K w.params))) :
    PySem.W.WalkO q loose XP YP l.row.toRowW d [] (fun f vs => PySem.call f vs) :=
  L2.walk_of (n := 63) (k := 6) (x := "_law_script") (CX := fun _ => CX0) (sp := fun w => spLaw (K w.params)) hn (by decide) hdf ⟨rfl, by decide, by decide⟩ hY F (fun _ _ a ns hl _ hS => ⟨a, ns, rfl, hS, hl, fun _ => rfl⟩) fun _ _ _ _ _ z => z
end Law
open PySem PySem.W PyProof.Rows
set_option maxRecDepth 100000 in
set_option maxHeartbeats 0 in
theorem PySem.Challenge.cw_pollproof_k24_ranks_refused_holds : PySem.Challenge.rw_pollproof_k24_ranks_refused.Holds := by
  refine Head.top ?_
  k_fill
  refine Law.walk (l := PySem.Challenge.rw_pollproof_k24_ranks_refused) rfl rfl (fun w h Y => PySem.W.kIn_of Y) ?F
  case F =>
    intro w mg fa h KX G hmg
    refine' Law.all_mk KX G hmg ?a1 ?l1 ?c1 ?k1 ?a2 ?l2 ?c2 ?k2 ?a3 ?l3 ?c3 ?k3 ?a4 ?l4 ?c4 ?k4 ?a5 ?l5 ?c5 ?k5 ?a6 ?l6 ?c6 ?k6 ?a7 ?l7 ?c7 ?k7 ?a8 ?l8 ?c8 ?k8 ?a9 ?l9 ?c9 ?k9 ?a10 ?l10 ?c10 ?k10 ?a11 ?l11 ?c11 ?k11 ?a12 ?l12 ?c12 ?k12 ?a13 ?l13 ?c13 ?k13 ?a14 ?l14 ?c14 ?k14 ?a15 ?l15 ?c15 ?k15 ?a16 ?l16 ?c16 ?k16 ?a17 ?l17 ?c17 ?k17 ?a18 ?l18 ?c18 ?k18 ?z0 ?z1 ?z2 ?z3 ?z4 ?z5 ?z6 ?z7 ?z8 ?z9 ?z10 ?z11 ?z12 ?z13 ?z14 ?kc_MOST_RANK ?mc_NoBallot ?ty_NoBallot ?be_NoBallot ?mc_WrongNumber ?ty_WrongNumber ?be_WrongNumber ?mc_Torn ?ty_Torn ?be_Torn ?mc_TooHard ?ty_TooHard ?be_TooHard ?mc_NoWay ?ty_NoWay ?be_NoWay ?mc_NoSheet ?ty_NoSheet ?be_NoSheet ?mc_NoRow ?ty_NoRow ?be_NoRow ?mc_NoNumber ?ty_NoNumber ?be_NoNumber ?mc_NoChange ?ty_NoChange ?be_NoChange ?mc_NoBundle ?ty_NoBundle ?be_NoBundle ?mc_Ended ?ty_Ended ?be_Ended ?mc_PollError ?ty_PollError ?be_PollError ?gt0 ?tk0 ?xq_NoBallot ?ga_NoBallot ?gh_NoBallot ?cl_NoBallot ?ob_NoBallot ?ve_NoBallot ?su_NoBallot_NoBallot ?su_NoBallot_WrongNumber ?su_NoBallot_Torn ?su_NoBallot_TooHard ?su_NoBallot_NoWay ?su_NoBallot_NoSheet ?su_NoBallot_NoRow ?su_NoBallot_NoNumber ?su_NoBallot_NoChange ?su_NoBallot_NoBundle ?su_NoBallot_Ended ?su_NoBallot_PollError
    (case a1 => k_is)
    (case l1 => k_is)
    (case c1 => k_is)
    (case k1 => k_is)
    (case a2 => k_is)
    (case l2 => k_is)
    (case c2 => k_is)
    (case k2 => k_is)
    (case a3 => k_is)
    (case l3 => k_is)
    (case c3 => k_is)
    (case k3 => k_is)
    (case a4 => k_is)
    (case l4 => k_is)
    (case c4 => k_is)
    (case k4 => k_is)
    (case a5 => k_is)
    (case l5 => k_is)
    (case c5 => k_is)
    (case k5 => k_is)
    (case a6 => k_is)
    (case l6 => k_is)
    (case c6 => k_is)
    (case k6 => k_is)
    (case a7 => k_is)
    (case l7 => k_is)
    (case c7 => k_is)
    (case k7 => k_is)
    (case a8 => k_is)
    (case l8 => k_is)
    (case c8 => k_is)
    (case k8 => k_is)
    (case a9 => k_is)
    (case l9 => k_is)
    (case c9 => k_is)
    (case k9 => k_is)
    (case a10 => k_is)
    (case l10 => k_is)
    (case c10 => k_is)
    (case k10 => k_is)
    (case a11 => k_is)
    (case l11 => k_is)
    (case c11 => k_is)
    (case k11 => k_is)
    (case a12 => k_is)
    (case l12 => k_is)
    (case c12 => k_is)
    (case k12 => k_is)
    (case a13 => k_is)
    (case l13 => k_is)
    (case c13 => k_is)
    (case k13 => k_is)
    (case a14 => k_is)
    (case l14 => k_is)
    (case c14 => k_is)
    (case k14 => k_is)
    (case a15 => k_is)
    (case l15 => k_is)
    (case c15 => k_is)
    (case k15 => k_is)
    (case a16 => k_is)
    (case l16 => k_is)
    (case c16 => k_is)
    (case k16 => k_is)
    (case a17 => k_is)
    (case l17 => k_is)
    (case c17 => k_is)
    (case k17 => k_is)
    (case a18 => k_is)
    (case l18 => k_is)
    (case c18 => k_is)
    (case k18 => k_is)
    (case z0 => k_is)
    (case z1 => k_is)
    (case z2 => k_is)
    (case z3 => k_is)
    (case z4 => k_is)
    (case z5 => k_is)
    (case z6 => k_is)
    (case z7 => k_is)
    (case z8 => k_is)
    (case z9 => k_is)
    (case z10 => k_is)
    (case z11 => k_is)
    (case z12 => k_is)
    (case z13 => k_is)
    (case z14 => k_is)
    (case kc_MOST_RANK => k_is)
    (case mc_NoBallot => k_is)
    (case ty_NoBallot => k_is)
    (case be_NoBallot => k_is)
    (case mc_WrongNumber => k_is)
    (case ty_WrongNumber => k_is)
    (case be_WrongNumber => k_is)
    (case mc_Torn => k_is)
    (case ty_Torn => k_is)
    (case be_Torn => k_is)
    (case mc_TooHard => k_is)
    (case ty_TooHard => k_is)
    (case be_TooHard => k_is)
    (case mc_NoWay => k_is)
    (case ty_NoWay => k_is)
    (case be_NoWay => k_is)
    (case mc_NoSheet => k_is)
    (case ty_NoSheet => k_is)
    (case be_NoSheet => k_is)
    (case mc_NoRow => k_is)
    (case ty_NoRow => k_is)
    (case be_NoRow => k_is)
    (case mc_NoNumber => k_is)
    (case ty_NoNumber => k_is)
    (case be_NoNumber => k_is)
    (case mc_NoChange => k_is)
    (case ty_NoChange => k_is)
    (case be_NoChange => k_is)
    (case mc_NoBundle => k_is)
    (case ty_NoBundle => k_is)
    (case be_NoBundle => k_is)
    (case mc_Ended => k_is)
    (case ty_Ended => k_is)
    (case be_Ended => k_is)
    (case mc_PollError => k_is)
    (case ty_PollError => k_is)
    (case be_PollError => k_is)
    (case gt0 => k_is)
    (case tk0 => k_is)
    (case xq_NoBallot => k_exc)
    (case ga_NoBallot => k_is)
    (case gh_NoBallot => k_is)
    (case cl_NoBallot => k_is)
    (case ob_NoBallot => k_is)
    (case ve_NoBallot => k_is)
    (case su_NoBallot_NoBallot => k_is)
    (case su_NoBallot_WrongNumber => k_is)
    (case su_NoBallot_Torn => k_is)
    (case su_NoBallot_TooHard => k_is)
    (case su_NoBallot_NoWay => k_is)
    (case su_NoBallot_NoSheet => k_is)
    (case su_NoBallot_NoRow => k_is)
    (case su_NoBallot_NoNumber => k_is)
    (case su_NoBallot_NoChange => k_is)
    (case su_NoBallot_NoBundle => k_is)
    (case su_NoBallot_Ended => k_is)
    (case su_NoBallot_PollError => k_is)
#print axioms PySem.Challenge.cw_pollproof_k24_ranks_refused_holds
