import PyProof.Rows.All
import Wide.All
import OpenK.AllK
import Wide.FinOn
import Lean
import PyProof.EqAt
import PyProof.EqKinds
import PyProof.TupleCall
import PySem.Challenge.RW_pollproof_k73_shifts
set_option Elab.async false
set_option linter.all false
set_option maxRecDepth 100000
namespace Head
open PySem PySem.W PyProof.Rows
def runT (p : Program) (w : World) (n0 : Nat) (ann : Option Value) : Nat → SharedT → Thread → Option SharedT
  | 0, _, _ => none
  | n + 1, s, t => match through t with
    | true => some s
    | false => match stepOk n0 ann t with
      | false => none
      | true => match stepT (denote treeTable) p w s t with
        | some (s', t') => runT p w n0 ann n s' t'
        | none => none
theorem runT_of {p : Program} {w : World} {n0 : Nat} {ann : Option Value} : ∀ {n : Nat} {s s' : SharedT} {t : Thread}, runT p w n0 ann n s t = some s' → topRun treeTable p w n0 ann n s.abs t = some s'.abs
  | 0, _, _, _, h => by cases h
  | n + 1, s, s', t, h => by
    unfold runT at h
    unfold topRun
    cases he : through t with
    | true => rw [he] at h; cases h; rfl
    | false =>
      rw [he] at h
      cases hk : stepOk n0 ann t with
      | false => rw [hk] at h; cases h
      | true =>
        rw [hk] at h
        cases hs : stepT (denote treeTable) p w s t with
        | none => rw [hs] at h; cases h
        | some r => obtain ⟨s2, t2⟩ := r; rw [hs] at h; rw [stepT_spec hs]; exact runT_of h
def grow : List Obj → Nat → BT → Option BT
  | [], _, t => some t
  | o :: os, n, t => match ((t.ins n o).get n).isSome with
    | true => grow os (n + 1) (t.ins n o)
    | false => none
theorem grow_of {life : Life} : ∀ {os : List Obj} {n : Nat} {t t' : BT} {xs : List Obj}, (absHeap t n life) = ⟨xs.toArray, life⟩ → grow os n t = some t' → absHeap t' (n + os.length) life = ⟨(xs ++ os).toArray, life⟩
  | [], n, t, t', xs, a, h => by
    cases h
    rw [List.append_nil]
    exact a
  | o :: os, n, t, t', xs, a, h => by
    unfold grow at h
    cases g : ((t.ins n o).get n).isSome with
    | false => rw [g] at h; cases h
    | true =>
      rw [g] at h
      have b : absHeap (t.ins n o) (n + 1) life = ⟨(xs ++ [o]).toArray, life⟩ := by
        rw [absHeap_ins g, a]
        show (⟨xs.toArray.push o, life⟩ : Heap) = _
        rw [List.push_toArray]
      have c := grow_of b h
      rw [List.append_assoc] at c
      rw [List.length_cons, show n + (os.length + 1) = n + 1 + os.length by omega]
      exact c
theorem grow_all {H : Heap} {T : BT} (h : grow H.objs.toList 0 .nil = some T) : absHeap T H.objs.size H.life = H := by
  have c := grow_of (life := H.life) (n := 0) (t := .nil) (xs := []) rfl h
  rw [Nat.zero_add, Array.length_toList] at c
  rw [c]
  obtain ⟨a, l⟩ := H
  show (⟨([] ++ a.toList).toArray, l⟩ : Heap) = ⟨a, l⟩
  rw [List.nil_append, Array.toArray_toList]
theorem left {p q : Program} {loose : List PySem.Str} {Xt : Shared → Bool} {α : Type} {Yf : Shared → α} {Ya : World → α} {N : Nat} {g0 : Bool}
    (e : opening p = plainProg p.main.scope.names) (hN : Nat.ble 600 N = true) (f : ∀ s, fenceModules? p s = some s)
    (h : ∀ (w : World) (os : OsState), ((grow (boot_heap w.params).objs.toList 0 .nil).bind fun T => (runT p w (boot_heap w.params).objs.size ((boot_heap w.params).nsMap mainGlobals "__annotations__") N ⟨T, (boot_heap w.params).objs.size, (boot_heap w.params).life, Array.mk [], boot_drawn, boot_toks, os⟩ (topStub p)).map fun s =>
      (((boot_heap w.params).isNs mainGlobals, staticsOk (importedModules p.main.body) (boot_heap w.params) s.abs.heap && namesBound p s.abs.heap && gensDone s.abs && laidKept (boot_heap w.params) s.abs.heap), openSeen q loose (importedModules p.main.body) Xt g0 s.abs, Yf s.abs)) =
      some ((true, true), openGood q loose, Ya w)) : LeftO p q loose Xt Yf Ya N g0 := fun w => by
  obtain ⟨⟨hp, gs, d, k, os⟩, e1, e2⟩ := Option.map_eq_some_iff.mp (boot_open e hN f w)
  obtain ⟨rfl, rfl, rfl, rfl⟩ : hp = boot_heap w.params ∧ gs = Array.mk [] ∧ d = boot_drawn ∧ k = boot_toks := by simpa using e2
  have z := h w os
  cases gT : grow (boot_heap w.params).objs.toList 0 .nil with
  | none => rw [gT] at z; cases z
  | some T =>
    rw [gT] at z
    obtain ⟨s, r, y⟩ := Option.map_eq_some_iff.mp z
    have r' := runT_of r
    injection y with y1 y2
    injection y1 with y3 y4
    injection y2 with y5 y6
    have a : (⟨T, (boot_heap w.params).objs.size, (boot_heap w.params).life, Array.mk [], boot_drawn, boot_toks, os⟩ : SharedT).abs = ⟨boot_heap w.params, Array.mk [], boot_drawn, boot_toks, os⟩ := by
      unfold SharedT.abs
      rw [grow_all gT]
    rw [a] at r'
    unfold openEnds
    rw [e1]
    show (topFrom treeTable p w N _).map _ = _
    have t : topFrom treeTable p w N ⟨boot_heap w.params, Array.mk [], boot_drawn, boot_toks, os⟩ = some s.abs := by
      unfold topFrom
      dsimp only
      rw [y3, r']
      show (match staticsOk (importedModules p.main.body) (boot_heap w.params) s.abs.heap && namesBound p s.abs.heap && gensDone s.abs && laidKept (boot_heap w.params) s.abs.heap with | true => _ | false => _) = _
      rw [y4]
    rw [t]
    exact congrArg some (Prod.ext y5 y6)
end Head
namespace Head
open PySem PySem.W PyProof.Rows
abbrev q0 : Program := view PySem.Challenge.pw_pollproof_k73_shifts [10, 25]
abbrev r0 : OpenRow := OpenLaw.row PySem.Challenge.rw_pollproof_k73_shifts
local macro_rules | `(tactic| o_head $H) => do
  let (hl, hw, hc) := (Lean.mkIdent `hl, Lean.mkIdent `hw, Lean.mkIdent `hc)
  `(tactic| (
    refine holds_open (r := r0) (q := q0) (loose := [PySem.Str.ofString "holds", PySem.Str.ofString "with_one", PySem.Str.ofString "ballots_in", PySem.Str.ofString "number_of", PySem.Str.ofString "free_for", PySem.Str.ofString "turn_of", PySem.Str.ofString "rows_to", PySem.Str.ofString "_law_cell", PySem.Str.ofString "_law_mixed", PySem.Str.ofString "_law_lots", PySem.Str.ofString "_law_mask", PySem.Str.ofString "_law_slip", PySem.Str.ofString "_law_number", PySem.Str.ofString "_law_sheet", PySem.Str.ofString "_law_whole", PySem.Str.ofString "_law_put", PySem.Str.ofString "_law_turn", PySem.Str.ofString "_law_due", PySem.Str.ofString "_law_alike", PySem.Str.ofString "_law_many"]) (N := 100000)
      (Xt := fun s => xlAt q0 [] s && recOk (RowW.records (OpenRow.toRowW r0)) s)
      (XP := XL q0 []) (Yf := Hook.obs $H) (Ya := Hook.val $H) (YP := Hook.says $H)
      ?$hl (Hook.of $H) (Hook.keeps $H) (fun s e => xl_of s (Bool.and_eq_true_iff.mp e).1) XL.keeps
      (by rfl) (by rfl) (by rfl) (fun s e => recFacts_of (Bool.and_eq_true_iff.mp e).2) (by rfl) (by assumption)
      (by decide +kernel) ⟨rfl, rfl, rfl, rfl, rfl, by decide +kernel⟩ ?$hw ?$hc;
    (next => (exact left (by kernel_rfl) (by decide) (fun s => by kernel_rfl) (fun w os => by kernel_rfl)))))
set_option maxRecDepth 100000 in
set_option maxHeartbeats 0 in
open_top top for PySem.Challenge.rw_pollproof_k73_shifts
end Head
namespace L2
open PySem PySem.Spec PyProof.Rows
abbrev Key := Sum Int Str
def keyIs : Key → Value → Bool
  | .inl k, v => Value.isInt k v
  | .inr x, v => Value.isStrOf x v
def keyH (w : World) : Key → Int
  | .inl k => hashInt k
  | .inr x => hashStr w x
theorem keyIs_shape : ∀ {k : Key} {v : Value}, keyIs k v = true → (∃ i t, k = Sum.inl i ∧ v = Value.int i t) ∨ (∃ x t, k = Sum.inr x ∧ v = Value.str x t)
  | .inl i, v, h => by
    obtain ⟨t, e⟩ := Value.isInt_shape (k := i) (v := v) h
    exact .inl ⟨i, t, rfl, e⟩
  | .inr x, v, h => by
    obtain ⟨t, e⟩ := Value.isStrOf_shape (x := x) (v := v) h
    exact .inr ⟨x, t, rfl, e⟩
theorem keyIs_int (i : Int) (t : Tok) : keyIs (.inl i) (.int i t) = true := by simp [keyIs, Value.isInt]
theorem keyIs_str (x : Str) (t : Tok) : keyIs (.inr x) (.str x t) = true := by simp [keyIs, Value.isStrOf]
theorem key_ll (a b : Int) : decide ((Sum.inl a : Key) = Sum.inl b) = (a == b) := by
  by_cases e : a = b
  · subst e; simp
  · have h : ¬ (Sum.inl a : Key) = Sum.inl b := fun q => e (Sum.inl.inj q)
    rw [decide_eq_false h]
    exact (beq_eq_false_iff_ne.mpr e).symm
theorem key_rr (a b : Str) : decide ((Sum.inr a : Key) = Sum.inr b) = decide (a = b) := by
  by_cases e : a = b
  · subst e; simp
  · have h : ¬ (Sum.inr a : Key) = Sum.inr b := fun q => e (Sum.inr.inj q)
    rw [decide_eq_false h, decide_eq_false e]
theorem key_lr (a : Int) (b : Str) : decide ((Sum.inl a : Key) = Sum.inr b) = false := decide_eq_false (fun q => nomatch q)
theorem key_rl (a : Str) (b : Int) : decide ((Sum.inr a : Key) = Sum.inl b) = false := decide_eq_false (fun q => nomatch q)
def mixKind (prog : Program) (w : World) : PySem.KeyKind prog w Key where
  is := keyIs
  hash := keyH w
  inj := fun v a b ha hb => by
    rcases keyIs_shape ha with ⟨i, t, rfl, rfl⟩ | ⟨x, t, rfl, rfl⟩
    · rcases keyIs_shape hb with ⟨j, u, rfl, e⟩ | ⟨y, u, rfl, e⟩
      · injection e with e1 _; rw [e1]
      · exact nomatch e
    · rcases keyIs_shape hb with ⟨j, u, rfl, e⟩ | ⟨y, u, rfl, e⟩
      · exact nomatch e
      · injection e with e1 _; rw [e1]
  byValue := fun k v h => by
    rcases keyIs_shape h with ⟨i, t, rfl, rfl⟩ | ⟨x, t, rfl, rfl⟩ <;> rfl
  pyHash := fun hv h => by
    rcases keyIs_shape hv with ⟨i, t, rfl, rfl⟩ | ⟨x, t, rfl, rfl⟩
    · exact wpAny_pyHash_int h
    · exact wpAny_pyHash_str h
  eqBool := fun hu hv h => by
    rcases keyIs_shape hu with ⟨i, t, rfl, rfl⟩ | ⟨x, t, rfl, rfl⟩
    · rcases keyIs_shape hv with ⟨j, u, rfl, rfl⟩ | ⟨y, u, rfl, rfl⟩
      · rw [key_ll] at h; exact wpAny_eqBool_int h
      · rw [key_lr] at h; exact SeqAt.EqAt.int_str i t y u _ _ _ _ h
    · rcases keyIs_shape hv with ⟨j, u, rfl, rfl⟩ | ⟨y, u, rfl, rfl⟩
      · rw [key_rl] at h; exact SeqAt.EqAt.str_int x t j u _ _ _ _ h
      · rw [key_rr] at h; exact wpAny_eqBool_str h
  «strs» := fun k x t v h => by
    rcases keyIs_shape h with ⟨i, u, rfl, e⟩ | ⟨y, u, rfl, e⟩
    · exact nomatch e
    · injection e with e1 _
      subst e1
      cases v <;> rfl
theorem mixKind_int (prog : Program) (w : World) (i : Int) (t : Tok) : (mixKind prog w).is (.inl i) (.int i t) = true := keyIs_int i t
theorem mixKind_str (prog : Program) (w : World) (x : Str) (t : Tok) : (mixKind prog w).is (.inr x) (.str x t) = true := keyIs_str x t
end L2
namespace L2
open PySem PySem.Spec PyProof.Rows
inductive V where
  | non | bl (b : Bool) | int (i : Int) | str (x : Str) | byt (b : Array UInt8) | flt (b : UInt64) | ref (a : Addr) | ty (n : String)
  deriving DecidableEq
def RelV : V → Value → Prop
  | .non, u => u = Value.none
  | .bl b, u => u = Value.bool b
  | .int i, u => ∃ t, u = Value.int i t
  | .str x, u => ∃ t, u = Value.str x t
  | .byt b, u => ∃ t, u = Value.bytes b t
  | .flt b, u => ∃ t, u = Value.float b t
  | .ref a, u => u = Value.ref a
  | .ty n, u => u = Value.type n
abbrev Vals : List V → List Value → Prop := Paired RelV
theorem Vals.length {xs : List V} {us : List Value} (r : Vals xs us) : xs.length = us.length := Paired.length r
theorem Vals.get : ∀ {xs : List V} {us : List Value} {i : Nat} {x : V}, Vals xs us → xs[i]? = some x → ∃ u, us[i]? = some u ∧ RelV x u
  | _, _, _, _, .nil, e => by simp at e
  | _, _, 0, _, .cons r _, e => by simp at e; subst e; exact ⟨_, rfl, r⟩
  | _, _, i + 1, x, .cons _ t, e => by
    obtain ⟨u, h1, h2⟩ := Vals.get (i := i) (x := x) t (by simpa using e)
    exact ⟨u, by simpa using h1, h2⟩
theorem Vals.append : ∀ {xs ys : List V} {us ws : List Value}, Vals xs us → Vals ys ws → Vals (xs ++ ys) (us ++ ws)
  | _, _, _, _, .nil, s => s
  | _, _, _, _, .cons r t, s => .cons r (Vals.append t s)
theorem Vals.take : ∀ {xs : List V} {us : List Value} (n : Nat), Vals xs us → Vals (xs.take n) (us.take n)
  | _, _, 0, _ => .nil
  | _, _, _ + 1, .nil => .nil
  | _, _, n + 1, .cons r t => .cons r (Vals.take n t)
theorem Vals.drop : ∀ {xs : List V} {us : List Value} (n : Nat), Vals xs us → Vals (xs.drop n) (us.drop n)
  | _, _, 0, r => r
  | _, _, _ + 1, .nil => .nil
  | _, _, n + 1, .cons _ t => Vals.drop n t
def RelO : Option V → Option Value → Prop
  | some v, some u => RelV v u
  | none, none => True
  | _, _ => False
def KV {κ : Type} : List (κ × V) → List (κ × Value) → Prop := Paired fun (p : κ × V) (q : κ × Value) => p.1 = q.1 ∧ RelV p.2 q.2
def kV : Key → V
  | .inl i => .int i
  | .inr x => .str x
inductive HO where
  | lst (xs : List V)
  | tup (xs : List V)
  | dK (kvs : List (Key × V)) | dT (kvs : List (List Key × V))
  | set (S : Int → Bool) (n : Nat)
  | ins (C dx : Addr) (fs : List (Str × V))
  | own (x : Addr)
  | xd (fs : List (Str × V))
  | met (f x : Addr)
  | rng (lo hi : Int)
  | frz (o : Obj) (u : HO)
  | tbl (ps : Array Value)
  | ext (φ : Heap → Prop)
abbrev Hp := Addr → Option HO
def upd (H : Hp) (a : Addr) (o : HO) : Hp := fun b => if b = a then some o else H b
theorem upd_same {H : Hp} {a : Addr} {o : HO} : upd H a o a = some o := by unfold upd; rw [if_pos rfl]
theorem upd_ne {H : Hp} {a b : Addr} {o : HO} (h : b ≠ a) : upd H a o b = H b := by unfold upd; rw [if_neg h]
theorem upd_upd {H : Hp} {a : Addr} {o u : HO} : upd (upd H a o) a u = upd H a u := by
  funext b; unfold upd; split <;> rfl
theorem ne_of {H : Hp} {a b : Addr} {o u : HO} (h : H a = some o) (h' : H b = some u) (d : o ≠ u) : a ≠ b := by
  intro e; subst e; rw [h] at h'; exact d (Option.some.inj h')
theorem ne_of_none {H : Hp} {a b : Addr} {o : HO} (h : H a = some o) (h' : H b = none) : a ≠ b := by
  intro e; subst e; rw [h] at h'; cases h'
section
variable (P : Program) (w : World)
def ObjOk (H : Hp) (h : Heap) (a : Addr) : HO → Prop
  | .lst xs => xs.length ≤ sizeLine ∧ ∃ (its : List Value) (n : Nat), Vals xs its ∧ h.get? a = some { cls := .type "list", data := .seq its.toArray n }
  | .tup xs => xs.length ≤ sizeLine ∧ ∃ its : List Value, Vals xs its ∧ IsTup h a its.toArray
  | .dK kvs => kvs.length ≤ sizeLine ∧ (a == sysModules) = false ∧ ∃ vs, KV kvs vs ∧ h.DictOf (mixKind P w) a vs
  | .dT kvs => kvs.length ≤ sizeLine ∧ (a == sysModules) = false ∧ ∃ xs : List (List Key × Addr × Value),
      Paired (fun (p : List Key × V) (q : List Key × Addr × Value) => p.1 = q.1 ∧ H q.2.1 = some (.tup (p.1.map kV)) ∧ RelV p.2 q.2.2) kvs xs ∧
      ∃ o es ep, h.get? a = some o ∧ o.ExactDict ∧ o.data = .dict es ep ∧ es.toList = xs.map (entryOfKey (tupleKind (mixKind P w))) ∧ (xs.map (·.1)).Nodup
  | .set S n => h.SetOf (intKind P w) a S n
  | .ins C dx fs => H dx = some (.own a) ∧ fs.length ≤ 1000 ∧ dx ≠ a ∧ h.get? a = some (PySem.W.instObj C dx) ∧
      ∃ mA, h.Ns1 dx mA ∧ (∀ f, RelO (fs.lookup f) (mA f)) ∧ PySem.Within mA (fs.map (·.1))
  | .own _ => ∃ o, h.get? a = some o
  | .xd fs => ∃ mA, h.Ns1 a mA ∧ ∀ f, RelO (fs.lookup f) (mA f)
  | .rng lo hi => ∃ t u v, h.get? a = some { cls := .type "range", data := .fields #[.int lo t, .int hi u, .int 1 v] }
  | .frz o u => h.get? a = some o ∧ ObjOk H h a u
  | .tbl ps => h.get? a = some { cls := .none, data := .fields ps }
  | .met f x => h.get? a = some (PySem.W.methodObj (.ref f) (.ref x))
  | .ext φ => φ h ∧ (∃ o, h.get? a = some o) ∧ ∀ h1 h2 : Heap, φ h1 → (∀ o, h1.get? a = some o → h2.get? a = some o) → φ h2
def HOk (H : Hp) (h : Heap) : Prop := ∀ a o, H a = some o → ObjOk P w H h a o
end
section
variable {P : Program} {w : World} {H H' : Hp} {h h' : Heap} {a : Addr} {o : HO}
theorem ObjOk.lt (x : ObjOk P w H h a o) : a < h.objs.size := by
  cases o with
  | lst xs => obtain ⟨_, _, _, _, e⟩ := x; exact Heap.lt_size e
  | tup xs => obtain ⟨_, _, _, p⟩ := x; exact p.lt
  | dK kvs => obtain ⟨_, _, _, _, o, _, _, e, _⟩ := x; exact Heap.lt_size e
  | dT kvs => obtain ⟨_, _, _, _, o, _, _, e, _⟩ := x; exact Heap.lt_size e
  | set S n => obtain ⟨o, _, _, _, e, _⟩ := x; exact Heap.lt_size e
  | ins C dx fs => obtain ⟨_, _, _, e, _⟩ := x; exact Heap.lt_size e
  | own y => obtain ⟨_, e⟩ := x; exact Heap.lt_size e
  | xd fs => obtain ⟨_, ⟨_, _, _, e, _⟩, _⟩ := x; exact Heap.lt_size e
  | rng lo hi => obtain ⟨_, _, _, e⟩ := x; exact Heap.lt_size e
  | frz ob u => obtain ⟨e, _⟩ := x; exact Heap.lt_size e
  | tbl ps => exact Heap.lt_size (show h.get? a = some _ from x)
  | met f y => exact Heap.lt_size (show h.get? a = some _ from x)
  | ext φ => obtain ⟨_, ⟨_, e⟩, _⟩ := x; exact Heap.lt_size e
theorem Paired.mapP {α β : Type} {F G : α → β → Prop} : ∀ {l₁ : List α} {l₂ : List β}, Paired F l₁ l₂ → (∀ a b, F a b → G a b) → Paired G l₁ l₂
  | _, _, .nil, _ => .nil
  | _, _, .cons r t, f => .cons (f _ _ r) (Paired.mapP t f)
theorem ObjOk.stay (x : ObjOk P w H h a o) (k : ∀ b u, (b = a ∨ H b = some (.own a)) → h.get? b = some u → h'.get? b = some u)
    (ho : ∀ b, H b = some (.own a) → H' b = some (.own a)) (ht : ∀ b xs, H b = some (.tup xs) → H' b = some (.tup xs)) : ObjOk P w H' h' a o := by
  induction o with
  | lst xs => obtain ⟨z, its, n, r, e⟩ := x; exact ⟨z, its, n, r, k _ _ (.inl rfl) e⟩
  | tup xs => obtain ⟨z, its, r, ob, e, c⟩ := x; exact ⟨z, its, r, ob, k _ _ (.inl rfl) e, c⟩
  | dK kvs => obtain ⟨z, y, vs, r, ob, es, ep, e, c⟩ := x; exact ⟨z, y, vs, r, ob, es, ep, k _ _ (.inl rfl) e, c⟩
  | dT kvs =>
    obtain ⟨z, y, xs, r, ob, es, ep, e, c⟩ := x
    exact ⟨z, y, xs, Paired.mapP r fun p q z => ⟨z.1, ht _ _ z.2.1, z.2.2⟩, ob, es, ep, k _ _ (.inl rfl) e, c⟩
  | set S n => obtain ⟨ob, es, ep, t, e, c⟩ := x; exact ⟨ob, es, ep, t, k _ _ (.inl rfl) e, c⟩
  | ins C dx fs =>
    obtain ⟨d, z, ne, e, mA, ⟨od, es, ep, e2, c⟩, r⟩ := x
    exact ⟨ho _ d, z, ne, k _ _ (.inl rfl) e, mA, ⟨od, es, ep, k _ _ (.inr d) e2, c⟩, r⟩
  | own y => obtain ⟨ob, e⟩ := x; exact ⟨ob, k _ _ (.inl rfl) e⟩
  | xd fs => obtain ⟨mA, ⟨od, es, ep, e, c⟩, r⟩ := x; exact ⟨mA, ⟨od, es, ep, k _ _ (.inl rfl) e, c⟩, r⟩
  | rng lo hi => obtain ⟨t, u, v, e⟩ := x; exact ⟨t, u, v, k _ _ (.inl rfl) e⟩
  | frz ob u ih => obtain ⟨e, q⟩ := x; exact ⟨k _ _ (.inl rfl) e, ih q⟩
  | tbl ps =>
    have e : h.get? a = some { cls := .none, data := .fields ps } := x
    show h'.get? a = some { cls := .none, data := .fields ps }
    exact k a _ (.inl rfl) e
  | met f y =>
    have e : h.get? a = some (PySem.W.methodObj (.ref f) (.ref y)) := x
    show h'.get? a = some (PySem.W.methodObj (.ref f) (.ref y))
    exact k a _ (.inl rfl) e
  | ext φ => obtain ⟨p, ⟨o, e⟩, st⟩ := x; exact ⟨st _ _ p fun o q => k _ _ (.inl rfl) q, ⟨o, k _ _ (.inl rfl) e⟩, st⟩
theorem HOk.lt (x : HOk P w H h) (e : H a = some o) : a < h.objs.size := (x a o e).lt
theorem HOk.fresh (x : HOk P w H h) (e : h.objs.size ≤ a) : H a = none := by
  cases q : H a with
  | none => rfl
  | some u => exact absurd (Nat.lt_of_lt_of_le (x.lt q) e) (Nat.lt_irrefl _)
theorem HOk.kept (x : HOk P w H h) (k : ∀ b u, h.get? b = some u → h'.get? b = some u) : HOk P w H h' := fun a o e =>
  (x a o e).stay (fun b u _ q => k b u q) (fun _ q => q) fun _ _ q => q
theorem HOk.laid (x : HOk P w H h) (k : ∀ b u, h.get? b = some u → h'.get? b = some u) (hp : h.objs.size ≤ a) (new : ObjOk P w (upd H a o) h' a o) : HOk P w (upd H a o) h' := fun b u e => by
  have hn := x.fresh hp
  by_cases hb : b = a
  · subst hb; rw [upd_same] at e; cases e; exact new
  · rw [upd_ne hb] at e
    exact (x b u e).stay (fun c v _ q => k c v q) (fun c q => by rw [upd_ne (ne_of_none q hn)]; exact q) fun c xs q => by rw [upd_ne (ne_of_none q hn)]; exact q
end
def Rd (H : Hp) (a : Addr) (u : HO) : Prop := H a = some u ∨ ∃ o, H a = some (.frz o u)
theorem Rd.ok {P : Program} {w : World} {H : Hp} {h : Heap} {a : Addr} {u : HO} (r : Rd H a u) (x : HOk P w H h) : ObjOk P w H h a u := by
  rcases r with r | ⟨o, r⟩
  · exact x a u r
  · obtain ⟨_, q⟩ := x a _ r
    exact q
def Mut : Option HO → Prop
  | some (.lst _) => True
  | some (.dK _) => True
  | some (.dT _) => True
  | some (.set _ _) => True
  | some (.ins _ _ _) => True
  | some (.ext _) => True
  | _ => False
section
variable {P : Program} {w : World} {H : Hp} {h h' : Heap} {x e : Addr} {o' : HO}
theorem HOk.write (ok : HOk P w H h) (mu : Mut (H x)) (he : e = x ∨ H e = some (.own x)) (k : ∀ b u, b ≠ e → h.get? b = some u → h'.get? b = some u) (heo : ∃ u, h'.get? e = some u)
    (new : ObjOk P w (upd H x o') h' x o') : HOk P w (upd H x o') h' := fun b u q => by
  have nown : ∀ c y, H c = some (.own y) → c ≠ x := fun c y r z => by subst z; rw [r] at mu; exact mu
  have ntup : ∀ c xs, H c = some (.tup xs) → c ≠ x := fun c xs r z => by subst z; rw [r] at mu; exact mu
  by_cases hb : b = x
  · subst hb; rw [upd_same] at q; cases q; exact new
  · rw [upd_ne hb] at q
    by_cases hbe : b = e
    · have q' : H b = some (.own x) := by
        rcases he with z | z
        · exact absurd (hbe.trans z) hb
        · rw [hbe]; exact z
      rw [q] at q'; cases q'
      obtain ⟨v, hv⟩ := heo
      exact ⟨v, by rw [hbe]; exact hv⟩
    · refine (ok b u q).stay (fun c v hc r => k c v ?_ r) (fun c r => by rw [upd_ne (nown c b r)]; exact r) fun c xs r => by rw [upd_ne (ntup c xs r)]; exact r
      rcases hc with rfl | hc
      · exact hbe
      · rintro rfl
        rcases he with z | z
        · exact nown c b hc z
        · rw [hc] at z; cases z; exact hb rfl
end
structure Un (fs ex : List Addr) (H H' : Hp) (h h' : Heap) : Prop where
  keep : ∀ b o, h.get? b = some o → H b = none → b ∉ fs → b ∉ ex → h'.get? b = some o
  slot : ∀ b o, h.get? b = some o → H b = none → b ∈ fs → b ∉ ex → ∃ sl, h'.get? b = some { o with slots := sl }
  free : ∀ b o, h.get? b = some o → H b = none → b ∉ ex → H' b = none
  there : ∀ b o, h.get? b = some o → b ∉ ex → ∃ o', h'.get? b = some o'
  tups : ∀ b xs, H b = some (.tup xs) → H' b = some (.tup xs)
  frzs : ∀ b o u, H b = some (.frz o u) → H' b = some (.frz o u)
  tbls : ∀ b ps, H b = some (.tbl ps) → ∃ more, H' b = some (.tbl (ps ++ more))
section
variable {fs fs' ex ex' : List Addr} {H H1 H2 : Hp} {h h1 h2 h' : Heap} {a x e : Addr} {o : HO}
theorem Un.any (u : Un fs ex H H1 h h1) {b : Addr} {ob : Obj} (q : h.get? b = some ob) (n : H b = none) (hx : b ∉ ex) : ∃ sl, h1.get? b = some { ob with slots := sl } := by
  by_cases hb : b ∈ fs
  · exact u.slot b ob q n hb hx
  · exact ⟨ob.slots, u.keep b ob q n hb hx⟩
theorem Un.kept (k : ∀ b u, h.get? b = some u → h'.get? b = some u) : Un fs ex H H h h' :=
  ⟨fun b ob q _ _ _ => k b ob q, fun b ob q _ _ _ => ⟨ob.slots, k b ob q⟩, fun _ _ _ n _ => n, fun b ob q _ => ⟨ob, k b ob q⟩, fun _ _ q => q, fun _ _ _ q => q, fun _ ps q => ⟨#[], by rw [q]; simp⟩⟩
theorem Un.refl : Un fs ex H H h h := Un.kept fun _ _ q => q
theorem Un.laid (k : ∀ b u, h.get? b = some u → h'.get? b = some u) (hp : h.objs.size ≤ a) (hn : H a = none) : Un fs ex H (upd H a o) h h' where
  keep := fun b u q _ _ _ => k b u q
  slot := fun b u q _ _ _ => ⟨u.slots, k b u q⟩
  free := fun b u q n _ => by rw [upd_ne (Nat.ne_of_lt (Nat.lt_of_lt_of_le (Heap.lt_size q) hp))]; exact n
  there := fun b u q _ => ⟨u, k b u q⟩
  tups := fun b xs q => by rw [upd_ne (ne_of_none q hn)]; exact q
  frzs := fun b u xs q => by rw [upd_ne (ne_of_none q hn)]; exact q
  tbls := fun b ps q => ⟨#[], by rw [upd_ne (ne_of_none q hn), q]; simp⟩
theorem Un.write (mu : Mut (H x)) (he : e = x ∨ H e = some (.own x)) (k : ∀ b u, b ≠ e → h.get? b = some u → h'.get? b = some u) (heo : ∃ u, h'.get? e = some u) : Un fs ex H (upd H x o) h h' := by
  have hx : ∀ b, H b = none → b ≠ x := fun b n z => by subst z; rw [n] at mu; exact mu
  have hb : ∀ b, H b = none → b ≠ e := fun b n z => by
    subst z
    rcases he with r | r
    · exact hx b n r
    · rw [n] at r; cases r
  have hm : ∀ b u, H b = some u → ¬ Mut (some u) → b ≠ x := fun b u q nm z => by subst z; rw [q] at mu; exact nm mu
  refine ⟨fun b u q n _ _ => k b u (hb b n) q, fun b u q n _ _ => ⟨u.slots, k b u (hb b n) q⟩, fun b u q n _ => by rw [upd_ne (hx b n)]; exact n, fun b u q _ => ?_,
    fun b xs q => by rw [upd_ne (hm b _ q fun z => z)]; exact q, fun b u xs q => by rw [upd_ne (hm b _ q fun z => z)]; exact q, fun b ps q => ⟨#[], by rw [upd_ne (hm b _ q fun z => z), q]; simp⟩⟩
  by_cases hbe : b = e
  · subst hbe; exact heo
  · exact ⟨u, k b u hbe q⟩
end
def trk (h : Heap) (H : Hp) : List Addr := (List.range h.objs.size).filter fun a => (H a).isSome
def hidT (h : Heap) (H : Hp) : Heap := PySem.W.hideAll h (trk h H)
theorem hidT_size (h : Heap) (H : Hp) : (hidT h H).objs.size = h.objs.size := PySem.W.hideAll_size _ _
theorem hidT_get {h : Heap} {H : Hp} {b : Addr} {o : Obj} (e : h.get? b = some o) (n : H b = none) : (hidT h H).get? b = some o :=
  PySem.W.hideAll_get _ e fun hm => by
    have q : (H b).isSome = true := (List.mem_filter.mp hm).2
    rw [n] at q; simp at q
theorem of_hidT {h : Heap} {H : Hp} {b : Addr} {o : Obj} (e : (hidT h H).get? b = some o) : h.get? b = some o ∧ H b = none := by
  have e' : h.get? b = some o := PySem.W.of_hideAll (trk h H) e
  refine ⟨e', ?_⟩
  cases q : H b with
  | none => rfl
  | some x =>
    have hm : b ∈ trk h H := List.mem_filter.mpr ⟨List.mem_range.mpr (Heap.lt_size e'), by simp [q]⟩
    have z : (hidT h H).get? b = none := PySem.W.hideAll_none (trk h H) hm
    rw [z] at e; cases e
end L2
namespace L2
open PySem PySem.Spec PyProof.Rows
structure Mod (K : PySem.W.Frag) (mg : Str → Option Value) (base : Heap) : Prop where
  kin : K.In base
  glob : base.Ns mainGlobals mg
  blt : ∃ mb, base.Ns builtinsNs mb ∧ ∀ x : Str, x ≠ "__name__" → mb x = bootBuiltins x
  nolimit : base.NoLimit
structure Cx where
  prog : Program
  w : World
  K : PySem.W.Frag
  mg : Str → Option Value
  base : Heap
  A : Around
  N : List Str
  s₀ : Shared
  H₀ : Hp
  env : Env
  outer : List Env
  stack : List Env
  ex : List Addr
  fn : Str → Bool
  calm : Bool
  pn : List (Addr × Obj)
  xe : Value → Shared → Prop
def frs (l : List Env) : List Addr := l.filterMap (·.frame)
abbrev Cx.fs (X : Cx) : List Addr := frs X.outer
def Vis (sc : Scope) (x : Str) : Prop := sc.names.lookup x = some .local ∨ sc.names.lookup x = some .cell ∨ sc.names.lookup x = some .free
def Loc (sc : Scope) (x : Str) : Prop := sc.names.lookup x = some .local ∨ sc.names.lookup x = some .cell
def Look (env : Env) (h : Heap) (m : Str → Option Value) (x : Str) (u : Value) : Prop :=
  (env.kindOf x = some .local ∧ m x = some u) ∨ ((env.kindOf x = some .cell ∨ env.kindOf x = some .free) ∧ ∃ c, env.cells.lookup x = some c ∧ h.IsCell c (some u))
structure Cx.Ok (X : Cx) : Prop where
  mod : Mod X.K X.mg X.base
  kind : X.env.scope.kind = .function
  glob : X.env.globals = mainGlobals
  blt : X.env.builtins = builtinsNs
  above : X.s₀.heap.objs.size ≤ X.env.locals
  inj : ∀ x y c, X.env.cells.lookup x = some c → X.env.cells.lookup y = some c → x = y
  has : ∀ x, (X.env.kindOf x = some .cell ∨ X.env.kindOf x = some .free) → ∃ c, X.env.cells.lookup x = some c
  cab : ∀ x c, X.fn x = true → X.env.cells.lookup x = some c → X.s₀.heap.objs.size ≤ c
  hd : X.calm = true → X.A.handled = none
  frames : X.A.frames = some X.stack
  stk : X.stack = X.outer ∨ (X.stack = X.env :: X.outer ∧ X.env.frame = some X.env.locals)
  exf : ∀ b ∈ X.ex, b ≠ X.env.locals ∧ ∀ x c, X.env.cells.lookup x = some c → c ≠ b
  bs : ∀ b o, X.base.get? b = some o → X.s₀.heap.get? b = some o ∧ X.H₀ b = none
  bsz : X.base.objs.size ≤ X.s₀.heap.objs.size
  noex : ∀ b o, X.base.get? b = some o → b ∉ X.ex
  exfs : ∀ b ∈ X.ex, b ∉ X.fs
  funs : X.s₀.heap.FunFrames X.base X.outer
  frf : ∀ b ∈ X.fs, X.H₀ b = none
structure Inv (X : Cx) (pins : List (Addr × Obj)) (σ : List (Option V)) (H : Hp) (s : Shared) : Prop where
  ok : X.Ok
  os : s.os = X.s₀.os
  bare : AllBare s.gens
  base : Un X.fs X.ex X.H₀ H X.s₀.heap s.heap
  loc : ∃ m, s.heap.Ns X.env.locals m ∧ ∀ (i : Nat) (x : Str) (v : V), X.N[i]? = some x → σ[i]? = some (some v) → Vis X.env.scope x → ∃ u, RelV v u ∧ Look X.env s.heap m x u
  cell : ∀ x c, X.env.cells.lookup x = some c → ∃ v, s.heap.IsCell c v
  free : H X.env.locals = none
  freeC : ∀ x c, X.env.cells.lookup x = some c → H c = none
  pin : ∀ p ∈ X.pn ++ pins, s.heap.get? p.1 = some p.2 ∧ H p.1 = none ∧ p.1 ≠ X.env.locals ∧ p.1 ∉ X.fs ∧ ∀ v, p.2.data ≠ .cell v
  hok : HOk X.prog X.w H s.heap
  len : σ.length = X.N.length
section
variable {X : Cx} {pins : List (Addr × Obj)} {σ : List (Option V)} {H H' : Hp} {s : Shared} {h' : Heap}
theorem Cx.Ok.nofr (ok : X.Ok) {b : Addr} {o : Obj} (e : X.base.get? b = some o) : b ∉ X.fs := fun hb => by
  have := (ok.funs.mem hb).1
  rw [e] at this; cases this
theorem Inv.bs (I : Inv X pins σ H s) : ∀ b o, X.base.get? b = some o → s.heap.get? b = some o ∧ H b = none := fun b o e =>
  ⟨I.base.keep b o (I.ok.bs b o e).1 (I.ok.bs b o e).2 (I.ok.nofr e) (I.ok.noex b o e), I.base.free b o (I.ok.bs b o e).1 (I.ok.bs b o e).2 (I.ok.noex b o e)⟩
theorem Inv.bk (I : Inv X pins σ H s) : ∀ b o, X.base.get? b = some o → s.heap.get? b = some o := fun b o e => (I.bs b o e).1
theorem Inv.mod (I : Inv X pins σ H s) : Mod X.K X.mg X.base := I.ok.mod
theorem Inv.kIn (I : Inv X pins σ H s) : X.K.In s.heap := I.ok.mod.kin.keeps I.bk
theorem Inv.nolimit (I : Inv X pins σ H s) : s.heap.NoLimit := I.ok.mod.nolimit.keeps I.bk
theorem Inv.lt (I : Inv X pins σ H s) : X.env.locals < s.heap.objs.size := let ⟨_, hn, _⟩ := I.loc; hn.lt
theorem Inv.sz (I : Inv X pins σ H s) : X.s₀.heap.objs.size ≤ s.heap.objs.size := Nat.le_trans I.ok.above (Nat.le_of_lt I.lt)
theorem Inv.nofs (I : Inv X pins σ H s) {a : Addr} (h : s.heap.objs.size ≤ a) : a ∉ X.fs := fun hb => by
  obtain ⟨_, o, ho, _⟩ := I.ok.funs.mem hb
  exact absurd (Nat.lt_of_lt_of_le (Heap.lt_size ho) (Nat.le_trans I.sz h)) (Nat.lt_irrefl _)
theorem Inv.cne (I : Inv X pins σ H s) : ∀ x c, X.env.cells.lookup x = some c → c ≠ X.env.locals := fun x c e z => by
  obtain ⟨v, o, ho, hd⟩ := I.cell x c e
  obtain ⟨m, ⟨o', es, ep, ho', hd', _⟩, _⟩ := I.loc
  rw [z, ho'] at ho; cases ho; rw [hd'] at hd; cases hd
theorem Inv.funs (I : Inv X pins σ H s) : s.heap.FunFrames X.base X.outer := by
  have all : ∀ (l : List Env), (∀ b ∈ frs l, b ∈ X.fs) → X.s₀.heap.FunFrames X.base l → s.heap.FunFrames X.base l := by
    intro l
    induction l with
    | nil => intro _ _; trivial
    | cons env r ih =>
      intro hs hl
      obtain ⟨hk, ⟨L, o, hf, hn, ho, hd⟩, hr⟩ := hl
      have hL : L ∈ X.fs := hs L (by unfold frs; rw [List.filterMap_cons, hf]; exact List.mem_cons_self)
      obtain ⟨sl, e⟩ := I.base.slot L o ho (I.ok.frf L hL) hL fun z => I.ok.exfs L z hL
      exact ⟨hk, ⟨L, _, hf, hn, e, hd⟩, ih (fun b hb => hs b (by unfold frs; rw [List.filterMap_cons, hf]; exact List.mem_cons_of_mem _ hb)) hr⟩
  exact all X.outer (fun _ hb => hb) I.ok.funs
theorem Inv.stack (I : Inv X pins σ H s) : s.heap.FunFrames X.base X.stack := by
  rcases I.ok.stk with e | ⟨e, hf⟩
  · rw [e]; exact I.funs
  · rw [e]
    obtain ⟨m, hn, _⟩ := I.loc
    refine .cons (by rw [I.ok.kind]; decide) hf hn ?_ I.funs
    exact Heap.get?_none_of_le (Nat.le_trans I.ok.bsz I.ok.above)
theorem Inv.stkSub (I : Inv X pins σ H s) : ∀ b ∈ frs X.stack, b ∈ X.env.locals :: X.fs := fun b hb => by
  rcases I.ok.stk with e | ⟨e, hf⟩
  · rw [e] at hb; exact List.mem_cons_of_mem _ hb
  · rw [e] at hb
    unfold frs at hb
    rw [List.filterMap_cons, hf] at hb
    exact hb
theorem Inv.stkFree (I : Inv X pins σ H s) : ∀ b ∈ frs X.stack, H b = none := fun b hb => by
  rcases List.mem_cons.mp (I.stkSub b hb) with e | hb
  · rw [e]; exact I.free
  · obtain ⟨_, o, ho, _⟩ := I.ok.funs.mem hb
    exact I.base.free b o ho (I.ok.frf b hb) fun z => I.ok.exfs b z hb
theorem Inv.step {g' : Array GenState} {t' : Nat} {d' : Drawn} {ch : List Addr} (I : Inv X pins σ H s)
    (hch : ∀ b ∈ ch, (b ∈ X.ex ∨ X.s₀.heap.objs.size ≤ b) ∧ b ≠ X.env.locals ∧ (∀ x c, X.env.cells.lookup x = some c → c ≠ b) ∧ ∀ p ∈ X.pn ++ pins, p.1 ≠ b)
    (keep : ∀ b o, b ≠ X.env.locals → b ∉ X.fs → b ∉ ch → s.heap.get? b = some o → H b = none → h'.get? b = some o)
    (slot : ∀ b o, b ≠ X.env.locals → b ∈ X.fs → b ∉ ch → s.heap.get? b = some o → H b = none → ∃ sl, h'.get? b = some { o with slots := sl }) (free : ∀ b o, b ∉ ch → s.heap.get? b = some o → H b = none → H' b = none)
    (there : ∀ b o, b ∉ ch → s.heap.get? b = some o → ∃ o', h'.get? b = some o')
    (tups : ∀ b xs, H b = some (.tup xs) → H' b = some (.tup xs)) (frzs : ∀ b o u, H b = some (.frz o u) → H' b = some (.frz o u)) (tbls : ∀ b ps, H b = some (.tbl ps) → ∃ more, H' b = some (.tbl (ps ++ more)))
    (ns : ∀ m, s.heap.Ns X.env.locals m → h'.Ns X.env.locals m) (hok : HOk X.prog X.w H' h') (hg : AllBare g') :
    Inv X pins σ H' { s with heap := h', gens := g', drawn := d', toks := t' } := by
  have neL : ∀ b o, X.s₀.heap.get? b = some o → b ≠ X.env.locals := fun b o e => Nat.ne_of_lt (Nat.lt_of_lt_of_le (Heap.lt_size e) I.ok.above)
  have neC : ∀ b o, X.s₀.heap.get? b = some o → b ∉ X.ex → b ∉ ch := fun b o e hx hb => by
    rcases (hch b hb).1 with z | z
    · exact hx z
    · exact absurd (Nat.lt_of_lt_of_le (Heap.lt_size e) z) (Nat.lt_irrefl _)
  have cellK : ∀ x c, X.env.cells.lookup x = some c → ∀ v, s.heap.IsCell c v → h'.IsCell c v := fun x c e v ⟨o, ho, hd⟩ => by
    have nch : c ∉ ch := fun z => (hch c z).2.2.1 x c e rfl
    by_cases hc : c ∈ X.fs
    · obtain ⟨sl, q⟩ := slot c o (I.cne x c e) hc nch ho (I.freeC x c e)
      exact ⟨_, q, hd⟩
    · exact ⟨o, keep c o (I.cne x c e) hc nch ho (I.freeC x c e), hd⟩
  refine ⟨I.ok, I.os, hg, ⟨fun b o e n hb hx => ?_, fun b o e n hb hx => ?_, fun b o e n hx => ?_, fun b o e hx => ?_, fun b xs e => tups b xs (I.base.tups b xs e), fun b o xs e => frzs b o xs (I.base.frzs b o xs e), fun b ps e => ?_⟩, ?_, fun x c e => ?_, ?_, fun x c e => ?_, fun p hp => ?_, hok, I.len⟩
  · exact keep b o (neL b o e) hb (neC b o e hx) (I.base.keep b o e n hb hx) (I.base.free b o e n hx)
  · obtain ⟨sl, e1⟩ := I.base.slot b o e n hb hx
    obtain ⟨sl', e2⟩ := slot b _ (neL b o e) hb (neC b o e hx) e1 (I.base.free b o e n hx)
    exact ⟨sl', e2⟩
  · obtain ⟨o', e1⟩ := I.base.there b o e hx
    exact free b o' (neC b o e hx) e1 (I.base.free b o e n hx)
  · obtain ⟨o', e1⟩ := I.base.there b o e hx
    exact there b o' (neC b o e hx) e1
  · obtain ⟨m1, e1⟩ := I.base.tbls b ps e
    obtain ⟨m2, e2⟩ := tbls b _ e1
    exact ⟨m1 ++ m2, by rw [e2, Array.append_assoc]⟩
  · obtain ⟨m, hn, hl⟩ := I.loc
    refine ⟨m, ns m hn, fun i x v e1 e2 e3 => ?_⟩
    obtain ⟨u, r, l⟩ := hl i x v e1 e2 e3
    refine ⟨u, r, ?_⟩
    rcases l with l | ⟨k, c, e, z⟩
    · exact .inl l
    · exact .inr ⟨k, c, e, cellK x c e _ z⟩
  · obtain ⟨v, z⟩ := I.cell x c e
    exact ⟨v, cellK x c e v z⟩
  · obtain ⟨m, ⟨o, _, _, ho, _⟩, _⟩ := I.loc
    exact free _ o (fun z => (hch _ z).2.1 rfl) ho I.free
  · obtain ⟨v, o, ho, hd⟩ := I.cell x c e
    exact free c o (fun z => (hch c z).2.2.1 x c e rfl) ho (I.freeC x c e)
  · obtain ⟨e, n, ne, nf, d⟩ := I.pin p hp
    have nch : p.1 ∉ ch := fun z => (hch p.1 z).2.2.2 p hp rfl
    exact ⟨keep p.1 p.2 ne nf nch e n, free p.1 p.2 nch e n, ne, nf, d⟩
theorem Inv.un {t' : Nat} (I : Inv X pins σ H s) (u : Un X.fs [] H H' s.heap h') (hok : HOk X.prog X.w H' h') : Inv X pins σ H' { s with heap := h', toks := t' } := by
  obtain ⟨m, ⟨o, es, ep, ho, r⟩, _⟩ := id I.loc
  obtain ⟨sl, hL⟩ := u.any ho I.free (by simp)
  exact I.step (g' := s.gens) (d' := s.drawn) (ch := []) (fun _ z => nomatch z) (fun b o _ hb _ e n => u.keep b o e n hb (by simp)) (fun b o _ hb _ e n => u.slot b o e n hb (by simp)) (fun b o _ e n => u.free b o e n (by simp)) (fun b o _ e => u.there b o e (by simp)) u.tups u.frzs u.tbls (fun m' hm => by
    obtain ⟨o', es', ep', ho', r'⟩ := hm
    rw [ho] at ho'; cases ho'
    exact ⟨_, es', ep', hL, r'⟩) hok I.bare
theorem Inv.call {g' : Array GenState} {t' : Nat} {d' : Drawn} {ch : List Addr} (I : Inv X pins σ H s) (u : Un (frs X.stack) ch H H' s.heap h') (hok : HOk X.prog X.w H' h') (hg : AllBare g')
    (hch : ∀ b ∈ ch, (b ∈ X.ex ∨ X.s₀.heap.objs.size ≤ b) ∧ b ≠ X.env.locals ∧ (∀ x c, X.env.cells.lookup x = some c → c ≠ b) ∧ ∀ p ∈ X.pn ++ pins, p.1 ≠ b) :
    Inv X pins σ H' { s with heap := h', gens := g', drawn := d', toks := t' } := by
  obtain ⟨m, ⟨o, es, ep, ho, r⟩, _⟩ := id I.loc
  obtain ⟨sl, hL⟩ := u.any ho I.free fun z => (hch _ z).2.1 rfl
  exact I.step (ch := ch) hch (fun b o hL hb hc e n => u.keep b o e n (fun z => (List.mem_cons.mp (I.stkSub b z)).elim hL hb) hc) (fun b o _ _ hc e n => u.any e n hc) (fun b o hc e n => u.free b o e n hc) (fun b o hc e => u.there b o e hc) u.tups u.frzs u.tbls (fun m' hm => by
    obtain ⟨o', es', ep', ho', r'⟩ := hm
    rw [ho] at ho'; cases ho'
    exact ⟨_, es', ep', hL, r'⟩) hok hg
theorem Inv.turned {t' : Nat} {it : Addr} (I : Inv X pins σ H s) (k : ∀ b o, b ≠ it → s.heap.get? b = some o → h'.get? b = some o) (hn : H it = none) (hL : it ≠ X.env.locals)
    (h1 : it ∈ X.ex ∨ X.s₀.heap.objs.size ≤ it) (h2 : ∀ x c, X.env.cells.lookup x = some c → c ≠ it) (h3 : ∀ p ∈ X.pn ++ pins, p.1 ≠ it) : Inv X pins σ H { s with heap := h', toks := t' } := by
  have nit : ∀ b u, H b = some u → b ≠ it := fun b u e z => by rw [z, hn] at e; cases e
  refine I.step (g' := s.gens) (d' := s.drawn) (ch := [it]) (fun b hb => ?_) (fun b o _ _ hc e _ => k b o (fun z => hc (by simp [z])) e) (fun b o _ _ hc e _ => ⟨o.slots, k b o (fun z => hc (by simp [z])) e⟩) (fun _ _ _ _ n => n)
    (fun b o hc e => ⟨o, k b o (fun z => hc (by simp [z])) e⟩) (fun _ _ e => e) (fun _ _ _ e => e) (fun b ps e => ⟨#[], by rw [e]; simp⟩) (fun m hm => ?_) (fun b u e => ?_) I.bare
  · have e : b = it := by simpa using hb
    subst e
    exact ⟨h1, hL, h2, h3⟩
  · obtain ⟨o, es, ep, ho, r⟩ := hm
    exact ⟨o, es, ep, k _ o (Ne.symm hL) ho, r⟩
  · refine (I.hok b u e).stay (fun c v hc q => k c v ?_ q) (fun _ q => q) fun _ _ q => q
    rcases hc with z | z
    · rw [z]; exact nit b u e
    · exact nit c _ z
theorem Inv.tok (I : Inv X pins σ H s) (t : Nat) : Inv X pins σ H { s with toks := t } := I.un (h' := s.heap) (t' := t) Un.refl I.hok
theorem Inv.kept {t' : Nat} (I : Inv X pins σ H s) (k : ∀ b u, s.heap.get? b = some u → h'.get? b = some u) : Inv X pins σ H { s with heap := h', toks := t' } := I.un (Un.kept k) (I.hok.kept k)
theorem Inv.laid {a : Addr} {o : HO} {t' : Nat} (I : Inv X pins σ H s) (k : ∀ b u, s.heap.get? b = some u → h'.get? b = some u) (hp : s.heap.objs.size ≤ a) (new : ObjOk X.prog X.w (upd H a o) h' a o) :
    Inv X pins σ (upd H a o) { s with heap := h', toks := t' } := I.un (Un.laid k hp (I.hok.fresh hp)) (I.hok.laid k hp new)
theorem Inv.write {x e : Addr} {o : HO} {t' : Nat} (I : Inv X pins σ H s) (mu : Mut (H x)) (he : e = x ∨ H e = some (.own x)) (k : ∀ b u, b ≠ e → s.heap.get? b = some u → h'.get? b = some u) (heo : ∃ u, h'.get? e = some u)
    (new : ObjOk X.prog X.w (upd H x o) h' x o) : Inv X pins σ (upd H x o) { s with heap := h', toks := t' } := I.un (Un.write mu he k heo) (I.hok.write mu he k heo new)
theorem Inv.pins_of {pins' : List (Addr × Obj)} (I : Inv X pins σ H s) (h : ∀ p ∈ pins', s.heap.get? p.1 = some p.2 ∧ H p.1 = none ∧ p.1 ≠ X.env.locals ∧ p.1 ∉ X.fs ∧ ∀ v, p.2.data ≠ .cell v) : Inv X pins' σ H s :=
  ⟨I.ok, I.os, I.bare, I.base, I.loc, I.cell, I.free, I.freeC, fun p hp => (List.mem_append.mp hp).elim (fun z => I.pin p (List.mem_append_left _ z)) (h p), I.hok, I.len⟩
theorem nodup_ix {N : List Str} (hN : N.Nodup) {i j : Nat} {x : Str} (a : N[i]? = some x) (b : N[j]? = some x) : i = j := by
  obtain ⟨h1, e1⟩ := List.getElem?_eq_some_iff.mp a
  obtain ⟨h2, e2⟩ := List.getElem?_eq_some_iff.mp b
  exact (List.getElem_inj hN).mp (e1.trans e2.symm)
theorem store_ok2 {M : Model} {A : Around} {E : Value → Shared → Prop} {i : Nat} {x : Str} {v : V} {u : Value} {Q : Unit → Shared → Prop} (I : Inv X pins σ H s) (hN : X.N.Nodup) (hi : X.N[i]? = some x) (hx : Loc X.env.scope x) (r : RelV v u)
    (h : ∀ s', Inv X pins (σ.set i (some v)) H s' → (∃ a, Heap.SameBut a s.heap s'.heap ∧ (a = X.env.locals ∨ X.env.cells.lookup x = some a)) → Q () s') (hf : X.fn x = true ∨ X.env.scope.names.lookup x = some .local := by first | exact .inl rfl | exact .inr rfl | assumption) : wpAny M A (storeName X.env x u) Q E s := by
  obtain ⟨m, hn, hl⟩ := id I.loc
  have hcls : (X.env.scope.kind == .class || (X.env.scope.kind == .module && X.env.locals != X.env.globals)) = false := by rw [I.ok.kind]; rfl
  have hiσ : i < σ.length := by rw [I.len]; exact (List.getElem?_eq_some_iff.mp hi).1
  have cne := I.cne
  have tracked : ∀ {a : Addr} {h' : Heap}, (∃ o, s.heap.get? a = some o ∧ H a = none) → Heap.SameBut a s.heap h' → HOk X.prog X.w H h' := fun {a h'} ha hs b ob e => by
    obtain ⟨_, _, hfree⟩ := ha
    refine (I.hok b ob e).stay (fun c w' hc q => (hs.2 c ?_).trans q) (fun _ q => q) fun _ _ q => q
    rintro rfl
    rcases hc with rfl | hc
    · rw [hfree] at e; cases e
    · rw [hfree] at hc; cases hc
  rcases hx with hk | hk
  · refine wpAny_storeName_local hk hn (fun h' hn' hs => ?_) hcls
    obtain ⟨oL, _, _, hoL, _⟩ := id hn
    refine h _ ⟨I.ok, I.os, I.bare, ⟨fun b o e n hb hx => ?_, fun b o e n hb hx => ?_, I.base.free, fun b o e hx => ?_, I.base.tups, I.base.frzs, I.base.tbls⟩, ⟨_, hn', fun j y v' e1 e2 e3 => ?_⟩, fun y c e => ?_, I.free, I.freeC, fun p hp => ?_, tracked ⟨oL, hoL, I.free⟩ hs, by simpa using I.len⟩ ⟨_, hs, .inl rfl⟩
    · exact (hs.2 b (Nat.ne_of_lt (Nat.lt_of_lt_of_le (Heap.lt_size e) I.ok.above))).trans (I.base.keep b o e n hb hx)
    · obtain ⟨sl, e1⟩ := I.base.slot b o e n hb hx
      exact ⟨sl, (hs.2 b (Nat.ne_of_lt (Nat.lt_of_lt_of_le (Heap.lt_size e) I.ok.above))).trans e1⟩
    · obtain ⟨o', e1⟩ := I.base.there b o e hx
      exact ⟨o', (hs.2 b (Nat.ne_of_lt (Nat.lt_of_lt_of_le (Heap.lt_size e) I.ok.above))).trans e1⟩
    · by_cases hj : j = i
      · subst hj
        rw [hi] at e1; cases e1
        rw [List.getElem?_set_self hiσ] at e2
        cases e2
        exact ⟨u, r, .inl ⟨hk, by simp⟩⟩
      · rw [List.getElem?_set_ne (Ne.symm hj)] at e2
        obtain ⟨u', r', q⟩ := hl j y v' e1 e2 e3
        refine ⟨u', r', ?_⟩
        rcases q with ⟨k, e⟩ | ⟨k, c, e, z⟩
        · refine .inl ⟨k, ?_⟩
          have : y ≠ x := fun e => hj (nodup_ix hN e1 (e ▸ hi))
          simp [this, e]
        · exact .inr ⟨k, c, e, z.sameBut hs (cne y c e)⟩
    · obtain ⟨w', z⟩ := I.cell y c e
      exact ⟨w', z.sameBut hs (cne y c e)⟩
    · obtain ⟨e, n, ne, nf, d⟩ := I.pin p hp
      exact ⟨(hs.2 p.1 ne).trans e, n, ne, nf, d⟩
  · have hfn : X.fn x = true := by
      rcases hf with z | z
      · exact z
      · rw [z] at hk; cases hk
    obtain ⟨c, hc⟩ := I.ok.has x (.inl hk)
    obtain ⟨w', z⟩ := I.cell x c hc
    refine wpAny_storeName_cell I.ok.kind hk hc z (fun h' hc' hs => ?_)
    obtain ⟨oc, hoc, hocd⟩ := id z
    refine h { s with heap := h' } ⟨I.ok, I.os, I.bare, ⟨fun b o e n hb hx => ?_, fun b o e n hb hx => ?_, I.base.free, fun b o e hx => ?_, I.base.tups, I.base.frzs, I.base.tbls⟩, ⟨m, hn.sameBut hs (Ne.symm (cne x c hc)), fun j y v' e1 e2 e3 => ?_⟩, fun y c' e => ?_, I.free, I.freeC, fun p hp => ?_, tracked ⟨oc, hoc, I.freeC x c hc⟩ hs, by simpa using I.len⟩ ⟨c, hs, .inr hc⟩
    · exact (hs.2 b (Nat.ne_of_lt (Nat.lt_of_lt_of_le (Heap.lt_size e) (I.ok.cab x c hfn hc)))).trans (I.base.keep b o e n hb hx)
    · obtain ⟨sl, e1⟩ := I.base.slot b o e n hb hx
      exact ⟨sl, (hs.2 b (Nat.ne_of_lt (Nat.lt_of_lt_of_le (Heap.lt_size e) (I.ok.cab x c hfn hc)))).trans e1⟩
    · obtain ⟨o', e1⟩ := I.base.there b o e hx
      exact ⟨o', (hs.2 b (Nat.ne_of_lt (Nat.lt_of_lt_of_le (Heap.lt_size e) (I.ok.cab x c hfn hc)))).trans e1⟩
    · by_cases hj : j = i
      · subst hj
        rw [hi] at e1; cases e1
        rw [List.getElem?_set_self hiσ] at e2
        cases e2
        exact ⟨u, r, .inr ⟨.inl hk, c, hc, hc'⟩⟩
      · rw [List.getElem?_set_ne (Ne.symm hj)] at e2
        obtain ⟨u', r', q⟩ := hl j y v' e1 e2 e3
        refine ⟨u', r', ?_⟩
        rcases q with q | ⟨k, c', e, z'⟩
        · exact .inl q
        · refine .inr ⟨k, c', e, z'.sameBut hs ?_⟩
          rintro rfl
          exact hj (nodup_ix hN e1 (I.ok.inj _ _ _ e hc ▸ hi))
    · by_cases hcc : c' = c
      · subst hcc; exact ⟨_, hc'⟩
      · obtain ⟨w2, z2⟩ := I.cell y c' e
        exact ⟨w2, z2.sameBut hs hcc⟩
    · obtain ⟨e, n, ne, nf, d⟩ := I.pin p hp
      refine ⟨(hs.2 p.1 ?_).trans e, n, ne, nf, d⟩
      intro q
      rw [q, hoc] at e
      have q' : oc = p.2 := Option.some.inj e
      exact d w' (by rw [← q']; exact hocd)
theorem store_ok {M : Model} {A : Around} {E : Value → Shared → Prop} {i : Nat} {x : Str} {v : V} {u : Value} {Q : Unit → Shared → Prop} (I : Inv X pins σ H s) (hN : X.N.Nodup) (hi : X.N[i]? = some x) (hx : Loc X.env.scope x) (r : RelV v u)
    (h : ∀ s', Inv X pins (σ.set i (some v)) H s' → Q () s') (hf : X.fn x = true ∨ X.env.scope.names.lookup x = some .local := by first | exact .inl rfl | exact .inr rfl | assumption) : wpAny M A (storeName X.env x u) Q E s :=
  store_ok2 I hN hi hx r (fun s' I' _ => h s' I') hf
theorem Inv.call' {s' : Shared} {ch : List Addr} (I : Inv X pins σ H s) (ho : s'.os = s.os) (u : Un (frs X.stack) ch H H' s.heap s'.heap) (hok : HOk X.prog X.w H' s'.heap) (hg : AllBare s'.gens)
    (hch : ∀ b ∈ ch, (b ∈ X.ex ∨ X.s₀.heap.objs.size ≤ b) ∧ b ≠ X.env.locals ∧ (∀ x c, X.env.cells.lookup x = some c → c ≠ b) ∧ ∀ p ∈ X.pn ++ pins, p.1 ≠ b) : Inv X pins σ H' s' := by
  obtain ⟨h', g', d', t', o'⟩ := s'
  have e : o' = s.os := ho
  subst e
  exact I.call (g' := g') (t' := t') (d' := d') u hok hg hch
end
abbrev XK := Value → Option Addr → Hp → Prop
abbrev St := List (Option V)
abbrev VK := V → Hp → Prop
abbrev TE := St → Hp → VK → Prop
abbrev TT := St → Hp → (Bool → Hp → Prop) → Prop
abbrev TA := St → Hp → (List V → Hp → Prop) → Prop
structure Ends where
  nx : St → Hp → Prop
  rt : VK
  bk : St → Hp → Prop := fun _ _ => False
  ct : St → Hp → Prop := fun _ _ => False
abbrev TS := Ends → St → Hp → Prop
def EP (X : Cx) (pins : List (Addr × Obj)) (σ : St) (Q : VK) (u : Value) (s' : Shared) : Prop := ∃ v H', Inv X pins σ H' s' ∧ RelV v u ∧ Q v H'
def TP (X : Cx) (pins : List (Addr × Obj)) (σ : St) (Q : Bool → Hp → Prop) (b : Bool) (s' : Shared) : Prop := ∃ H', Inv X pins σ H' s' ∧ Q b H'
def AP (X : Cx) (pins : List (Addr × Obj)) (σ : St) (Q : List V → Hp → Prop) (us : List Value) (s' : Shared) : Prop := ∃ vs H', Inv X pins σ H' s' ∧ Vals vs us ∧ Q vs H'
def SP (X : Cx) (pins : List (Addr × Obj)) (D : Ends) (f : Flow) (s' : Shared) : Prop :=
  match f with
  | .next => ∃ σ' H', Inv X pins σ' H' s' ∧ D.nx σ' H'
  | .brk => ∃ σ' H', Inv X pins σ' H' s' ∧ D.bk σ' H'
  | .cont => ∃ σ' H', Inv X pins σ' H' s' ∧ D.ct σ' H'
  | .ret u => ∃ v σ' H', Inv X pins σ' H' s' ∧ RelV v u ∧ D.rt v H'
def PE (X : Cx) (e : Expr) (t : TE) : Prop :=
  ∀ (pins : List (Addr × Obj)) (s : Shared) (σ : St) (H : Hp) (Q : VK), Inv X pins σ H s → t σ H Q → wpAny (model X.prog X.w) X.A (eval e X.env) (EP X pins σ Q) X.xe s
def PT (X : Cx) (e : Expr) (t : TT) : Prop :=
  ∀ (pins : List (Addr × Obj)) (s : Shared) (σ : St) (H : Hp) (Q : Bool → Hp → Prop), Inv X pins σ H s → t σ H Q → wpAny (model X.prog X.w) X.A (isTrue e X.env (eval e X.env)) (TP X pins σ Q) X.xe s
def PW (X : Cx) (e : Expr) (t : TT) : Prop :=
  ∀ (whole : Sem Value) (pins : List (Addr × Obj)) (s : Shared) (σ : St) (H : Hp) (Q : Bool → Hp → Prop), Inv X pins σ H s → t σ H Q → wpAny (model X.prog X.w) X.A (isTrue e X.env whole) (TP X pins σ Q) X.xe s
theorem PW.pt {X : Cx} {e : Expr} {t : TT} (h : PW X e t) : PT X e t := h _
def PA (X : Cx) (es : List Expr) (t : TA) : Prop :=
  ∀ (pos : Pos) (pins : List (Addr × Obj)) (s : Shared) (σ : St) (H : Hp) (Q : List V → Hp → Prop), Inv X pins σ H s → t σ H Q → wpAny (model X.prog X.w) X.A (spliced (backTo pos (starEach es X.env))) (AP X pins σ Q) X.xe s
def PS (X : Cx) (st : Stmt) (t : TS) : Prop :=
  ∀ (pins : List (Addr × Obj)) (s : Shared) (σ : St) (H : Hp) (D : Ends), Inv X pins σ H s → t D σ H → wpAny (model X.prog X.w) X.A (exec st X.env) (SP X pins D) X.xe s
def PSs (X : Cx) (st : List Stmt) (t : TS) : Prop :=
  ∀ (pins : List (Addr × Obj)) (s : Shared) (σ : St) (H : Hp) (D : Ends), Inv X pins σ H s → t D σ H → wpAny (model X.prog X.w) X.A (execs st X.env) (SP X pins D) X.xe s
theorem thn {α : Type} {t : Sem α} {Q Q' : α → Shared → Prop} {M : Model} {A : Around} {E : Value → Shared → Prop} {s : Shared} (h : wpAny M A t Q E s) (hQ : ∀ a s, Q a s → Q' a s) : wpAny M A t Q' E s := wpAny_mono h hQ fun _ _ x => x
end L2
namespace L2
open PySem PySem.Spec PyProof.Rows
section
variable {X : Cx}
def tVar (i : Nat) : TE := fun σ H Q => ∃ v, σ[i]? = some (some v) ∧ Q v H
def tC (v : V) : TE := fun _ H Q => Q v H
theorem pe_var {i : Nat} {x : Str} {pos : Pos} (hN : X.N[i]? = some x) (hv : Vis X.env.scope x) (hd : (x == ("__debug__" : Str)) = false := by decide) (hcd : (x == ("__classdict__" : Str)) = false := by decide) : PE X (.Name x pos) (tVar i) := by
  intro pins s σ H Q I h
  obtain ⟨v, e, h⟩ := h
  obtain ⟨m, hn, hl⟩ := I.loc
  obtain ⟨u, r, l⟩ := hl i x v hN e hv
  have fin : EP X pins σ Q u s := ⟨v, H, I, r, h⟩
  rcases l with ⟨hk, hm⟩ | ⟨hk, c, hc, hcell⟩
  · exact wpAny_Name (wpAny_loadName_local I.ok.kind hk hn hm fin) hd
  · rcases hk with hk | hk
    · exact wpAny_Name (wpAny_loadName_cell I.ok.kind hk hc hcell fin) hd
    · exact wpAny_Name (wpAny_loadName_free I.ok.kind hk hc hcell fin hcd) hd
theorem pe_int {i j pos} : PE X (.Constant (.int i) j pos) (tC (.int i)) := fun _ _ _ H _ I h => wpAny_Constant_int ⟨.int i, H, I.tok _, ⟨_, rfl⟩, h⟩
theorem pe_bl {b j pos} : PE X (.Constant (.bool b) j pos) (tC (.bl b)) := fun _ _ _ H _ I h => Constant_bool ⟨.bl b, H, I, rfl, h⟩
def Gl (X : Cx) (x : Str) : Prop := X.env.kindOf x = some .globalImplicit
theorem ld_glob {E : Value → Shared → Prop} {pins : List (Addr × Obj)} {s : Shared} {σ : St} {H : Hp} {x : Str} {u : Value} {pos : Pos} {Q : Value → Shared → Prop} (I : Inv X pins σ H s) (hg : Gl X x) (hm : X.mg x = some u) (h : Q u s)
    (hd : (x == ("__debug__" : Str)) = false := by decide) : wpAny (model X.prog X.w) X.A (eval (.Name x pos) X.env) Q E s :=
  Calls.Name_function_global I.ok.kind hg (Calls.loadGlobal_global (by rw [I.ok.glob]; exact I.mod.glob.keeps I.bk) hm h) hd
theorem ld_blt {E : Value → Shared → Prop} {pins : List (Addr × Obj)} {s : Shared} {σ : St} {H : Hp} {x : Str} {u : Value} {pos : Pos} {Q : Value → Shared → Prop} (I : Inv X pins σ H s) (hg : Gl X x) (hm : X.mg x = none) (hv : bootBuiltins x = some u) (h : Q u s)
    (hn : x ≠ "__name__" := by decide) (hd : (x == ("__debug__" : Str)) = false := by decide) : wpAny (model X.prog X.w) X.A (eval (.Name x pos) X.env) Q E s := by
  obtain ⟨mb, h1, h2⟩ := I.mod.blt
  exact Calls.Name_function_global I.ok.kind hg (Calls.loadGlobal_builtin (by rw [I.ok.glob]; exact I.mod.glob.keeps I.bk) hm (by rw [I.ok.blt]; exact h1.keeps I.bk) ((h2 x hn).trans hv) h) hd
theorem pe_bltn {x : Str} {v : V} {u : Value} {pos : Pos} (hg : Gl X x) (hm : X.mg x = none) (hv : bootBuiltins x = some u) (r : RelV v u) (hn : x ≠ "__name__" := by decide) (hd : (x == ("__debug__" : Str)) = false := by decide) : PE X (.Name x pos) (tC v) :=
  fun _ _ _ H _ I h => ld_blt I hg hm hv ⟨v, H, I, r, h⟩ hn hd
variable {a b : Expr} {ta tb : TE} {pos : Pos}
def tB (t : TE) : TT := fun σ H Q => t σ H fun x H1 => ∃ c, x = .bl c ∧ Q c H1
theorem pt_val {e : Expr} {t : TE} (h : PE X e t) (he : ∀ whole, isTrue e X.env whole = (do let v ← whole; standAt e.pos; holding [v] (truthy v)) := by intro _; rfl) : PT X e (tB t) := by
  intro pins s σ H Q I hw
  refine isTrue_plain (thn (h pins s σ H _ I hw) fun v s1 ⟨x, H1, I1, r1, q1⟩ => ?_) (he _)
  obtain ⟨d, rfl, q⟩ := q1
  cases r1
  exact wpAny_truthy_bool ⟨H1, I1, q⟩
variable {tA tB' : TT} {rest : List Expr}
def tAnd (t u : TT) : TT := fun σ H Q => t σ H fun c H1 => if c = true then u σ H1 Q else Q false H1
def tOr (t u : TT) : TT := fun σ H Q => t σ H fun c H1 => if c = true then Q true H1 else u σ H1 Q
def tNot (t : TT) : TT := fun σ H Q => t σ H fun c H1 => Q (!c) H1
theorem pw_and1 (ha : PT X a tA) : PW X (.BoolOp .And [a] pos) tA := by
  intro wh pins s σ H Q I h
  refine isTrue_and (thn (ha pins s σ H Q I h) fun c s1 e => ?_)
  cases c with
  | true => exact isTrue_and_nil e
  | false => exact e
theorem pw_or1 (ha : PT X a tA) : PW X (.BoolOp .Or [a] pos) tA := by
  intro wh pins s σ H Q I h
  refine isTrue_or (thn (ha pins s σ H Q I h) fun c s1 e => ?_)
  cases c with
  | false => exact isTrue_or_nil e
  | true => exact e
theorem pw_and (ha : PT X a tA) (hb : PW X (.BoolOp .And (b :: rest) pos) tB') : PW X (.BoolOp .And (a :: b :: rest) pos) (tAnd tA tB') := by
  intro wh pins s σ H Q I h
  refine isTrue_and (thn (ha pins s σ H _ I h) fun c s1 ⟨H1, I1, q1⟩ => ?_)
  cases c with
  | true => exact hb wh pins s1 σ H1 Q I1 q1
  | false => exact ⟨H1, I1, q1⟩
theorem pw_or (ha : PT X a tA) (hb : PW X (.BoolOp .Or (b :: rest) pos) tB') : PW X (.BoolOp .Or (a :: b :: rest) pos) (tOr tA tB') := by
  intro wh pins s σ H Q I h
  refine isTrue_or (thn (ha pins s σ H _ I h) fun c s1 ⟨H1, I1, q1⟩ => ?_)
  cases c with
  | true => exact ⟨H1, I1, q1⟩
  | false => exact hb wh pins s1 σ H1 Q I1 q1
theorem pt_not (ha : PT X a tA) : PT X (.UnaryOp .Not a pos) (tNot tA) := by
  intro pins s σ H Q I h
  exact isTrue_not (ha pins s σ H (fun c H1 => Q (!c) H1) I h)
def tAndV (ta tb : TE) : TE := fun σ H Q => ta σ H fun x H1 => ∃ c, x = .bl c ∧ if c = true then tb σ H1 Q else Q (.bl false) H1
def tNotV (ta : TE) : TE := fun σ H Q => ta σ H fun x H1 => ∃ c, x = .bl c ∧ Q (.bl (!c)) H1
theorem pe_one {op} {t : TE} (h : PE X a t) : PE X (.BoolOp op [a] pos) t := fun pins s σ H Q I hw => BoolOp_one (h pins s σ H Q I hw)
theorem pe_and (ha : PE X a ta) (hb : PE X (.BoolOp .And (b :: rest) pos) tb) : PE X (.BoolOp .And (a :: b :: rest) pos) (tAndV ta tb) := by
  intro pins s σ H Q I h
  refine BoolOp_and (thn (ha pins s σ H _ I h) fun v s1 ⟨x, H1, I1, r1, q1⟩ => ?_)
  obtain ⟨c, rfl, q1⟩ := q1
  cases r1
  refine wpAny_truthy_bool ?_
  cases c with
  | true => exact hb pins s1 σ H1 Q I1 q1
  | false => exact ⟨.bl false, H1, I1, rfl, q1⟩
theorem pe_not (ha : PE X a ta) : PE X (.UnaryOp .Not a pos) (tNotV ta) := by
  intro pins s σ H Q I h
  refine UnaryOp_ (thn (ha pins s σ H _ I h) fun v s1 ⟨x, H1, I1, r1, q1⟩ => ?_)
  obtain ⟨c, rfl, q1⟩ := q1
  cases r1
  exact not_of (wpAny_truthy_bool ⟨.bl (!c), H1, I1, rfl, q1⟩)
def tIf (t : TT) (ta tb : TE) : TE := fun σ H Q => t σ H fun c H1 => if c = true then ta σ H1 Q else tb σ H1 Q
theorem pe_ifExp {c : Expr} (hc : PT X c tA) (ha : PE X a ta) (hb : PE X b tb) : PE X (.IfExp c a b pos) (tIf tA ta tb) := by
  intro pins s σ H Q I h
  refine wpAny_IfExp (thn (hc pins s σ H _ I h) fun d s1 ⟨H1, I1, q1⟩ => ?_)
  cases d with
  | true => exact ha pins s1 σ H1 Q I1 q1
  | false => exact hb pins s1 σ H1 Q I1 q1
end
end L2
namespace L2
open PySem PySem.Spec PyProof.Rows
def SqL (K : PySem.W.Frag) (H : Hp) (a : Addr) (xs : List V) : Prop :=
  Rd H a (.lst xs) ∨
    ∃ (o : Obj) (its : Array Value) (n : Nat), K.lookup a = some o ∧ o.cls = .type "list" ∧ o.dict = none ∧ o.data = .seq its n ∧ its.size ≤ sizeLine ∧ Vals xs its.toList
def SqT (K : PySem.W.Frag) (H : Hp) (a : Addr) (xs : List V) : Prop :=
  Rd H a (.tup xs) ∨
    ∃ (o : Obj) (its : Array Value) (n : Nat), K.lookup a = some o ∧ o.cls = .type "tuple" ∧ o.data = .seq its n ∧ its.size ≤ sizeLine ∧ Vals xs its.toList
def absV : Value → Option V
  | .none => some .non
  | .bool b => some (.bl b)
  | .int i _ => some (.int i)
  | .str x _ => some (.str x)
  | .bytes b _ => some (.byt b)
  | .float b _ => some (.flt b)
  | .ref a => some (.ref a)
  | .type n => some (.ty n)
  | _ => none
theorem RelV.abs {x : V} {u : Value} (r : RelV x u) : absV u = some x := by
  cases x with
  | non => cases r; rfl
  | bl _ => cases r; rfl
  | int _ => obtain ⟨t, rfl⟩ := r; rfl
  | str _ => obtain ⟨t, rfl⟩ := r; rfl
  | byt _ => obtain ⟨t, rfl⟩ := r; rfl
  | flt _ => obtain ⟨t, rfl⟩ := r; rfl
  | ref _ => cases r; rfl
  | ty _ => cases r; rfl
theorem RelV.inj {x y : V} {u : Value} (r : RelV x u) (q : RelV y u) : x = y := Option.some.inj (r.abs.symm.trans q.abs)
theorem Vals.inj : ∀ {xs ys : List V} {us : List Value}, Vals xs us → Vals ys us → xs = ys
  | _, _, _, .nil, .nil => rfl
  | _, _, _, .cons r t, .cons r' t' => by rw [r.inj r', Vals.inj t t']
section
variable {X : Cx} {pins : List (Addr × Obj)} {σ : St} {H : Hp} {s : Shared} {a : Addr} {xs ys : List V}
theorem SqL.of {K : PySem.W.Frag} (h : H a = some (.lst xs)) : SqL K H a xs := .inl (.inl h)
theorem SqT.of {K : PySem.W.Frag} (h : H a = some (.tup xs)) : SqT K H a xs := .inl (.inl h)
theorem Inv.list (I : Inv X pins σ H s) (h : SqL X.K H a xs) : ∃ its : List Value, Vals xs its ∧ PlainL s.heap a its.toArray ∧ xs.length ≤ sizeLine := by
  rcases h with h | ⟨o, its, n, hk, hc, hd, hs, hz, r⟩
  · obtain ⟨z, its, n, r, e⟩ := h.ok I.hok
    exact ⟨its, r, ⟨_, n, e, rfl, rfl, rfl⟩, z⟩
  · refine ⟨its.toList, r, ⟨o, n, I.kIn a o hk, hc, hd, by simpa using hs⟩, ?_⟩
    have e := r.length
    simp only [Array.length_toList] at e
    omega
theorem Inv.tuple (I : Inv X pins σ H s) (h : SqT X.K H a xs) : ∃ its : List Value, Vals xs its ∧ IsTup s.heap a its.toArray ∧ xs.length ≤ sizeLine := by
  rcases h with h | ⟨o, its, n, hk, hc, hs, hz, r⟩
  · obtain ⟨z, its, r, p⟩ := h.ok I.hok
    exact ⟨its, r, p, z⟩
  · refine ⟨its.toList, r, ⟨o, I.kIn a o hk, hc, n, by simpa using hs⟩, ?_⟩
    have e := r.length
    simp only [Array.length_toList] at e
    omega
theorem Inv.list_inj (I : Inv X pins σ H s) (h : SqL X.K H a xs) (h' : SqL X.K H a ys) : xs = ys := by
  obtain ⟨its, r, ⟨o, n, e, _, _, d⟩, _⟩ := I.list h
  obtain ⟨its', r', ⟨o', n', e', _, _, d'⟩, _⟩ := I.list h'
  rw [e] at e'; cases e'
  rw [d] at d'
  injection d' with d1 _
  have : its = its' := by simpa using congrArg Array.toList d1
  subst this
  exact r.inj r'
end
abbrev Cx.wish (X : Cx) (E : Value → Shared → Prop) : Cx := { X with xe := E }
abbrev Cx.nox (X : Cx) : Cx := X.wish fun _ _ => False
theorem Cx.Ok.wish {X : Cx} (ok : X.Ok) (E : Value → Shared → Prop) : (X.wish E).Ok :=
  ⟨ok.mod, ok.kind, ok.glob, ok.blt, ok.above, ok.inj, ok.has, ok.cab, ok.hd, ok.frames, ok.stk, ok.exf, ok.bs, ok.bsz, ok.noex, ok.exfs, ok.funs, ok.frf⟩
theorem Cx.Ok.unwish {X : Cx} {E : Value → Shared → Prop} (ok : (X.wish E).Ok) : X.Ok :=
  ⟨ok.mod, ok.kind, ok.glob, ok.blt, ok.above, ok.inj, ok.has, ok.cab, ok.hd, ok.frames, ok.stk, ok.exf, ok.bs, ok.bsz, ok.noex, ok.exfs, ok.funs, ok.frf⟩
section
variable {X : Cx} {pins : List (Addr × Obj)} {σ : St} {H : Hp} {s : Shared} {E : Value → Shared → Prop}
theorem Inv.wish (I : Inv X pins σ H s) (E : Value → Shared → Prop) : Inv (X.wish E) pins σ H s := ⟨I.ok.wish E, I.os, I.bare, I.base, I.loc, I.cell, I.free, I.freeC, I.pin, I.hok, I.len⟩
theorem Inv.unwish (I : Inv (X.wish E) pins σ H s) : Inv X pins σ H s := ⟨I.ok.unwish, I.os, I.bare, I.base, I.loc, I.cell, I.free, I.freeC, I.pin, I.hok, I.len⟩
theorem SP.unwish {D : Ends} {f : Flow} {s' : Shared} (h : SP (X.wish E) pins D f s') : SP X pins D f s' := by
  cases f with
  | next => obtain ⟨σ', H', I, q⟩ := h; exact ⟨σ', H', I.unwish, q⟩
  | brk => obtain ⟨σ', H', I, q⟩ := h; exact ⟨σ', H', I.unwish, q⟩
  | cont => obtain ⟨σ', H', I, q⟩ := h; exact ⟨σ', H', I.unwish, q⟩
  | ret u => obtain ⟨v, σ', H', I, r, q⟩ := h; exact ⟨v, σ', H', I.unwish, r, q⟩
theorem PSs.nox {st : List Stmt} {t : TS} (h : PSs X.nox st t) : PSs X st t := fun pins s σ H D I hw =>
  wpAny_mono (h pins s σ H D (I.wish _) hw) (fun _ _ q => q.unwish) fun _ _ z => False.elim z
end
section
variable {X : Cx} {st : Stmt} {rest : List Stmt} {t u : TS} {e : Expr} {te : TE} {pos : Pos}
def tNext : TS := fun D σ H => D.nx σ H
def tSeq (t u : TS) : TS := fun D σ H => t { D with nx := u D } σ H
theorem pss_nil : PSs X [] tNext := fun _ _ σ H _ I h => wpAny_execs_nil ⟨σ, H, I, h⟩
theorem pss_cons (h1 : PS X st t) (h2 : PSs X rest u) : PSs X (st :: rest) (tSeq t u) := by
  intro pins s σ H D I h
  refine wpAny_execs_cons (thn (h1 pins s σ H { D with nx := u D } I h) fun f s1 q => ?_)
  cases f with
  | next =>
    obtain ⟨σ', H', I', q⟩ := q
    exact h2 pins s1 σ' H' D I' q
  | ret v => exact q
  | brk => exact q
  | cont => exact q
theorem pss_one (h1 : PS X st t) : PSs X [st] t := by
  intro pins s σ H D I h
  refine wpAny_execs_cons (thn (h1 pins s σ H D I h) fun f s1 q => ?_)
  cases f with
  | next => exact wpAny_execs_nil q
  | ret v => exact q
  | brk => exact q
  | cont => exact q
theorem Inv.quiet {pins : List (Addr × Obj)} {σ : St} {H : Hp} {s : Shared} (I : Inv X pins σ H s) : interactive X.env = false := by simp [interactive, I.ok.kind]
def tDrop (te : TE) : TS := fun D σ H => te σ H fun _ H1 => D.nx σ H1
theorem ps_expr (he : PE X e te) (hs : swapsWith e none pos.line X.env = pure false := by rfl) : PS X (.Expr e pos) (tDrop te) := by
  intro pins s σ H D I h
  exact wpAny_Expr_any (thn (he pins s σ H _ I h) fun v s1 ⟨x, H1, I1, r1, q1⟩ => ⟨σ, H1, I1, q1⟩) I.quiet hs
def tRet (te : TE) : TS := fun D σ H => te σ H D.rt
theorem ps_ret (he : PE X e te) : PS X (.Return (some e) pos) (tRet te) := by
  intro pins s σ H D I h
  exact wpAny_Return_some (thn (he pins s σ H _ I h) fun v s1 ⟨x, H1, I1, r1, q1⟩ => ⟨x, σ, H1, I1, r1, q1⟩)
def tIfS (c : TT) (t u : TS) : TS := fun D σ H => c σ H fun b H1 => if b = true then t D σ H1 else u D σ H1
theorem ps_if {c : Expr} {a b : List Stmt} {tc : TT} (hc : PT X c tc) (ha : PSs X a t) (hb : PSs X b u) : PS X (.If c a b pos) (tIfS tc t u) := by
  intro pins s σ H D I h
  refine wpAny_If (thn (hc pins s σ H _ I h) fun d s1 ⟨H1, I1, q1⟩ => ?_)
  cases d with
  | true => exact ha pins s1 σ H1 D I1 q1
  | false => exact hb pins s1 σ H1 D I1 q1
end
abbrev TG := V → St → Hp → (St → Hp → Prop) → Prop
abbrev TGs := List V → St → Hp → (St → Hp → Prop) → Prop
def PG (X : Cx) (target : Expr) (t : TG) : Prop :=
  ∀ (pins : List (Addr × Obj)) (s : Shared) (σ : St) (H : Hp) (v : V) (u : Value) (Q : St → Hp → Prop), Inv X pins σ H s → RelV v u → t v σ H Q →
    wpAny (model X.prog X.w) X.A (assign target X.env u) (fun _ s' => ∃ σ' H', Inv X pins σ' H' s' ∧ Q σ' H') X.xe s
def PGs (X : Cx) (ts : List Expr) (t : TGs) : Prop :=
  ∀ (pins : List (Addr × Obj)) (s : Shared) (σ : St) (H : Hp) (vs : List V) (us : List Value) (Q : St → Hp → Prop), Inv X pins σ H s → Vals vs us → t vs σ H Q →
    wpAny (model X.prog X.w) X.A (assignInOrder ((assignEach ts X.env).map (·.2)) us) (fun _ s' => ∃ σ' H', Inv X pins σ' H' s' ∧ Q σ' H') X.xe s
section
variable {X : Cx} {pos : Pos}
def gName (i : Nat) : TG := fun v σ H Q => Q (σ.set i (some v)) H
theorem pg_name {i : Nat} {x : Str} (hN : X.N.Nodup) (hi : X.N[i]? = some x) (hx : Loc X.env.scope x) (hf : X.fn x = true ∨ X.env.scope.names.lookup x = some .local := by first | exact .inl rfl | exact .inr rfl | assumption) : PG X (.Name x pos) (gName i) := by
  intro pins s σ H v u Q I r h
  exact wpAny_assign_Name (store_ok I hN hi hx r (fun s' I' => ⟨_, H, I', h⟩) hf)
def gNil : TGs := fun vs σ H Q => vs = [] ∧ Q σ H
def gCons (t : TG) (u : TGs) : TGs := fun vs σ H Q => ∃ v r, vs = v :: r ∧ t v σ H fun σ' H' => u r σ' H' Q
theorem pgs_nil : PGs X [] gNil := by
  intro pins s σ H vs us Q I r h
  obtain ⟨e, h⟩ := h
  subst e
  cases r
  exact assignInOrder_nil ⟨σ, H, I, h⟩
theorem pgs_cons {e : Expr} {es : List Expr} {t : TG} {u : TGs} (h1 : PG X e t) (h2 : PGs X es u)
    (hs : (assignEach (e :: es) X.env).map (·.2) = assign e X.env :: (assignEach es X.env).map (·.2) := by rfl) : PGs X (e :: es) (gCons t u) := by
  intro pins s σ H vs us Q I r h
  obtain ⟨v, vr, e1, h⟩ := h
  subst e1
  cases r with
  | cons r rr =>
    rw [hs]
    refine assignInOrder_cons (thn (h1 pins s σ H _ _ _ I r h) fun _ s1 ⟨σ1, H1, I1, q1⟩ => ?_)
    exact h2 pins s1 σ1 H1 _ _ Q I1 rr q1
def gTup (K : PySem.W.Frag) (n : Nat) (t : TGs) : TG := fun v σ H Q => ∃ a xs, v = .ref a ∧ SqT K H a xs ∧ xs.length = n ∧ t xs σ H Q
theorem pg_tup {es : List Expr} {k : Nat} {t : TGs} {n : Nat} (hc : X.calm = true) (h : PGs X es t)
    (hn : (assignEach es X.env).length = n := by rfl) (hst : (assignEach es X.env).findIdx? (·.1) = none := by rfl) : PG X (.Tuple es k pos) (gTup X.K n t) := by
  intro pins s σ H v u Q I r hw
  obtain ⟨a, xs, e1, hq, hl, hw⟩ := hw
  subst e1
  cases r
  obtain ⟨its, rv, ht, hz⟩ := I.tuple hq
  refine assign_Tuple_tuple (I.ok.hd hc) ht (by simp [hn, ← hl, rv.length]) hst fun h' hx => ?_
  have I1 : Inv X pins σ H { s with heap := h' } := I.kept (t' := s.toks) fun b o e => hx b o (Nat.ne_of_lt (Heap.lt_size e)) e
  exact h pins _ σ H xs _ Q I1 (by simpa using rv) hw
def tAsg (te : TE) (g : TG) : TS := fun D σ H => te σ H fun x H1 => g x σ H1 D.nx
theorem ps_set {i : Nat} {x : Str} {e : Expr} {te : TE} {pos' : Pos} (hN : X.N.Nodup) (hi : X.N[i]? = some x) (hx : Loc X.env.scope x) (he : PE X e te) (hs : swapsWith e (some (.Name x pos')) pos.line X.env = pure false := by rfl) (hf : X.fn x = true ∨ X.env.scope.names.lookup x = some .local := by first | exact .inl rfl | exact .inr rfl | assumption) :
    PS X (.Assign [.Name x pos'] e pos) (tAsg te (gName i)) := by
  intro pins s σ H D I h
  refine wpAny_Assign_Name (thn (he pins s σ H _ I h) fun v s1 ⟨y, H1, I1, r1, q1⟩ => ?_) hs
  exact store_ok I1 hN hi hx r1 (fun s2 I2 => ⟨_, H1, I2, q1⟩) hf
end
section
variable {X : Cx} {pos : Pos}
end
structure It where
  go : Nat → Hp → Prop
  yld : Nat → Hp → V → Hp → Prop
  stop : Nat → Hp → Prop
def FpOk (X : Cx) (pins : List (Addr × Obj)) (H : Hp) (b : Addr) : Prop :=
  H b = none ∧ b ≠ X.env.locals ∧ b ∉ X.fs ∧ (b ∈ X.ex ∨ X.s₀.heap.objs.size ≤ b) ∧ (∀ x c, X.env.cells.lookup x = some c → c ≠ b) ∧ ∀ p ∈ X.pn ++ pins, p.1 ≠ b
theorem Inv.fpOk {X : Cx} {pins : List (Addr × Obj)} {σ : St} {H H' : Hp} {s : Shared} {b : Addr} (I : Inv X pins σ H s) (hb : s.heap.objs.size ≤ b) (hn : H' b = none) : FpOk X pins H' b := by
  refine ⟨hn, Nat.ne_of_gt (Nat.lt_of_lt_of_le I.lt hb), I.nofs hb, .inr (Nat.le_trans I.sz hb), fun x c e z => ?_, fun p hp z => ?_⟩
  · obtain ⟨v, q⟩ := I.cell x c e
    exact absurd (Nat.lt_of_lt_of_le q.lt (by rw [z]; exact hb)) (Nat.lt_irrefl _)
  · exact absurd (Nat.lt_of_lt_of_le (Heap.lt_size (I.pin p hp).1) (by rw [z]; exact hb)) (Nat.lt_irrefl _)
structure Turn (P : Program) (w : World) (K : PySem.W.Frag) (tg : Expr) (J : It) (fp : List Addr) (it : Addr) (tn : Nat → Heap → Prop) : Prop where
  mem : it ∈ fp
  obj : ∀ i h, tn i h → ∀ b ∈ fp, ∃ o, h.get? b = some o ∧ ∀ v, o.data ≠ .cell v
  keep : ∀ i h h', tn i h → (∀ b ∈ fp, ∀ o, h.get? b = some o → h'.get? b = some o) → tn i h'
  item : ∀ (X : Cx), X.prog = P → X.w = w → X.K = K → X.calm = true → ∀ (i : Nat) (pins : List (Addr × Obj)) (s : Shared) (σ : St) (H : Hp) (E : Value → Shared → Prop), Inv X pins σ H s → (∀ b ∈ fp, FpOk X pins H b) → tn i s.heap → J.go i H →
    wpAny (model P w) X.A (pyNext (.ref it)) (fun r s1 => ∃ u, r = some u ∧
      wpAny (model P w) X.A (letOwnedTupleGo tg (.ref it) u) (fun _ s2 => ∃ x H', Inv X pins σ H' s2 ∧ RelV x u ∧ J.yld i H x H' ∧ tn (i + 1) s2.heap ∧ ∀ b ∈ fp, H' b = none) E s1) E s
  done : ∀ (X : Cx), X.prog = P → X.w = w → X.K = K → X.calm = true → ∀ (i : Nat) (pins : List (Addr × Obj)) (s : Shared) (σ : St) (H : Hp) (E : Value → Shared → Prop), Inv X pins σ H s → (∀ b ∈ fp, FpOk X pins H b) → tn i s.heap → J.stop i H →
    wpAny (model P w) X.A (pyNext (.ref it)) (fun r s1 => r = none ∧ Inv X pins σ H s1) E s
  self : ∀ (A : Around) (i : Nat) (s : Shared) (Q : Value → Shared → Prop) (E : Value → Shared → Prop), tn i s.heap → Q (.ref it) s → wpAny (model P w) A (pyIter (.ref it)) Q E s
abbrev TI := St → Hp → (It → Hp → Prop) → Prop
def PIE (X : Cx) (pins : List (Addr × Obj)) (σ : St) (tg : Expr) (R : It → Hp → Prop) (itv : Value) (s2 : Shared) : Prop :=
  ∃ (it : Addr) (fp : List Addr) (tn : Nat → Heap → Prop) (J : It) (H' : Hp), itv = .ref it ∧ Inv X pins σ H' s2 ∧ Turn X.prog X.w X.K tg J fp it tn ∧ tn 0 s2.heap ∧ (∀ b ∈ fp, FpOk X pins H' b) ∧ R J H'
def PI (X : Cx) (tg iter : Expr) (wi : TI) : Prop :=
  ∀ (pins : List (Addr × Obj)) (s : Shared) (σ : St) (H : Hp) (R : It → Hp → Prop), Inv X pins σ H s → wi σ H R →
    wpAny (model X.prog X.w) X.A (eval iter X.env) (fun v s1 => wpAny (model X.prog X.w) X.A (pyIter v) (PIE X pins σ tg R) X.xe s1) X.xe s
theorem go_of {M : Model} {A : Around} {E : Value → Shared → Prop} {s : Shared} {tg : Expr} {it : Addr} {u : Value} {o : Obj} {n : String} {vs : Array Value} {Q : Unit → Shared → Prop} (ho : s.heap.get? it = some o) (hc : o.cls = .type n) (hd : o.data = .fields vs)
    (hn : ["enumerate", "zip", "dict_itemiterator", "dict_reverseitemiterator", "odict_iterator", "itertools.zip_longest", "itertools.pairwise"].contains n = false) (hQ : Q () s) : wpAny M A (letOwnedTupleGo tg (.ref it) u) Q E s := by
  unfold letOwnedTupleGo
  cases tg <;> first
    | exact wpAny_pure hQ
    | (cases u <;> first
        | exact wpAny_pure hQ
        | (refine wpAny_bind (wpAny_load ho ?_)
           rw [hc, hd]
           show wpAny M A (if (["enumerate", "zip", "dict_itemiterator", "dict_reverseitemiterator", "odict_iterator", "itertools.zip_longest", "itertools.pairwise"].contains n && vs[0]? == some (rawInt _)) = true then _ else _) Q E s
           rw [if_neg (by intro h; rw [hn, Bool.false_and] at h; cases h)]
           exact wpAny_pure hQ))
def Itl (K : PySem.W.Frag) (a : Addr) : It :=
  ⟨fun i H => ∃ xs x, SqL K H a xs ∧ xs[i]? = some x, fun i H x H' => H' = H ∧ ∀ xs, SqL K H a xs → xs[i]? = some x, fun i H => ∃ xs, SqL K H a xs ∧ xs.length ≤ i⟩
def Itr (lo : Int) (n : Nat) : It := ⟨fun i _ => i < n, fun i H x H' => H' = H ∧ x = .int (lo + i), fun i _ => n ≤ i⟩
theorem turn_list {P : Program} {w : World} {K : PySem.W.Frag} {tg : Expr} (a it : Addr) : Turn P w K tg (Itl K a) [it] it (fun i h => h.IsListIter it a i) where
  mem := by simp
  obj := fun i h st b hb => by
    have e : b = it := by simpa using hb
    subst e
    obtain ⟨o, e, c, d⟩ := st
    exact ⟨o, e, fun v z => by rw [d] at z; cases z⟩
  keep := fun i h h' st k => st.at fun o e => k it (by simp) o e
  item := by
    intro X hP hw hK hc i pins s σ H E I hf st hg
    subst hP hw hK
    obtain ⟨xs, x, hq, hx⟩ := hg
    obtain ⟨its, rv, p, hz⟩ := I.list hq
    obtain ⟨u, hu, ru⟩ := rv.get hx
    obtain ⟨f0, f1, f2, f3, f4, f5⟩ := hf it (by simp)
    refine wpAny_pyNext_list_item st p.isList (x := u) (by simpa using hu) fun h' st' sb => ?_
    have I1 : Inv X pins σ H { s with heap := h' } := I.turned (t' := s.toks) (fun b o hb e => (sb.2 b hb).trans e) f0 f1 f3 f4 f5
    obtain ⟨o, e, c, d⟩ := id st'
    exact ⟨u, rfl, go_of (s := { s with heap := h' }) e c d (by decide) ⟨x, H, I1, ru, ⟨rfl, fun ys hy => by rw [I.list_inj hy hq]; exact hx⟩, st', fun b hb => (hf b hb).1⟩⟩
  done := by
    intro X hP hw hK hc i pins s σ H E I hf st hg
    subst hP hw hK
    obtain ⟨xs, hq, hx⟩ := hg
    obtain ⟨its, rv, p, hz⟩ := I.list hq
    obtain ⟨f0, f1, f2, f3, f4, f5⟩ := hf it (by simp)
    have hl := rv.length
    exact wpAny_pyNext_list_end (I.ok.hd hc) st p.isList (by simp; omega) fun h' eb => ⟨rfl, I.turned (t' := s.toks) (fun b o hb e => eb b o hb e) f0 f1 f3 f4 f5⟩
  self := fun _ _ _ _ _ st h => wpAny_pyIter_listiter st h
theorem turn_range {P : Program} {w : World} {K : PySem.W.Frag} {tg : Expr} (it : Addr) (lo : Int) (n : Nat) : Turn P w K tg (Itr lo n) [it] it (fun i h => IsRangeIter h it (lo + (i : Nat) * 1) ((n : Int) - (i : Nat)) 1) where
  mem := by simp
  obj := fun i h st b hb => by
    have e : b = it := by simpa using hb
    subst e
    exact ⟨_, st, fun v z => by
      have z' : Data.fields _ = Data.cell v := z
      cases z'⟩
  keep := fun i h h' st k => k it (by simp) _ st
  item := by
    intro X hP hw hK hc i pins s σ H E I hf st hg
    subst hP hw hK
    obtain ⟨f0, f1, f2, f3, f4, f5⟩ := hf it (by simp)
    have W := Walks.range (prog := X.prog) (w := X.w) (I.ok.hd hc) it lo 1 n
    refine W.item i s _ _ hg st fun v h' tk hv st' kk => ?_
    obtain ⟨t, rfl⟩ := hv
    have I1 : Inv X pins σ H { s with heap := h', toks := tk } := I.turned (fun b o hb e => kk b o (by simpa using hb) e) f0 f1 f3 f4 f5
    refine ⟨_, rfl, go_of (s := { s with heap := h', toks := tk }) (n := "range_iterator") st' rfl rfl (by decide) ⟨.int (lo + i), H, I1, ⟨t, ?_⟩, ⟨rfl, rfl⟩, st', fun b hb => (hf b hb).1⟩⟩
    rw [Int.mul_one]
  done := by
    intro X hP hw hK hc i pins s σ H E I hf st hg
    subst hP hw hK
    obtain ⟨f0, f1, f2, f3, f4, f5⟩ := hf it (by simp)
    exact wpAny_pyNext_range_end (I.ok.hd hc) st (by have : n ≤ i := hg; omega) fun h' eb => ⟨rfl, I.turned (t' := s.toks) (fun b o hb e => eb b o hb e) f0 f1 f3 f4 f5⟩
  self := fun _ _ _ _ _ st h => wpAny_pyIter_rangeiter st h
end L2
namespace L2
open PySem PySem.Spec PyProof.Rows
section
variable {X : Cx} {tg : Expr}
def iList (K : PySem.W.Frag) (tl : TE) : TI := fun σ H R => tl σ H fun x H1 => ∃ a, x = .ref a ∧ (∃ xs, SqL K H1 a xs) ∧ R (Itl K a) H1
theorem pi_list {l : Expr} {tl : TE} (hl : PE X l tl) : PI X tg l (iList X.K tl) := by
  intro pins s σ H R I h
  refine thn (hl pins s σ H _ I h) fun v s1 ⟨x, H1, I1, r1, q1⟩ => ?_
  obtain ⟨a, e, ⟨xs, hq⟩, q⟩ := q1
  subst e
  cases r1
  obtain ⟨its, rv, p, hz⟩ := I1.list hq
  refine wpAny_pyIter_list p.isList ?_
  refine ⟨s1.heap.objs.size, [s1.heap.objs.size], _, _, H1, rfl, I1.kept (t' := s1.toks) fun b o e => Heap.get?_push_of_some _ e, turn_list a _, ⟨_, Heap.get?_push_size _ rfl, rfl, rfl⟩, fun b hb => ?_, q⟩
  have e : b = s1.heap.objs.size := by simpa using hb
  subst e
  exact I1.fpOk (Nat.le_refl _) (I1.hok.fresh (Nat.le_refl _))
theorem range_it {pins : List (Addr × Obj)} {σ : St} {H : Hp} {s : Shared} {R : It → Hp → Prop} {E : Value → Shared → Prop} {lo hi : Int} {t u v : Tok} {tk : Nat} (I : Inv X pins σ H s) (h1 : -(2 ^ 62) ≤ lo) (h2 : lo < 2 ^ 62) (h3 : -(2 ^ 62) ≤ hi) (h4 : hi < 2 ^ 62)
    (q : R (Itr lo (hi - lo).toNat) H) : wpAny (model X.prog X.w) X.A (pyIter (.ref s.heap.objs.size)) (PIE X pins σ tg R) E { s with heap := s.heap.push { cls := .type "range", data := .fields #[.int lo t, .int hi u, .int 1 v] }, toks := tk } := by
  refine wpAny_pyIter_range (IsRange.new ..) (small_one h1 h2 h3 h4) ?_
  have I1 : Inv X pins σ H { s with heap := s.heap.push { cls := .type "range", data := .fields #[.int lo t, .int hi u, .int 1 v] }, toks := tk } := I.kept fun b o e => Heap.get?_push_of_some _ e
  refine ⟨(s.heap.push { cls := .type "range", data := .fields #[.int lo t, .int hi u, .int 1 v] }).objs.size, [(s.heap.push { cls := .type "range", data := .fields #[.int lo t, .int hi u, .int 1 v] }).objs.size], _, _, H, rfl,
    I1.kept (t' := tk) fun b o e => Heap.get?_push_of_some _ e, turn_range _ lo (hi - lo).toNat, ?_, fun b hb => ?_, q⟩
  · have e1 : lo + ((0 : Nat) : Int) * 1 = lo := by simp
    have e2 : (((hi - lo).toNat : Nat) : Int) - ((0 : Nat) : Int) = Builtin.Range.rangeSize lo hi 1 := by rw [rangeSize_one]; split <;> omega
    show IsRangeIter _ _ (lo + ((0 : Nat) : Int) * 1) ((((hi - lo).toNat : Nat) : Int) - ((0 : Nat) : Int)) 1
    rw [e1, e2]
    exact Heap.get?_push_size _ rfl
  · have e : b = (s.heap.push { cls := .type "range", data := .fields #[.int lo t, .int hi u, .int 1 v] }).objs.size := by simpa using hb
    subst e
    exact I1.fpOk (Nat.le_refl _) (I1.hok.fresh (Nat.le_refl _))
def iRng1 (ta : TA) : TI := fun σ H R => ta σ H fun vs H1 => ∃ j : Int, vs = [.int j] ∧ -(2 ^ 62) ≤ j ∧ j < 2 ^ 62 ∧ R (Itr 0 j.toNat) H1
theorem pi_range1 {a : Expr} {ta : TA} {p pos : Pos} (hg : Gl X "range") (hm : X.mg "range" = none) (ha : PA X [a] ta) (hs : starEach [a] X.env = [(false, eval a X.env)] := by rfl) : PI X tg (.Call (.Name "range" p) [a] [] pos) (iRng1 ta) := by
  intro pins s σ H R I h
  refine Call_ (ld_blt I hg hm boot_range (PyProof.Rows.callWith_type1 (thn (ha pos pins s σ H _ I h) fun us s1 ⟨vs, H1, I1, r1, q1⟩ => ?_) hs rfl))
  obtain ⟨j, e, q1, q2, q⟩ := q1
  subst e
  cases r1 with
  | cons r rr =>
    cases rr
    obtain ⟨t, rfl⟩ := r
    exact call_range_1 (range_it I1 (by omega) (by omega) q1 q2 (by simpa using q))
def tFor (wi : TI) (g : TG) (tb : TS) : TS := fun D σ H => wi σ H fun J H1 => ∃ W : Nat → Nat → St → Hp → Prop, (∃ m, W 0 m σ H1) ∧ ∀ i m σ H, W i m σ H →
  (J.stop i H ∧ D.nx σ H) ∨ (J.go i H ∧ ∃ N : St → Hp → Prop, (∀ σ' H', N σ' H' → ∃ m', m' < m ∧ W (i + 1) m' σ' H') ∧ ∀ x H', J.yld i H x H' → g x σ H' fun σ2 H2 => tb { D with nx := N, ct := N, bk := D.nx } σ2 H2)
def pinsAt (fp : List Addr) (h : Heap) : List (Addr × Obj) := fp.filterMap fun b => (h.get? b).map fun o => (b, o)
theorem mem_pinsAt {fp : List Addr} {h : Heap} {b : Addr} {o : Obj} (hb : b ∈ fp) (e : h.get? b = some o) : (b, o) ∈ pinsAt fp h := List.mem_filterMap.mpr ⟨b, hb, by rw [e]; rfl⟩
theorem of_pinsAt {fp : List Addr} {h : Heap} {p : Addr × Obj} (hp : p ∈ pinsAt fp h) : p.1 ∈ fp ∧ h.get? p.1 = some p.2 := by
  obtain ⟨b, hb, e⟩ := List.mem_filterMap.mp hp
  cases q : h.get? b with
  | none => rw [q] at e; cases e
  | some o =>
    rw [q] at e
    have e' : (b, o) = p := Option.some.inj e
    subst e'
    exact ⟨hb, q⟩
theorem Inv.pinned {pins : List (Addr × Obj)} {σ : St} {H : Hp} {s : Shared} {fp : List Addr} (I : Inv X pins σ H s) (hf : ∀ b ∈ fp, FpOk X pins H b) (ho : ∀ b ∈ fp, ∃ o, s.heap.get? b = some o ∧ ∀ v, o.data ≠ .cell v) : Inv X (pins ++ pinsAt fp s.heap) σ H s :=
  I.pins_of fun p hp => (List.mem_append.mp hp).elim (fun z => I.pin p (List.mem_append_right _ z)) fun z => by
    obtain ⟨hb, e⟩ := of_pinsAt z
    obtain ⟨f0, f1, f2, _⟩ := hf p.1 hb
    obtain ⟨o, e', d⟩ := ho p.1 hb
    rw [e] at e'; cases e'
    exact ⟨e, f0, f1, f2, d⟩
theorem Inv.unpinned {pins pl : List (Addr × Obj)} {σ : St} {H : Hp} {s : Shared} (I : Inv X (pins ++ pl) σ H s) : Inv X pins σ H s := I.pins_of fun p hp => I.pin p (List.mem_append_right _ (List.mem_append_left _ hp))
theorem ps_for {iter : Expr} {body : List Stmt} {wi : TI} {g : TG} {tb : TS} {pos : Pos} (hp : PassesOwn (model X.prog X.w) X.A X.env X.xe) (hc : X.calm = true) (hi : PI X tg iter wi) (hg : PG X tg g) (hb : PSs X body tb)
    (hs : ∀ x, foldedSetIterable iter X.env x = pure x := by intro _; rfl) : PS X (.For tg iter body [] pos) (tFor wi g tb) := by
  intro pins s σ H D I h
  refine wpAny_For (thn (hi pins s σ H _ I h) fun v s1 h1 => thn h1 fun itv s2 h2 => ?_) hs
  obtain ⟨it, fp, tn, J, H2, e, I2, T, st2, f2, W, ⟨m0, w0⟩, turn⟩ := h2
  subst e
  have stat : ∀ {H' : Hp}, (∀ b ∈ fp, H' b = none) → ∀ b ∈ fp, FpOk X pins H' b := fun hn b hb => ⟨hn b hb, (f2 b hb).2⟩
  refine codeAny_forLoop_any (fun n s' => ∃ i σ' H', Inv X pins σ' H' s' ∧ tn i s'.heap ∧ (∀ b ∈ fp, H' b = none) ∧ W i n σ' H') ?_ m0 ⟨0, σ, H2, I2, st2, fun b hb => (f2 b hb).1, w0⟩
  rintro n s3 ⟨i, σ3, H3, I3, st3, fr3, w3⟩
  rcases turn i n σ3 H3 w3 with ⟨stop, qn⟩ | ⟨go, N, hN, step⟩
  · refine wpAny_passesOwn hp (thn (T.done X rfl rfl rfl hc i pins s3 σ3 H3 X.xe I3 (stat fr3) st3 stop) fun r s4 ⟨hr, I4⟩ => ?_)
    subst hr
    exact wpAny_execs_nil ⟨σ3, H3, I4, qn⟩
  · refine wpAny_passesOwn hp (thn (T.item X rfl rfl rfl hc i pins s3 σ3 H3 X.xe I3 (stat fr3) st3 go) fun r s4 ⟨u, hr, h4⟩ => ?_)
    subst hr
    refine wpAny_passesOwn hp (thn h4 fun _ s5 ⟨x, H5, I5, r5, y5, st5, fr5⟩ => ?_)
    have I5' := I5.pinned (stat fr5) (T.obj _ _ st5)
    refine wpAny_passesOwn hp (thn (hg _ s5 σ3 H5 x u _ I5' r5 (step x H5 y5)) fun _ s6 ⟨σ6, H6, I6, q6⟩ => ?_)
    refine wpAny_passesOwn hp (thn (hb _ s6 σ6 H6 _ I6 q6) fun f s7 q7 => ?_)
    have again : ∀ {σ7 : St} {H7 : Hp}, Inv X (pins ++ pinsAt fp s5.heap) σ7 H7 s7 → N σ7 H7 → ∃ m, m < n ∧ ∃ i σ' H', Inv X pins σ' H' s7 ∧ tn i s7.heap ∧ (∀ b ∈ fp, H' b = none) ∧ W i m σ' H' := fun {σ7 H7} I7 n7 => by
      obtain ⟨m', hm, w7⟩ := hN σ7 H7 n7
      refine ⟨m', hm, i + 1, σ7, H7, I7.unpinned, T.keep _ _ _ st5 fun b hb o e => (I7.pin (b, o) (List.mem_append_right _ (List.mem_append_right _ (mem_pinsAt hb e)))).1, fun b hb => ?_, w7⟩
      obtain ⟨o, e, d⟩ := T.obj _ _ st5 b hb
      exact (I7.pin (b, o) (List.mem_append_right _ (List.mem_append_right _ (mem_pinsAt hb e)))).2.1
    cases f with
    | next => obtain ⟨σ7, H7, I7, n7⟩ := q7; exact again I7 n7
    | cont => obtain ⟨σ7, H7, I7, n7⟩ := q7; exact again I7 n7
    | brk => obtain ⟨σ7, H7, I7, q7⟩ := q7; exact ⟨σ7, H7, I7.unpinned, q7⟩
    | ret v => obtain ⟨x7, σ7, H7, I7, r7, q7⟩ := q7; exact ⟨x7, σ7, H7, I7.unpinned, r7, q7⟩
end
theorem for_list {K : PySem.W.Frag} {a : Addr} {xs : List V} {g : TG} {tb : TS} {D : Ends} {σ : St} {H : Hp} (Pv : Nat → St → Hp → Prop) (h0 : Pv 0 σ H) (hl : ∀ i σ H, i ≤ xs.length → Pv i σ H → SqL K H a xs)
    (hs : ∀ i x σ H, xs[i]? = some x → Pv i σ H → g x σ H fun σ2 H2 => tb { D with nx := Pv (i + 1), ct := Pv (i + 1), bk := D.nx } σ2 H2) (hd : ∀ σ H, Pv xs.length σ H → D.nx σ H) :
    ∃ W : Nat → Nat → St → Hp → Prop, (∃ m, W 0 m σ H) ∧ ∀ i m σ H, W i m σ H →
      ((Itl K a).stop i H ∧ D.nx σ H) ∨ ((Itl K a).go i H ∧ ∃ N : St → Hp → Prop, (∀ σ' H', N σ' H' → ∃ m', m' < m ∧ W (i + 1) m' σ' H') ∧ ∀ x H', (Itl K a).yld i H x H' → g x σ H' fun σ2 H2 => tb { D with nx := N, ct := N, bk := D.nx } σ2 H2) := by
  refine ⟨fun i m σ H => m = xs.length - i ∧ i ≤ xs.length ∧ Pv i σ H, ⟨xs.length, by simp, Nat.zero_le _, h0⟩, ?_⟩
  rintro i m σ H ⟨rfl, hi, p⟩
  have q := hl i σ H hi p
  by_cases hlt : i < xs.length
  · refine .inr ⟨⟨xs, xs[i], q, by simp [hlt]⟩, Pv (i + 1), fun σ' H' p' => ⟨xs.length - (i + 1), by omega, rfl, hlt, p'⟩, fun x H' y => ?_⟩
    obtain ⟨e, y⟩ := y
    subst e
    exact hs i x σ _ (y xs q) p
  · have e : i = xs.length := by omega
    subst e
    exact .inl ⟨⟨xs, q, Nat.le_refl _⟩, hd σ H p⟩
theorem for_range {lo : Int} {n : Nat} {g : TG} {tb : TS} {D : Ends} {σ : St} {H : Hp} (Pv : Nat → St → Hp → Prop) (h0 : Pv 0 σ H)
    (hs : ∀ i σ H, i < n → Pv i σ H → g (.int (lo + i)) σ H fun σ2 H2 => tb { D with nx := Pv (i + 1), ct := Pv (i + 1), bk := D.nx } σ2 H2) (hd : ∀ σ H, Pv n σ H → D.nx σ H) :
    ∃ W : Nat → Nat → St → Hp → Prop, (∃ m, W 0 m σ H) ∧ ∀ i m σ H, W i m σ H →
      ((Itr lo n).stop i H ∧ D.nx σ H) ∨ ((Itr lo n).go i H ∧ ∃ N : St → Hp → Prop, (∀ σ' H', N σ' H' → ∃ m', m' < m ∧ W (i + 1) m' σ' H') ∧ ∀ x H', (Itr lo n).yld i H x H' → g x σ H' fun σ2 H2 => tb { D with nx := N, ct := N, bk := D.nx } σ2 H2) := by
  refine ⟨fun i m σ H => m = n - i ∧ i ≤ n ∧ Pv i σ H, ⟨n, by simp, Nat.zero_le _, h0⟩, ?_⟩
  rintro i m σ H ⟨rfl, hi, p⟩
  by_cases hlt : i < n
  · refine .inr ⟨hlt, Pv (i + 1), fun σ' H' p' => ⟨n - (i + 1), by omega, rfl, hlt, p'⟩, fun x H' y => ?_⟩
    obtain ⟨e, y⟩ := y
    subst e y
    exact hs i σ _ hlt p
  · have e : i = n := by omega
    subst e
    exact .inl ⟨Nat.le_refl _, hd σ H p⟩
end L2
namespace L2
open PySem PySem.Spec PyProof.Rows
abbrev R2 := V → V → Hp → VK → Prop
def OpR (X : Cx) (f : Value → Value → Sem Value) (r : R2) : Prop :=
  ∀ (pins : List (Addr × Obj)) (s : Shared) (σ : St) (H : Hp) (x y : V) (v u : Value) (Q : VK), Inv X pins σ H s → RelV x v → RelV y u → r x y H Q →
    wpAny (model X.prog X.w) X.A (f v u) (EP X pins σ Q) X.xe s
def CallR (X : Cx) (f : Value) (r : List V → Hp → VK → Prop) : Prop :=
  ∀ (pins : List (Addr × Obj)) (s : Shared) (σ : St) (H : Hp) (xs : List V) (us : List Value) (Q : VK), Inv X pins σ H s → Vals xs us → r xs H Q →
    wpAny (model X.prog X.w) X.A (call f us) (EP X pins σ Q) X.xe s
def tOp (r : R2) (ta tb : TE) : TE := fun σ H Q => ta σ H fun x H1 => tb σ H1 fun y H2 => r x y H2 Q
def rI (C : Int → Int → Prop) (g : Int → Int → V) : R2 := fun x y H Q => ∃ i j, x = .int i ∧ y = .int j ∧ C i j ∧ Q (g i j) H
def rI0 (g : Int → Int → V) : R2 := fun x y H Q => ∃ i j, x = .int i ∧ y = .int j ∧ Q (g i j) H
section
variable {X : Cx} {a b c : Expr} {ta tb tc : TE} {pos : Pos}
theorem binT (ha : PE X a ta) (hb : PE X b tb) {pins : List (Addr × Obj)} {s : Shared} {σ : St} {H : Hp} {R : V → V → Hp → Prop} (I : Inv X pins σ H s)
    (h : ta σ H fun x H1 => tb σ H1 fun y H2 => R x y H2) {Q : Value → Shared → Prop} {f : Value → Value → Sem Value}
    (hf : ∀ v u s2 x y H2, Inv X pins σ H2 s2 → RelV x v → RelV y u → R x y H2 → wpAny (model X.prog X.w) X.A (f v u) Q X.xe s2) :
    wpAny (model X.prog X.w) X.A (eval a X.env) (fun v s₁ => wpAny (model X.prog X.w) X.A (eval b X.env) (fun u s₂ => wpAny (model X.prog X.w) X.A (f v u) Q X.xe s₂) X.xe s₁) X.xe s := by
  refine thn (ha pins s σ H _ I h) fun v s1 ⟨x, H1, I1, r1, q1⟩ => ?_
  refine thn (hb pins s1 σ H1 _ I1 q1) fun u s2 ⟨y, H2, I2, r2, q2⟩ => ?_
  exact hf v u s2 x y H2 I2 r1 r2 q2
theorem pe_op {op : Operator} {r : R2} (ho : OpR X (binaryOp op) r) (ha : PE X a ta) (hb : PE X b tb) : PE X (.BinOp a op b pos) (tOp r ta tb) := by
  intro pins s σ H Q I h
  exact wpAny_BinOp (binT ha hb I h fun v u s2 x y H2 I2 rx ry q => ho pins s2 σ H2 x y v u Q I2 rx ry q)
theorem opI {f : Value → Value → Sem Value} {C : Int → Int → Prop} {g : Int → Int → Int}
    (rule : ∀ (i j : Int) (t u : Tok) (s : Shared) (Q : Value → Shared → Prop) (E : Value → Shared → Prop), C i j → Q (.int (g i j) s.toks) { s with toks := s.toks + 1 } → wpAny (model X.prog X.w) X.A (f (.int i t) (.int j u)) Q E s) :
    OpR X f (rI C fun i j => .int (g i j)) := by
  intro pins s σ H x y v u Q I rx ry h
  obtain ⟨i, j, rfl, rfl, hc, q⟩ := h
  obtain ⟨t, rfl⟩ := rx
  obtain ⟨t', rfl⟩ := ry
  exact rule i j t t' s _ _ hc ⟨.int (g i j), H, I.tok _, ⟨_, rfl⟩, q⟩
theorem opI0 {f : Value → Value → Sem Value} {g : Int → Int → Int}
    (rule : ∀ (i j : Int) (t u : Tok) (s : Shared) (Q : Value → Shared → Prop) (E : Value → Shared → Prop), Q (.int (g i j) s.toks) { s with toks := s.toks + 1 } → wpAny (model X.prog X.w) X.A (f (.int i t) (.int j u)) Q E s) :
    OpR X f (rI0 fun i j => .int (g i j)) := by
  intro pins s σ H x y v u Q I rx ry h
  obtain ⟨i, j, rfl, rfl, q⟩ := h
  obtain ⟨t, rfl⟩ := rx
  obtain ⟨t', rfl⟩ := ry
  exact rule i j t t' s _ _ ⟨.int (g i j), H, I.tok _, ⟨_, rfl⟩, q⟩
theorem opB0 {f : Value → Value → Sem Value} {g : Int → Int → Bool}
    (rule : ∀ (i j : Int) (t u : Tok) (s : Shared) (Q : Value → Shared → Prop) (E : Value → Shared → Prop), Q (.bool (g i j)) s → wpAny (model X.prog X.w) X.A (f (.int i t) (.int j u)) Q E s) :
    OpR X f (rI0 fun i j => .bl (g i j)) := by
  intro pins s σ H x y v u Q I rx ry h
  obtain ⟨i, j, rfl, rfl, q⟩ := h
  obtain ⟨t, rfl⟩ := rx
  obtain ⟨t', rfl⟩ := ry
  exact rule i j t t' s _ _ ⟨.bl (g i j), H, I, rfl, q⟩
def CPow (i j : Int) : Prop := 0 ≤ j ∧ j ≤ 1000000 ∧ i.natAbs < 2 ^ 64
theorem two_pow_nn (k : Nat) : (0 : Int) ≤ 2 ^ k := by
  rw [two_pow_cast]
  exact Int.natCast_nonneg _
theorem op_add : OpR X (binaryOp .Add) (rI0 fun i j => .int (i + j)) := opI0 fun _ _ _ _ _ _ _ q => add_int q
theorem op_sub : OpR X (binaryOp .Sub) (rI0 fun i j => .int (i - j)) := opI0 fun _ _ _ _ _ _ _ q => sub_int q
theorem op_modN : OpR X (binaryOp .Mod) (rI (fun _ j => j ≠ 0) fun i j => .int (i.fmod j)) := opI fun _ _ _ _ _ _ _ hc q => mod_int' hc q
theorem op_pow : OpR X (binaryOp .Pow) (rI CPow fun i j => .int (i ^ j.toNat)) := opI fun _ _ _ _ _ _ _ hc q => pow_int_small hc.1 hc.2.1 hc.2.2 q
theorem op_shl : OpR X (binaryOp .LShift) (rI CPow fun i j => .int (i * 2 ^ j.toNat)) := opI fun _ _ _ _ _ _ _ hc q => lshift_int_small hc.1 hc.2.1 hc.2.2 q
theorem op_shr : OpR X (binaryOp .RShift) (rI (fun _ j => 0 ≤ j) fun i j => .int (i / 2 ^ j.toNat)) := opI fun i j _ _ _ _ _ hc q =>
  rshift_int hc (by rw [Int.fdiv_eq_ediv_of_nonneg i (two_pow_nn _)]; exact q)
theorem op_and : OpR X (binaryOp .BitAnd) (rI0 fun i j => .int (Builtin.bitAnd i j)) := opI0 fun _ _ _ _ _ _ _ q => and_int q
theorem op_or : OpR X (binaryOp .BitOr) (rI0 fun i j => .int (Builtin.bitOr i j)) := opI0 fun _ _ _ _ _ _ _ q => or_int q
end
def scal : V → V → Bool
  | .non, .non => true | .non, .int _ => true | .int _, .non => true | .non, .bl _ => true | .bl _, .non => true | .non, .str _ => true | .str _, .non => true
  | .int _, .int _ => true | .bl _, .bl _ => true | .str _, .str _ => true | .byt _, .byt _ => true
  | .int _, .str _ => true | .str _, .int _ => true | .bl _, .str _ => true | .str _, .bl _ => true
  | _, _ => false
def rEq : R2 := fun x y H Q => scal x y = true ∧ Q (.bl (decide (x = y))) H
def rNe : R2 := fun x y H Q => scal x y = true ∧ Q (.bl (!decide (x = y))) H
theorem dec_int {i j : Int} : decide (V.int i = V.int j) = (i == j) := by
  rw [Bool.eq_iff_iff]
  simp
theorem dec_bl {i j : Bool} : decide (V.bl i = V.bl j) = (i == j) := by
  rw [Bool.eq_iff_iff]
  simp
theorem dec_str {i j : Str} : decide (V.str i = V.str j) = (i == j) := by
  rw [Bool.eq_iff_iff]
  simp
theorem dec_byt {i j : Array UInt8} : decide (V.byt i = V.byt j) = (i.toList == j.toList) := by
  rw [Bool.eq_iff_iff]
  cases i
  cases j
  simp
section
variable {X : Cx} {a b c : Expr} {ta tb tc : TE} {pos : Pos}
theorem fin_bl {pins : List (Addr × Obj)} {σ : St} {H : Hp} {s : Shared} {Q : VK} {k k' : Bool} (I : Inv X pins σ H s) (q : Q (.bl k) H) (e : k = k') : EP X pins σ Q (.bool k') s := by
  subst e
  exact ⟨.bl k, H, I, rfl, q⟩
theorem op_eq : OpR X (compareOp .Eq) rEq := by
  intro pins s σ H x y v u Q I rx ry h
  obtain ⟨hs, q⟩ := h
  cases x with
  | non =>
    cases rx
    cases y with
    | non => cases ry; exact PySem.EqNone.eq_none_none (fin_bl I q (by simp))
    | bl j => cases ry; exact PySem.EqNone.eq_none_bool (fin_bl I q (by simp))
    | int j => obtain ⟨t', rfl⟩ := ry; exact PySem.EqNone.eq_none_int (fin_bl I q (by simp))
    | str j => obtain ⟨t', rfl⟩ := ry; exact PySem.EqNone.eq_none_str (fin_bl I q (by simp))
    | _ => exact absurd (show false = true from hs) Bool.false_ne_true
  | bl i =>
    cases rx
    cases y with
    | non => cases ry; exact PySem.EqNone.eq_bool_none (fin_bl I q (by simp))
    | bl j => cases ry; exact eq_bool (fin_bl I q dec_bl)
    | str j => obtain ⟨t', rfl⟩ := ry; exact PySem.EqMixed.eq_bool_str (fin_bl I q (by simp))
    | _ => exact absurd (show false = true from hs) Bool.false_ne_true
  | int i =>
    obtain ⟨t, rfl⟩ := rx
    cases y with
    | non => cases ry; exact PySem.EqNone.eq_int_none (fin_bl I q (by simp))
    | int j => obtain ⟨t', rfl⟩ := ry; exact eq_int (fin_bl I q dec_int)
    | str j => obtain ⟨t', rfl⟩ := ry; exact PySem.EqMixed.eq_int_str (fin_bl I q (by simp))
    | _ => exact absurd (show false = true from hs) Bool.false_ne_true
  | str i =>
    obtain ⟨t, rfl⟩ := rx
    cases y with
    | non => cases ry; exact PySem.EqNone.eq_str_none (fin_bl I q (by simp))
    | bl j => cases ry; exact PySem.EqMixed.eq_str_bool (fin_bl I q (by simp))
    | int j => obtain ⟨t', rfl⟩ := ry; exact PySem.EqMixed.eq_str_int (fin_bl I q (by simp))
    | str j => obtain ⟨t', rfl⟩ := ry; exact eq_str (fin_bl I q dec_str)
    | _ => exact absurd (show false = true from hs) Bool.false_ne_true
  | byt i =>
    obtain ⟨t, rfl⟩ := rx
    cases y with
    | byt j => obtain ⟨t', rfl⟩ := ry; exact PySem.W.eq_bytes (fin_bl I q dec_byt)
    | _ => exact absurd (show false = true from hs) Bool.false_ne_true
  | _ => cases y <;> exact absurd (show false = true from hs) Bool.false_ne_true
theorem op_ne : OpR X (compareOp .NotEq) rNe := by
  intro pins s σ H x y v u Q I rx ry h
  obtain ⟨hs, q⟩ := h
  cases x with
  | non =>
    cases rx
    cases y with
    | non => cases ry; exact PySem.EqNone.ne_none_none (fin_bl I q (by simp))
    | bl j => cases ry; exact PySem.EqNone.ne_none_bool (fin_bl I q (by simp))
    | int j => obtain ⟨t', rfl⟩ := ry; exact PySem.EqNone.ne_none_int (fin_bl I q (by simp))
    | str j => obtain ⟨t', rfl⟩ := ry; exact PySem.EqNone.ne_none_str (fin_bl I q (by simp))
    | _ => exact absurd (show false = true from hs) Bool.false_ne_true
  | bl i =>
    cases rx
    cases y with
    | non => cases ry; exact PySem.EqNone.ne_bool_none (fin_bl I q (by simp))
    | bl j => cases ry; exact ne_bool (fin_bl I q (congrArg not dec_bl))
    | str j => obtain ⟨t', rfl⟩ := ry; exact PySem.EqMixed.ne_bool_str (fin_bl I q (by simp))
    | _ => exact absurd (show false = true from hs) Bool.false_ne_true
  | int i =>
    obtain ⟨t, rfl⟩ := rx
    cases y with
    | non => cases ry; exact PySem.EqNone.ne_int_none (fin_bl I q (by simp))
    | int j => obtain ⟨t', rfl⟩ := ry; exact ne_int (fin_bl I q (congrArg not dec_int))
    | str j => obtain ⟨t', rfl⟩ := ry; exact PySem.EqMixed.ne_int_str (fin_bl I q (by simp))
    | _ => exact absurd (show false = true from hs) Bool.false_ne_true
  | str i =>
    obtain ⟨t, rfl⟩ := rx
    cases y with
    | non => cases ry; exact PySem.EqNone.ne_str_none (fin_bl I q (by simp))
    | bl j => cases ry; exact PySem.EqMixed.ne_str_bool (fin_bl I q (by simp))
    | int j => obtain ⟨t', rfl⟩ := ry; exact PySem.EqMixed.ne_str_int (fin_bl I q (by simp))
    | str j => obtain ⟨t', rfl⟩ := ry; exact ne_str (fin_bl I q (congrArg not dec_str))
    | _ => exact absurd (show false = true from hs) Bool.false_ne_true
  | byt i =>
    obtain ⟨t, rfl⟩ := rx
    cases y with
    | byt j => obtain ⟨t', rfl⟩ := ry; exact PySem.W.ne_bytes (fin_bl I q (congrArg not dec_byt))
    | _ => exact absurd (show false = true from hs) Bool.false_ne_true
  | _ => cases y <;> exact absurd (show false = true from hs) Bool.false_ne_true
theorem op_lt : OpR X (compareOp .Lt) (rI0 fun i j => .bl (decide (i < j))) := opB0 fun _ _ _ _ _ _ _ q => lt_int q
theorem op_gt : OpR X (compareOp .Gt) (rI0 fun i j => .bl (decide (j < i))) := opB0 fun _ _ _ _ _ _ _ q => gt_int q
theorem nomark (b : Expr) {op : CmpOp} (h : op ≠ .In := by decide) (h2 : op ≠ .NotIn := by decide) : behindInMarks op b = false := by
  have e1 : (op == CmpOp.In) = false := by cases op <;> first | rfl | exact absurd rfl h
  have e2 : (op == CmpOp.NotIn) = false := by cases op <;> first | rfl | exact absurd rfl h2
  cases b <;> simp [behindInMarks, e1, e2]
theorem pe_cmpR {op : CmpOp} {r : R2} (ho : OpR X (compareOp op) r) (ha : PE X a ta) (hb : PE X b tb) (hm : behindInMarks op b = false) : PE X (.Compare a [op] [b] pos) (tOp r ta tb) := by
  intro pins s σ H Q I h
  exact wpAny_Compare1 (binT ha hb I h fun v u s2 x y H2 I2 rx ry q => ho pins s2 σ H2 x y v u Q I2 rx ry q) hm
def tTest (t : TE) : TT := fun σ H Q => t σ H fun x H' => ∃ k, x = .bl k ∧ Q k H'
theorem pt_cmpR {op : CmpOp} {r : R2} (ho : OpR X (compareOp op) r) (ha : PE X a ta) (hb : PE X b tb) (hm : behindInMarks op b = false) : PT X (.Compare a [op] [b] pos) (tTest (tOp r ta tb)) := by
  intro pins s σ H Q I h
  refine wpAny_isTrue_Compare1 (thn (ha pins s σ H _ I h) fun v s1 ⟨x, H1, I1, r1, q1⟩ => thn (hb pins s1 σ H1 _ I1 q1) fun u s2 ⟨y, H2, I2, r2, q2⟩ =>
    thn (ho pins s2 σ H2 x y v u _ I2 r1 r2 q2) fun c s3 ⟨z, H3, I3, r3, k, e, q3⟩ => ?_) hm
  subst e
  cases r3
  exact wpAny_truthy_bool ⟨H3, I3, q3⟩
theorem line63 : (sizeLine : Nat) < 2 ^ 63 := by rw [sizeLine_eq]; decide
theorem vals1 {x : V} {us : List Value} (r : Vals [x] us) : ∃ u, us = [u] ∧ RelV x u := by
  cases r with
  | cons r1 r2 => cases r2; exact ⟨_, rfl, r1⟩
theorem vals2 {x y : V} {us : List Value} (r : Vals [x, y] us) : ∃ u w', us = [u, w'] ∧ RelV x u ∧ RelV y w' := by
  cases r with
  | cons r1 r2 =>
    cases r2 with
    | cons r3 r4 => cases r4; exact ⟨_, _, rfl, r1, r3⟩
theorem call_max2 (hc : X.calm = true) : CallR X (.builtin "max") (fun xs H Q => ∃ i j, xs = [.int i, .int j] ∧ Q (.int (if j > i then j else i)) H) := by
  intro pins s σ H xs us Q I r h
  obtain ⟨i, j, rfl, q⟩ := h
  obtain ⟨u, w', rfl, ⟨t, rfl⟩, ⟨t', rfl⟩⟩ := vals2 r
  refine max_two_ints (I.ok.hd hc) fun h' tk k => ⟨_, H, I.kept k, ?_, q⟩
  by_cases hj : j > i
  · rw [if_pos hj, if_pos hj]; exact ⟨_, rfl⟩
  · rw [if_neg hj, if_neg hj]; exact ⟨_, rfl⟩
theorem call_min2 (hc : X.calm = true) : CallR X (.builtin "min") (fun xs H Q => ∃ i j, xs = [.int i, .int j] ∧ Q (.int (if j < i then j else i)) H) := by
  intro pins s σ H xs us Q I r h
  obtain ⟨i, j, rfl, q⟩ := h
  obtain ⟨u, w', rfl, ⟨t, rfl⟩, ⟨t', rfl⟩⟩ := vals2 r
  refine min_two_ints (I.ok.hd hc) fun h' tk k => ⟨_, H, I.kept k, ?_, q⟩
  by_cases hj : j < i
  · rw [if_pos hj, if_pos hj]; exact ⟨_, rfl⟩
  · rw [if_neg hj, if_neg hj]; exact ⟨_, rfl⟩
end
end L2
namespace L2
open PySem PySem.Spec PyProof.Rows
structure ObjM (h : Heap) (x dx C : Addr) (mA : Str → Option Value) : Prop where
  obj : h.get? x = some (PySem.W.instObj C dx)
  ns : h.Ns1 dx mA
  ne : dx ≠ x
theorem lookIn_ns {h : Heap} {dx : Addr} {mA : Str → Option Value} (n : h.Ns1 dx mA) : ∃ od, h.get? dx = some od ∧ ∀ name, PySem.W.lookIn name od = some (mA name) := by
  obtain ⟨o, es, ep, ho, hd, hk, _, hm⟩ := n
  refine ⟨o, ho, fun name => ?_⟩
  have e := hm name
  unfold nsFind findBy at e
  rw [← Array.find?_toList] at e
  unfold PySem.W.lookIn
  rw [hd]
  dsimp only
  split
  · rename_i y q
    rw [q] at e
    exact congrArg some e
  · rename_i q
    rw [q] at e
    have a : es.toList.any (·.refKey) = false := by
      rw [List.any_eq_false]
      intro y hy
      obtain ⟨z, t, hkey⟩ := hk y (Array.mem_toList_iff.mp hy)
      simp [DictEntry.refKey, hkey]
    have a' : ¬ es.toList.any (·.refKey) = true := by rw [a]; exact Bool.false_ne_true
    rw [if_neg a']
    exact congrArg some e
theorem ObjM.look {h : Heap} {x dx C : Addr} {mA : Str → Option Value} (I : ObjM h x dx C mA) : ∃ od, PySem.W.InstAt h x (PySem.W.instObj C dx) C (some od) ∧ ∀ name, PySem.W.lookIn name od = some (mA name) :=
  let ⟨od, ho, hl⟩ := lookIn_ns I.ns
  ⟨od, ⟨I.obj, rfl, rfl, ho⟩, hl⟩
section
variable {prog : Program} {w : World} {A : Around} {E : Value → Shared → Prop} {s : Shared} {K : PySem.W.Frag} {x dx C f : Addr} {mA : Str → Option Value} {name : Str} {v : Value}
end
theorem RelO.some_of {v : V} {o : Option Value} (r : RelO (some v) o) : ∃ u, o = some u ∧ RelV v u := by
  cases o with
  | none => exact (show False from r).elim
  | some u => exact ⟨u, rfl, r⟩
section
variable {P : Program} {w : World} {H H' : Hp} {h h' : Heap} {a C dx : Addr} {fs fs' : List (Str × V)}
theorem ins_get (hok : HOk P w H h) (e : H a = some (.ins C dx fs)) : ∃ mA, ObjM h a dx C mA ∧ (∀ f, RelO (fs.lookup f) (mA f)) ∧ PySem.Within mA (fs.map (·.1)) ∧ fs.length ≤ 1000 ∧ H dx = some (.own a) := by
  obtain ⟨d, z, ne, ob, mA, n, r, q⟩ := (show ObjOk P w H h a (.ins C dx fs) from hok a _ e)
  exact ⟨mA, ⟨ob, n, ne⟩, r, q, z, d⟩
end
structure Cls (K : PySem.W.Frag) (C : Addr) : Prop where
  pg : PySem.W.plainGet K C Str.empty = true
  hd : PySem.W.hasDictIn K C = true
  po : PySem.W.plainOver K C = true
  sa : PySem.W.findIn K (.ref C) "__setattr__" = some (some (.builtin "object.__setattr__"))
theorem Cls.get {K : PySem.W.Frag} {C : Addr} (c : Cls K C) (f : Str) : PySem.W.plainGet K C f = true := c.pg
section
variable {X : Cx} {pins : List (Addr × Obj)} {σ : St} {H : Hp} {s : Shared} {a C dx : Addr} {fs : List (Str × V)} {f : Str} {v : V} {A : Around} {E : Value → Shared → Prop}
end
section
variable {X : Cx} {o e value : Expr} {f : Str} {pos pos' tpos : Pos} {ta tv : TE}
end
section
variable {X : Cx} {pins : List (Addr × Obj)} {σ : St} {H : Hp} {s : Shared} {A : Around} {E : Value → Shared → Prop} {Q : Value → Shared → Prop} {c : Value} {b : Bool}
inductive TyOf (K : PySem.W.Frag) (H : Hp) : V → Value → Prop where
  | non : TyOf K H .non (.type "NoneType")
  | bl (x : Bool) : TyOf K H (.bl x) (.type "bool")
  | int (i : Int) : TyOf K H (.int i) (.type "int")
  | str (x : Str) : TyOf K H (.str x) (.type "str")
  | flt (x : UInt64) : TyOf K H (.flt x) (.type "float")
  | lst {a : Addr} {xs : List V} (e : H a = some (.lst xs)) : TyOf K H (.ref a) (.type "list")
  | frz {a : Addr} {o : Obj} {xs : List V} (e : H a = some (.frz o (.lst xs))) : TyOf K H (.ref a) (.type "list")
  | tup {a : Addr} {xs : List V} (e : H a = some (.tup xs)) : TyOf K H (.ref a) (.type "tuple")
  | dK {a : Addr} {kvs : List (Key × V)} (e : H a = some (.dK kvs)) : TyOf K H (.ref a) (.type "dict")
  | dT {a : Addr} {kvs : List (List Key × V)} (e : H a = some (.dT kvs)) : TyOf K H (.ref a) (.type "dict")
  | ins {a C dx : Addr} {fs : List (Str × V)} (e : H a = some (.ins C dx fs)) (cl : Cls K C) (ha : PySem.W.findIn K (.ref C) "__class__" = some (some (.builtin "object.__class__")))
      (hn : PySem.W.specialIn K (.builtin "object.__class__") "__get__" = some (some (.builtin "getset_descriptor.__get__"))) (htk : PySem.W.takesIn K (.builtin "object.__class__") = some true)
      (hm : PySem.W.mroIn K C (.type "object") = some true) : TyOf K H (.ref a) (.ref C)
theorem isinst_ok {x : V} {u t : Value} (I : Inv X pins σ H s) (rx : RelV x u) (ty : TyOf X.K H x t) (e : PySem.W.kitOne X.K t c = some b) (h : ∀ tk, Q (.bool b) { s with toks := tk }) :
    wpAny (model X.prog X.w) A (call (.builtin "isinstance") [u, c]) Q E s := by
  cases ty with
  | non => cases (show u = Value.none from rx); exact PySem.W.kia_one PySem.W.kitx_none I.kIn True.intro e (fun z => nomatch z) h
  | bl y => cases (show u = Value.bool y from rx); exact PySem.W.kia_one PySem.W.kitx_bool I.kIn True.intro e (fun z => nomatch z) h
  | int i => obtain ⟨t, q⟩ := (show ∃ t, u = Value.int i t from rx); cases q; exact PySem.W.kia_one PySem.W.kitx_int I.kIn True.intro e (fun z => nomatch z) h
  | str y => obtain ⟨t, q⟩ := (show ∃ t, u = Value.str y t from rx); cases q; exact PySem.W.kia_one PySem.W.kitx_str I.kIn True.intro e (fun z => nomatch z) h
  | flt y => obtain ⟨t, q⟩ := (show ∃ t, u = Value.float y t from rx); cases q; exact PySem.W.kia_one PySem.W.kitx_float I.kIn True.intro e (fun z => nomatch z) h
  | @lst a xs ea =>
    cases (show u = Value.ref a from rx)
    obtain ⟨_, _, n, _, h1⟩ := (show ObjOk X.prog X.w H s.heap a (.lst xs) from I.hok a _ ea)
    exact PySem.W.kia_one PySem.W.kitx_list I.kIn ⟨_, h1, rfl⟩ e (fun z => nomatch z) h
  | @frz a ob xs ea =>
    cases (show u = Value.ref a from rx)
    obtain ⟨_, _, _, n, _, h1⟩ := (show ObjOk X.prog X.w H s.heap a (.frz ob (.lst xs)) from I.hok a _ ea)
    exact PySem.W.kia_one PySem.W.kitx_list I.kIn ⟨_, h1, rfl⟩ e (fun z => nomatch z) h
  | @tup a xs ea =>
    cases (show u = Value.ref a from rx)
    obtain ⟨_, _, _, p⟩ := (show ObjOk X.prog X.w H s.heap a (.tup xs) from I.hok a _ ea)
    obtain ⟨o, h1, h2, _⟩ := p
    exact PySem.W.kia_one PySem.W.kitx_tuple I.kIn ⟨o, h1, h2⟩ e (fun z => nomatch z) h
  | @dK a kvs ea =>
    cases (show u = Value.ref a from rx)
    obtain ⟨_, _, vs, _, p⟩ := (show ObjOk X.prog X.w H s.heap a (.dK kvs) from I.hok a _ ea)
    obtain ⟨o, es, ep, h1, h2, _⟩ := p
    exact PySem.W.kia_one PySem.W.kitx_dict I.kIn ⟨o, h1, h2.1⟩ e (fun z => nomatch z) h
  | @dT a kvs ea =>
    cases (show u = Value.ref a from rx)
    obtain ⟨_, _, xs, _, o, es, ep, h1, h2, _⟩ := (show ObjOk X.prog X.w H s.heap a (.dT kvs) from I.hok a _ ea)
    exact PySem.W.kia_one PySem.W.kitx_dict I.kIn ⟨o, h1, h2.1⟩ e (fun z => nomatch z) h
  | @ins a C dx fs ea cl ha hn htk hm =>
    cases (show u = Value.ref a from rx)
    obtain ⟨mA, O, _⟩ := ins_get I.hok ea
    obtain ⟨od, J, _⟩ := O.look
    exact PySem.W.kia_one (PySem.W.kitx_own (cl.get _) cl.hd ha hn htk hm) I.kIn J e (fun z => nomatch z) h
end
end L2
namespace L2
open PySem PySem.Spec PyProof.Rows
structure Room (k : Nat) (A : Around) : Prop where
  hd : A.handled = none
  dp : A.depth + 3 * k + 5 < recursionLimit
  un : A.units + 16 * k + 200 < cLine
theorem Room.mono {j k : Nat} {A : Around} (r : Room k A) (h : j ≤ k) : Room j A := ⟨r.hd, by have := r.dp; omega, by have := r.un; omega⟩
theorem Room.deeper {k : Nat} {A : Around} (r : Room (k + 1) A) (env : Env) : Room k (A.deeper env) :=
  ⟨r.hd, by have := r.dp; show A.depth + 1 + 3 * k + 5 < _; omega, by have := r.un; show A.units + 3 + 16 * k + 200 < _; omega⟩
theorem Room.depth {k : Nat} {A : Around} (r : Room k A) : A.depth < recursionLimit := by have := r.dp; omega
theorem Room.units {k : Nat} {A : Around} (r : Room k A) : A.units + 64 < cLine := by have := r.un; omega
theorem Room.units0 {k : Nat} {A : Around} (r : Room k A) : A.units < cLine := by have := r.un; omega
def tNil : TA := fun _ H Q => Q [] H
def tCons (ta : TE) (tr : TA) : TA := fun σ H Q => ta σ H fun x H1 => tr σ H1 fun xs H2 => Q (x :: xs) H2
section
variable {X : Cx} {e : Expr} {es : List Expr} {te : TE} {t : TA} {pos : Pos}
theorem pa_nil : PA X [] tNil := fun _ _ _ _ H Q I h => Calls.spliced_nil ⟨[], H, I, .nil, h⟩
theorem pa_cons (ha : PE X e te) (hr : PA X es t) (hs : starEach (e :: es) X.env = (false, eval e X.env) :: starEach es X.env := by rfl) : PA X (e :: es) (tCons te t) := by
  intro pos pins s σ H Q I h
  rw [hs]
  show wpAny _ _ (spliced ((false, eval e X.env) :: backTo pos (starEach es X.env))) _ _ s
  refine Calls.spliced_cons (thn (ha pins s σ H _ I h) fun u s1 ⟨x, H1, I1, r1, q1⟩ => ?_)
  exact thn (hr pos pins s1 σ H1 _ I1 q1) fun us s2 ⟨xs, H2, I2, r2, q2⟩ => ⟨x :: xs, H2, I2, .cons r1 r2, q2⟩
def tTup (t : TA) : TE := fun σ H Q => t σ H fun xs H1 => xs.length ≤ sizeLine ∧ ∀ p, H1 p = none → Q (.ref p) (upd H1 p (.tup xs))
def tLst (t : TA) : TE := fun σ H Q => t σ H fun xs H1 => xs.length ≤ sizeLine ∧ ∀ p, H1 p = none → Q (.ref p) (upd H1 p (.lst xs))
theorem pe_tup {x1} (h : PA X es t) : PE X (.Tuple es x1 pos) (tTup t) := by
  intro pins s σ H Q I hq
  refine wpAny_Tuple_spliced (thn (h pos pins s σ H _ I hq) fun us s1 ⟨xs, H1, I1, r, z, q⟩ => ⟨by rw [← r.length]; exact z, ?_⟩)
  have hf : H1 s1.heap.objs.size = none := I1.hok.fresh (Nat.le_refl _)
  refine ⟨.ref s1.heap.objs.size, upd H1 s1.heap.objs.size (.tup xs), I1.laid (t' := s1.toks) (fun b u e => Heap.get?_push_of_some _ e) (Nat.le_refl _) ?_, rfl, q _ hf⟩
  exact ⟨z, us, r, ⟨_, Heap.get?_push_size _ rfl, rfl, _, rfl⟩⟩
theorem pe_lst (h : PA X es t) : PE X (.List es pos) (tLst t) := by
  intro pins s σ H Q I hq
  refine wpAny_List_spliced (thn (h pos pins s σ H _ I hq) fun us s1 ⟨xs, H1, I1, r, z, q⟩ => ⟨by rw [← r.length]; exact z, ?_⟩)
  have hf : H1 s1.heap.objs.size = none := I1.hok.fresh (Nat.le_refl _)
  refine ⟨.ref s1.heap.objs.size, upd H1 s1.heap.objs.size (.lst xs), I1.laid (t' := s1.toks) (fun b u e => Heap.get?_push_of_some _ e) (Nat.le_refl _) ?_, rfl, q _ hf⟩
  exact ⟨z, us, 0, r, Heap.get?_push_size _ rfl⟩
end
abbrev Sp := List V → Hp → VK → XK → Prop
abbrev CXT := List Env → Hp → Shared → XK → Value → Shared → Prop
structure Env0 (P : Program) (w : World) (K : PySem.W.Frag) (mg : Str → Option Value) (base : Heap) (A : Around) (outer : List Env) (s : Shared) (H : Hp) : Prop where
  frames : A.frames = some outer
  mod : Mod K mg base
  bs : ∀ b o, base.get? b = some o → s.heap.get? b = some o ∧ H b = none
  bsz : base.objs.size ≤ s.heap.objs.size
  funs : s.heap.FunFrames base outer
  frf : ∀ b ∈ frs outer, H b = none
  hok : HOk P w H s.heap
  bare : AllBare s.gens
def CE (outer : List Env) (P : Program) (w : World) (H : Hp) (s : Shared) (Q : VK) (u : Value) (s' : Shared) : Prop :=
  ∃ v H', s'.os = s.os ∧ AllBare s'.gens ∧ Un (frs outer) [] H H' s.heap s'.heap ∧ HOk P w H' s'.heap ∧ RelV v u ∧ Q v H'
def CR (CX : CXT) (outer : List Env) (P : Program) (w : World) (H : Hp) (s : Shared) (Q : VK) (E : XK) (r : Result) (s' : Shared) : Prop :=
  match r with
  | .ok (.ret u) => CE outer P w H s Q u s'
  | .ok _ => False
  | .error e => CX outer H s E e s'
structure FnOk (P : Program) (w : World) (K : PySem.W.Frag) (mg : Str → Option Value) (base : Heap) (CX : CXT) (k : Nat) (f : Addr) (fd : FuncData) (ps : List Str) (sp : Sp) : Prop where
  len : ∀ vs H Q E, sp vs H Q E → vs.length = ps.length
  run : ∀ (A : Around) (outer : List Env) (s : Shared) (H : Hp) (args : Args) (us : List Value) (vs : List V) (Q : VK) (E : XK), Room k A → Env0 P w K mg base A outer s H → BindsTo s fd args (ps.zip us) → Vals vs us → sp vs H Q E →
    codeAny (model P w) A (.call (.ref f) args) (CR CX outer P w H s Q E) s
section
variable {X : Cx} {pins : List (Addr × Obj)} {σ : St} {H : Hp} {s s' : Shared}
theorem Inv.env0 (I : Inv X pins σ H s) : Env0 X.prog X.w X.K X.mg X.base X.A X.stack s H :=
  ⟨I.ok.frames, I.ok.mod, I.bs, Nat.le_trans I.ok.bsz I.sz, I.stack, I.stkFree, I.hok, I.bare⟩
theorem Inv.after {Q : VK} {u : Value} (I : Inv X pins σ H s) (h : CE X.stack X.prog X.w H s Q u s') : EP X pins σ Q u s' := by
  obtain ⟨v, H', os, bare, un, hok, r, q⟩ := h
  obtain ⟨hh, g, d, t, os'⟩ := s'
  obtain rfl : os' = s.os := os
  exact ⟨v, H', I.call (h' := hh) (g' := g) (d' := d) (t' := t) (ch := []) un hok bare (fun b z => absurd z (by simp)), r, q⟩
end
def tCall (sp : Sp) (dvs : List V) (E : XK) (t : TA) : TE := fun σ H Q => t σ H fun vs H1 => sp (vs ++ dvs) H1 Q E
def Binds (K : PySem.W.Frag) (fd : FuncData) (ps : List Str) (ds : List Value) : Prop :=
  ∀ (s : Shared) (us : List Value), K.In s.heap → (us ++ ds).length = ps.length → BindsTo s fd ⟨us, []⟩ (ps.zip (us ++ ds))
theorem Binds.all {K : PySem.W.Frag} {fd : FuncData} {ps : List Str} (h : ∀ us : List Value, us.length = ps.length → bindArgs fd ⟨us, []⟩ = pure (ps.zip us)) : Binds K fd ps [] := fun s us _ hl => by
  rw [List.append_nil] at hl ⊢
  exact .of_eq (h us hl)
def Passes (CX : CXT) (X : Cx) (E : XK) : Prop := ∀ (pins : List (Addr × Obj)) (σ : St) (H : Hp) (s : Shared) (e : Value) (s' : Shared), Inv X pins σ H s → CX X.stack H s E e s' → X.xe e s'
section
variable {X : Cx} {CX : CXT} {k : Nat} {f C : Addr} {fd : FuncData} {ps : List Str} {sp : Sp} {dvs : List V} {ds : List Value} {E : XK} {x m : Str} {p pos apos : Pos} {e o : Expr} {es : List Expr} {ta : TE} {t : TA}
theorem run_fn {pins : List (Addr × Obj)} {σ : St} {H : Hp} {s : Shared} {Q : VK} {us : List Value} {vs : List V} (F : FnOk X.prog X.w X.K X.mg X.base CX k f fd ps sp) (hr : Room k X.A) (hb : Binds X.K fd ps ds) (hd : Vals dvs ds) (hx : Passes CX X E)
    (I : Inv X pins σ H s) (r : Vals vs us) (h : sp (vs ++ dvs) H Q E) : wpAny (model X.prog X.w) X.A (call (.ref f) us) (EP X pins σ Q) X.xe s := by
  have r2 : Vals (vs ++ dvs) (us ++ ds) := r.append hd
  have hl : (us ++ ds).length = ps.length := by rw [← r2.length]; exact F.len _ _ _ _ h
  refine wpAny_call (codeAny_mono (F.run X.A X.stack s H ⟨us, []⟩ (us ++ ds) (vs ++ dvs) Q E hr I.env0 (hb s us I.kIn hl) r2 h) fun r s' hq => ?_)
  cases r with
  | error e => exact hx pins σ H s e s' I hq
  | ok fl =>
    cases fl with
    | ret u => exact I.after hq
    | next => exact False.elim hq
    | brk => exact False.elim hq
    | cont => exact False.elim hq
theorem pe_call (F : FnOk X.prog X.w X.K X.mg X.base CX k f fd ps sp) (hr : Room k X.A) (hg : Gl X x) (hm : X.mg x = some (.ref f)) (hk : PySem.W.keepIn X.K (.ref f) = true) (hb : Binds X.K fd ps ds) (hd : Vals dvs ds) (hx : Passes CX X E)
    (ha : PA X (e :: es) t) (hdb : (x == ("__debug__" : Str)) = false := by decide) (he : starEach (e :: es) X.env = (false, eval e X.env) :: starEach es X.env := by rfl) (hpl : (backTo pos (starEach es X.env)).any (·.1) = false := by rfl) :
    PE X (.Call (.Name x p) (e :: es) [] pos) (tCall sp dvs E t) := by
  intro pins s σ H Q I h
  refine wpAny_Call_Name_kw (ld_glob I hg hm ?_ hdb)
  refine PySem.W.callWith_K (h₀ := X.base) I.ok.mod.kin hk (thn (ha pos pins s σ H _ I h) fun us s1 ⟨vs, H1, I1, r, q⟩ => ⟨I1.kIn, ?_⟩) he hpl
  exact run_fn F hr hb hd hx I1 r q
end
section
variable {X : Cx} {CX : CXT} {k : Nat} {f C : Addr} {fd : FuncData} {ps ks : List Str} {sp : Sp} {E : XK} {x m : Str} {p pos apos kpos : Pos} {e o : Expr} {es : List Expr} {kws : List Keyword} {te ta : TE} {t tk : TA} {nm : Option Str}
variable {g : List Value → List Value → List Value} {gV : List V → List V → List V}
end
structure FnScope (N P : List Str) (sc : Scope) : Prop where
  kind : sc.kind = .function
  co : sc.isCoroutine = false
  gen : sc.isGenerator = false
  nd : N.Nodup
  pre : N.take P.length = P
  par : ∀ x ∈ P, sc.names.lookup x = some .local ∨ sc.names.lookup x = some .cell
  nofree : ∀ y ∈ sc.names, y.2 ≠ .free
theorem bindL_out {kindOf : Str → Option NameKind} {x : Str} : ∀ {binds : List (Str × Value)} {m : Str → Option Value}, (∀ v, (x, v) ∉ binds) → bindL kindOf binds m x = m x
  | [], _, _ => rfl
  | (n, v) :: r, m, h => by
    unfold bindL
    rw [bindL_out fun w hw => h w (List.mem_cons_of_mem _ hw)]
    split
    · have : x ≠ n := by rintro rfl; exact h v List.mem_cons_self
      simp [this]
    · rfl
theorem bindC_out {kindOf : Str → Option NameKind} {x : Str} : ∀ {binds : List (Str × Value)} {m : Str → Option Value}, (∀ v, (x, v) ∉ binds) → bindC kindOf binds m x = m x
  | [], _, _ => rfl
  | (n, v) :: r, m, h => by
    unfold bindC
    rw [bindC_out fun w hw => h w (List.mem_cons_of_mem _ hw)]
    split
    · rfl
    · have : x ≠ n := by rintro rfl; exact h v List.mem_cons_self
      simp [this]
theorem bindL_get {kindOf : Str → Option NameKind} {x : Str} {v : Value} : ∀ {P : List Str} {vs : List Value} {i : Nat} {m : Str → Option Value}, P.Nodup → P[i]? = some x → vs[i]? = some v → kindOf x = some .local →
    bindL kindOf (P.zip vs) m x = some v
  | [], _, _, _, _, h, _, _ => by simp at h
  | _ :: _, [], _, _, _, _, h, _ => by simp at h
  | p :: P, w :: vs, 0, m, nd, h1, h2, hk => by
    simp at h1 h2; subst h1; subst h2
    show bindL kindOf ((p, w) :: P.zip vs) m p = _
    unfold bindL
    rw [bindL_out fun v hv => (List.nodup_cons.mp nd).1 (List.of_mem_zip hv).1, if_pos hk]
    simp
  | p :: P, w :: vs, i + 1, m, nd, h1, h2, hk => by
    show bindL kindOf ((p, w) :: P.zip vs) m x = _
    unfold bindL
    exact bindL_get (i := i) (List.nodup_cons.mp nd).2 (by simpa using h1) (by simpa using h2) hk
theorem bindC_get {kindOf : Str → Option NameKind} {x : Str} {v : Value} : ∀ {P : List Str} {vs : List Value} {i : Nat} {m : Str → Option Value}, P.Nodup → P[i]? = some x → vs[i]? = some v → kindOf x ≠ some .local →
    bindC kindOf (P.zip vs) m x = some v
  | [], _, _, _, _, h, _, _ => by simp at h
  | _ :: _, [], _, _, _, _, h, _ => by simp at h
  | p :: P, w :: vs, 0, m, nd, h1, h2, hk => by
    simp at h1 h2; subst h1; subst h2
    show bindC kindOf ((p, w) :: P.zip vs) m p = _
    unfold bindC
    rw [bindC_out fun v hv => (List.nodup_cons.mp nd).1 (List.of_mem_zip hv).1, if_neg hk]
    simp
  | p :: P, w :: vs, i + 1, m, nd, h1, h2, hk => by
    show bindC kindOf ((p, w) :: P.zip vs) m x = _
    unfold bindC
    exact bindC_get (i := i) (List.nodup_cons.mp nd).2 (by simpa using h1) (by simpa using h2) hk
def start (N : List Str) (vs : List V) : St := vs.map some ++ List.replicate (N.length - vs.length) none
def cxOf (CX : CXT) (P : Program) (w : World) (K : PySem.W.Frag) (mg : Str → Option Value) (base : Heap) (N : List Str) (qual : Str) (scope : Scope) (f : Addr) (cd : Value) (A : Around) (outer : List Env) (s : Shared) (H : Hp) (E : XK) : Cx where
  prog := P
  w := w
  K := K
  mg := mg
  base := base
  A := A.deeper (envOfC qual scope s.heap.objs.size f cd)
  N := N
  s₀ := s
  H₀ := H
  env := envOfC qual scope s.heap.objs.size f cd
  outer := outer
  stack := envOfC qual scope s.heap.objs.size f cd :: outer
  ex := []
  calm := true
  fn := fun _ => true
  pn := []
  xe := fun e s' => wpAny (model P w) (A.deeper (envOfC qual scope s.heap.objs.size f cd)) (leaving (envOfC qual scope s.heap.objs.size f cd) e) (fun _ s'' => CX outer H s E e s'') (fun e' s'' => CX outer H s E e' s'') s'
theorem cell_has {sc : Scope} {n : Nat} {x : Str} (h : sc.names.lookup x = some .cell) : ∃ c, (cellsFrom n sc.names []).lookup x = some c := by
  have q := PySem.W.cellsFrom_some sc.names n [] (.inl h)
  exact Option.isSome_iff_exists.mp q
theorem inv_start {CX : CXT} {P : Program} {w : World} {K : PySem.W.Frag} {mg : Str → Option Value} {base : Heap} {N ps : List Str} {qual : Str} {scope : Scope} {f : Addr} {cd : Value} {A : Around} {outer : List Env} {s s1 : Shared} {H : Hp} {E : XK} {us : List Value} {vs : List V}
    (S : FnScope N ps scope) (hd : A.handled = none) (e0 : Env0 P w K mg base A outer s H) (hl : vs.length = ps.length) (r : Vals vs us)
    (x : InCallC s s.heap.objs.size (bindL (envOfC qual scope s.heap.objs.size f cd).kindOf (ps.zip us) fun _ => none) (cellsFrom (s.heap.objs.size + 1) scope.names []) (bindC (envOfC qual scope s.heap.objs.size f cd).kindOf (ps.zip us) fun _ => none) s1) :
    Inv (cxOf CX P w K mg base N qual scope f cd A outer s H E) [] (start N vs) H s1 := by
  have hpl : ps.length ≤ N.length := by have := congrArg List.length S.pre; rw [List.length_take] at this; omega
  obtain ⟨h1, tk, rfl, hk⟩ := x.done
  have noA : ∀ b : Addr, b ∉ (cxOf CX P w K mg base N qual scope f cd A outer s H E).ex := fun b z => absurd (show b ∈ ([] : List Addr) from z) (by simp)
  refine ⟨⟨e0.mod, S.kind, rfl, rfl, Nat.le_refl _, fun y z c h1 h2 => ?_, fun y hy => ?_, fun y c _ h => ?_, fun _ => hd, Around.frames_deeper e0.frames, .inr ⟨rfl, rfl⟩, fun b z => absurd z (noA b), e0.bs, e0.bsz, fun b _ _ => noA b, fun b z => absurd z (noA b), e0.funs, e0.frf⟩,
    rfl, e0.bare, Un.kept hk, ⟨_, x.toInCall.ns, fun i y v h1 h2 h3 => ?_⟩, fun y c h => ⟨_, x.cell y c h⟩, e0.hok.fresh (Nat.le_refl _), fun y c h => ?_, fun p hp => absurd (show p ∈ ([] : List (Addr × Obj)) from hp) (by simp), e0.hok.kept hk, ?_⟩
  · exact name_of_addr x.apart (PySem.mem_of_lookup h1) (PySem.mem_of_lookup h2)
  · have hy : scope.names.lookup y = some .cell ∨ scope.names.lookup y = some .free := hy
    rcases hy with hy | hy
    · exact cell_has hy
    · exact absurd rfl (S.nofree _ (PySem.mem_of_lookup hy))
  · exact Nat.le_of_lt (x.above y c (PySem.mem_of_lookup h))
  · have hi : i < vs.length := by
      unfold start at h2
      by_cases hi : i < vs.length
      · exact hi
      · rw [List.getElem?_append_right (by simpa using hi)] at h2
        rw [List.getElem?_replicate] at h2
        split at h2 <;> cases h2
    have ha : vs[i]? = some v := by
      unfold start at h2
      rw [List.getElem?_append_left (by simpa using hi), List.getElem?_map] at h2
      cases e : vs[i]? with
      | none => rw [e] at h2; cases h2
      | some a => rw [e] at h2; cases h2; rfl
    obtain ⟨u, hu, rv⟩ := r.get ha
    have hp : ps[i]? = some y := by
      rw [← S.pre, List.getElem?_take_of_lt (by omega)]; exact h1
    have ndP : ps.Nodup := by rw [← S.pre]; exact S.nd.sublist (List.take_sublist _ _)
    refine ⟨u, rv, ?_⟩
    rcases S.par y (List.mem_of_getElem? hp) with k | k
    · exact .inl ⟨k, bindL_get ndP hp hu k⟩
    · obtain ⟨c, e⟩ := cell_has (n := s.heap.objs.size + 1) k
      refine .inr ⟨.inl k, c, e, ?_⟩
      have q := x.cell y c e
      rw [bindC_get ndP hp hu (by show scope.names.lookup y ≠ _; rw [k]; decide)] at q
      exact q
  · exact e0.hok.fresh (Nat.le_of_lt (x.above y c (PySem.mem_of_lookup h)))
  · unfold start
    show _ = N.length
    rw [List.length_append, List.length_map, List.length_replicate]
    omega
theorem fn_of {CX : CXT} {P : Program} {w : World} {K : PySem.W.Frag} {mg : Str → Option Value} {base : Heap} {k : Nat} {f : Addr} {name qual : Str} {params : Arguments} {body : List Stmt} {scope : Scope} {dV kV doc pm cdv ct oc : Value} {an od : Option Addr}
    {osl : Array (Option Value)} {N ps : List Str} {sp : Sp} (lk : K.lookup f = some ⟨oc, od, .func (PySem.W.fnOf name qual params body scope dV kV doc pm an cdv ct), osl⟩) (hcd : PySem.W.codeIn K cdv qual = true) (S : FnScope N ps scope)
    (len : ∀ vs H Q E, sp vs H Q E → vs.length = ps.length)
    (hbody : ∀ (A : Around) (outer : List Env) (s : Shared) (H : Hp) (vs : List V) (Q : VK) (E : XK), Room k (A.deeper (envOfC qual scope s.heap.objs.size f cdv)) → sp vs H Q E →
      ∃ t, PSs (cxOf CX P w K mg base N qual scope f cdv A outer s H E) body t ∧ t { nx := fun _ H' => Q .non H', rt := Q } (start N vs) H) :
    FnOk P w K mg base CX (k + 1) f (PySem.W.fnOf name qual params body scope dV kV doc pm an cdv ct) ps sp := by
  refine ⟨len, fun A outer s H args us vs Q E hr e0 hb r hsp => ?_⟩
  have hl := len _ _ _ _ hsp
  have KX : K.In s.heap := e0.mod.kin.keeps fun b o e => (e0.bs b o e).1
  have lim : s.heap.NoLimit := e0.mod.nolimit.keeps fun b o e => (e0.bs b o e).1
  have hkind : ∀ y ∈ ps.zip us, scope.names.lookup y.1 = some .local ∨ (scope.names.lookup y.1 = some .cell ∧ ((cellsFrom (s.heap.objs.size + 1) scope.names []).lookup y.1).isSome = true) := fun ⟨n, v⟩ hy => by
    rcases S.par n (List.of_mem_zip hy).1 with q | q
    · exact .inl q
    · exact .inr ⟨q, PySem.W.cellsFrom_some _ _ _ (.inl q)⟩
  refine codeAny_call_function hr.depth (KX _ _ lk) rfl S.co S.gen rfl (PySem.W.codeRec_of KX hcd) (hb _ _ _ _ ?_)
  refine wpAny_newFunctionEnv_cells S.kind hkind fun env he s1 x => ?_
  subst he
  refine ⟨lim.keeps x.toInCall.keep, codeAny_func ?_⟩
  obtain ⟨t, ht, hq⟩ := hbody A outer s H vs Q E (hr.deeper _) hsp
  have I : Inv (cxOf CX P w K mg base N qual scope f cdv A outer s H E) [] (start N vs) H s1 := inv_start S hr.hd e0 hl r x
  refine wpAny_mono (ht [] s1 (start N vs) H _ I hq) (fun fl s' hs => ?_) fun e s' hs => hs
  have fin : ∀ {σ' : St} {H' : Hp} {v : V} {u : Value}, Inv (cxOf CX P w K mg base N qual scope f cdv A outer s H E) [] σ' H' s' → RelV v u → Q v H' → CE outer P w H s Q u s' :=
    fun {σ' H' v u} J rv q => ⟨v, H', J.os, J.bare, J.base, J.hok, rv, q⟩
  cases fl with
  | ret u =>
    obtain ⟨v, σ', H', J, rv, q⟩ := hs
    exact fin J rv q
  | next =>
    obtain ⟨σ', H', J, q⟩ := hs
    exact fin (v := V.non) (u := Value.none) J rfl q
  | brk =>
    obtain ⟨_, _, _, q⟩ := hs
    exact False.elim q
  | cont =>
    obtain ⟨_, _, _, q⟩ := hs
    exact False.elim q
end L2
namespace L2
open PySem PySem.Spec PyProof.Rows
section
variable {X : Cx} {x : Str} {p pos : Pos} {e : Expr} {es : List Expr} {t : TA} {id T : String} {r : List V → Hp → VK → Prop}
def tCB (r : List V → Hp → VK → Prop) (t : TA) : TE := fun σ H Q => t σ H fun vs H1 => r vs H1 Q
theorem pe_callB (hc : CallR X (.builtin id) r) (hg : Gl X x) (hm : X.mg x = none) (hv : bootBuiltins x = some (.builtin id)) (ha : PA X (e :: es) t) (hn : x ≠ "__name__" := by decide) (hdb : (x == ("__debug__" : Str)) = false := by decide)
    (he : starEach (e :: es) X.env = (false, eval e X.env) :: starEach es X.env := by rfl) (hpl : (backTo pos (starEach es X.env)).any (·.1) = false := by rfl) : PE X (.Call (.Name x p) (e :: es) [] pos) (tCB r t) := by
  intro pins s σ H Q I h
  refine wpAny_Call_Name_kw (ld_blt I hg hm hv ?_ hn hdb)
  exact PyProof.Rows.callWith_builtin1 (thn (ha pos pins s σ H _ I h) fun us s1 ⟨vs, H1, I1, r1, q1⟩ => hc pins s1 σ H1 vs us Q I1 r1 q1) he hpl
theorem pe_callTy (hc : CallR X (.type T) r) (hg : Gl X x) (hm : X.mg x = none) (hv : bootBuiltins x = some (.type T)) (ha : PA X (e :: es) t) (hn : x ≠ "__name__" := by decide) (hdb : (x == ("__debug__" : Str)) = false := by decide)
    (he : starEach (e :: es) X.env = (false, eval e X.env) :: starEach es X.env := by rfl) (hpl : (backTo pos (starEach es X.env)).any (·.1) = false := by rfl) : PE X (.Call (.Name x p) (e :: es) [] pos) (tCB r t) := by
  intro pins s σ H Q I h
  refine wpAny_Call_Name_kw (ld_blt I hg hm hv ?_ hn hdb)
  exact PyProof.Rows.callWith_type1 (thn (ha pos pins s σ H _ I h) fun us s1 ⟨vs, H1, I1, r1, q1⟩ => hc pins s1 σ H1 vs us Q I1 r1 q1) he hpl
end
end L2
namespace HT
open PySem PyProof.Rows
def lexLt : List Int → List Int → Bool
  | [], [] => false
  | [], _ :: _ => true
  | _ :: _, [] => false
  | x :: xs, y :: ys => if x = y then lexLt xs ys else decide (x < y)
theorem lexLt_cons (x y : Int) (xs ys : List Int) : lexLt (x :: xs) (y :: ys) = if x = y then lexLt xs ys else decide (x < y) := rfl
theorem lexLt_nil_nil : lexLt [] [] = false := rfl
theorem lexLt_nil_cons (y : Int) (ys : List Int) : lexLt [] (y :: ys) = true := rfl
theorem lexLt_cons_nil (x : Int) (xs : List Int) : lexLt (x :: xs) [] = false := rfl
theorem eqAt_int (A : Around) (s : Shared) (a : Int) (t : Tok) (c : Int) (u : Tok) : ∃ e, SeqAt.EqAt A s (.int a t) (.int c u) e ∧ (e = true ↔ a = c) :=
  ⟨(a == c), SeqAt.EqAt.int_int a t c u, by simp⟩
theorem rcLt_int (A : Around) (s : Shared) (a : Int) (t : Tok) (c : Int) (u : Tok) (prog : Program) (w : World) (E : Value → Shared → Prop) (Q : Value → Shared → Prop) (h : Q (.bool (decide (a < c))) s) :
    wpAny (model prog w) A (richCompare .Lt (.int a t) (.int c u)) Q E s :=
  (PyProof.Rows.lt_int h : wpAny (model prog w) A (compareOp .Lt (.int a t) (.int c u)) Q E s)
section
open PySem.SeqAt
open PySem.AutoSeq1 (wpAny_loadPart')
open PySem.MeetsSeq PySem.MeetsSeq2 PySem.MeetsSeq3
theorem tuple_lt_ints (l b : Addr) (items items2 : Array Value) (n n2 : Nat) (dd dd2 : Option Addr) (sl sl2 : Array (Option Value)) (ns ms : List Int) (hi : IntsAre items.toList ns) (hj : IntsAre items2.toList ms) :
    Meets (Builtin.«tuple.__lt__» ⟨[.ref l, .ref b], []⟩)
      (fun _ R s => s.heap.get? l = some { cls := .type "tuple", dict := dd, data := .seq items n, slots := sl } ∧ s.heap.get? b = some { cls := .type "tuple", dict := dd2, data := .seq items2 n2, slots := sl2 } ∧
        R (.ok (.ret (.bool (lexLt ns ms)))) s) :=
  .of_wp fun prog w A R s h => by
    obtain ⟨hp, g, d, tk, os⟩ := s; obtain ⟨hl, hb, h⟩ := h
    have f2 := AutoSeq1.sub_tuple_tuple
    have z1 : items.size = ns.length := by rw [← hi.length]; simp
    have z2 : items2.size = ms.length := by rw [← hj.length]; simp
    wp_walk using wpAny_loadPart' hl, wpAny_loadPart' hb, wpAny_forIn_list _ (fun rest b s' => b.1 = none ∧ s' = ⟨hp, g, d, tk, os⟩ ∧ ∃ (vs ws : List Value) (ns' ms' : List Int), rest = vs.zip ws ∧
      IntsAre vs ns' ∧ IntsAre ws ms' ∧ ns'.length + items2.size = ms'.length + items.size ∧ R (.ok (.ret (.bool (lexLt ns' ms')))) ⟨hp, g, d, tk, os⟩) _
    case turn =>
      rintro ⟨y, x⟩ rest b s' ⟨hb', rfl, vs, ws, ns', ms', hz, hvi, hwi, hlen, hR⟩
      cases hvi with
      | nil => rw [List.zip_nil_left] at hz; cases hz
      | cons a t hvi' =>
        cases hwi with
        | nil => rw [List.zip_nil_right] at hz; cases hz
        | cons c u hwi' =>
          rw [List.zip_cons_cons] at hz
          injection hz with hyx hrest
          injection hyx with hy hx
          subst hy hx
          rw [lexLt_cons] at hR
          simp only [List.length_cons] at hlen
          obtain ⟨e, he, hiff⟩ := eqAt_int A.in1 ⟨hp, g, d, tk, os⟩ a t c u
          refine wpAny_bind (he prog w _ _ ?_)
          cases e with
          | true =>
            rw [if_pos (hiff.mp rfl)] at hR
            wp_walk
            exact ⟨rfl, rfl, _, _, _, _, hrest, hvi', hwi', by omega, hR⟩
          | false =>
            rw [if_neg (fun q => absurd (hiff.mpr q) Bool.false_ne_true)] at hR
            have hri := rcLt_int A.in1 ⟨hp, g, d, tk, os⟩ a t c u prog w
            wp_walk using hri
            exact ⟨_, rfl, by simpa using hR⟩
    case fin =>
      rintro ⟨b1, b2⟩ s' ⟨hb', rfl, vs, ws, ns', ms', hz, hvi, hwi, hlen, hR⟩
      simp only at hb'
      subst hb'
      have hv : lexLt ns' ms' = decide (items.size < items2.size) := by
        cases hvi with
        | nil =>
          cases hwi with
          | nil =>
            simp only [List.length_nil] at hlen
            rw [lexLt_nil_nil]
            exact (decide_eq_false (by omega)).symm
          | cons c u hw =>
            simp only [List.length_nil, List.length_cons] at hlen
            rw [lexLt_nil_cons]
            exact (decide_eq_true (by omega)).symm
        | cons a t hv =>
          cases hwi with
          | nil =>
            simp only [List.length_nil, List.length_cons] at hlen
            rw [lexLt_cons_nil]
            exact (decide_eq_false (by omega)).symm
          | cons c u hw =>
            rw [List.zip_cons_cons] at hz
            cases hz
      rw [hv] at hR
      wp_walk
      exact ⟨_, rfl, by simpa [Builtin.Tuple.tupleCompareSizes] using hR⟩
    case h =>
      exact ⟨rfl, rfl, items.toList, items2.toList, ns, ms, rfl, hi, hj, by omega, h⟩
end
section
variable {prog : Program} {w : World} {A : Around} {E : Value → Shared → Prop} {s : Shared}
theorem lt_tupInts {l b : Addr} {items items2 : Array Value} {ns ms : List Int} {Q : Value → Shared → Prop} (hl : IsTup s.heap l items) (hb : IsTup s.heap b items2) (hi : IntsAre items.toList ns) (hj : IntsAre items2.toList ms)
    (hu : A.units < cLine) (h : Q (.bool (lexLt ns ms)) s) : wpAny (model prog w) A (compareOp .Lt (.ref l) (.ref b)) Q E s := by
  obtain ⟨⟨cls, dd, data, sl⟩, ho, hc, n, hd⟩ := id hl
  obtain ⟨⟨cls2, dd2, data2, sl2⟩, ho2, hc2, n2, hd2⟩ := id hb
  simp only at hc hd hc2 hd2
  subst hc hd hc2 hd2
  exact richCompare_meets_room (op := .Lt) ⟨_, ho, rfl⟩ ⟨_, ho2, rfl⟩ PySem.F.slot_tuple_lt PySem.F.entry_tuple_lt (PySem.F.args_tuple_lt_2 _ _) (tuple_lt_ints l b items items2 n n2 dd dd2 sl sl2 ns ms hi hj)
    ⟨ho, ho2, show Value.bool (lexLt ns ms) ≠ Value.notImplemented ∧ Q (.bool (lexLt ns ms)) s from ⟨(fun x => nomatch x), h⟩⟩ hu
def sIx (n d : Nat) : Option Int → Nat
  | none => d
  | some v => if v < 0 then (v + (n : Int)).toNat else min v.toNat n
theorem sIx_none (n d : Nat) : sIx n d none = d := rfl
theorem sIx_nat (n d k : Nat) : sIx n d (some (k : Int)) = min k n := by
  show (if (k : Int) < 0 then ((k : Int) + (n : Int)).toNat else min (k : Int).toNat n) = min k n
  rw [if_neg (by omega), Int.toNat_natCast]
end
end HT
namespace L2
open PySem PySem.Spec PyProof.Rows
abbrev TO := St → Hp → (Option Int → Hp → Prop) → Prop
def PO (X : Cx) (e : Option Expr) (t : TO) : Prop :=
  ∀ (pins : List (Addr × Obj)) (s : Shared) (σ : St) (H : Hp) (Q : Option Int → Hp → Prop), Inv X pins σ H s → t σ H Q →
    wpAny (model X.prog X.w) X.A (evalPart e X.env) (fun u s' => ∃ o H', Inv X pins σ H' s' ∧ IsPart u o ∧ Q o H') X.xe s
def tNoPart : TO := fun _ H Q => Q none H
def tPart (t : TE) : TO := fun σ H Q => t σ H fun x H1 => ∃ i, x = .int i ∧ Q (some i) H1
theorem intsAre_of {ns : List Int} : ∀ {us : List Value}, Vals (ns.map V.int) us → IntsAre us ns := by
  induction ns with
  | nil => intro us r; rw [List.map_nil] at r; cases r; exact .nil
  | cons n ns ih =>
    intro us r
    rw [List.map_cons] at r
    cases r with
    | cons r1 r2 =>
      obtain ⟨t, e⟩ := r1
      subst e
      exact .cons n t (ih r2)
section
variable {X : Cx} {e : Expr} {te : TE} {lo hi : Option Expr} {tl th : TO} {pos p2 : Pos}
theorem po_none : PO X none tNoPart := by
  intro pins s σ H Q I h
  rw [evalPart_none]
  exact wpAny_pure ⟨none, H, I, .none, h⟩
theorem po_some (h : PE X e te) : PO X (some e) (tPart te) := by
  intro pins s σ H Q I hw
  rw [evalPart_some]
  refine thn (h pins s σ H _ I hw) fun u s1 ⟨x, H1, I1, r1, q1⟩ => ?_
  obtain ⟨i, rfl, q⟩ := q1
  obtain ⟨t, rfl⟩ := r1
  exact ⟨some i, H1, I1, .int i t, q⟩
def SlR (X : Cx) (r : V → Option Int → Option Int → Hp → VK → Prop) : Prop :=
  ∀ (pins : List (Addr × Obj)) (s : Shared) (σ : St) (H : Hp) (x : V) (v vl vu : Value) (lo hi : Option Int) (sl : Addr) (Q : VK), Inv X pins σ H s → RelV x v → s.heap.IsSliceOf sl vl vu .none → IsPart vl lo → IsPart vu hi → r x lo hi H Q →
    ∃ T id, typeLookup (.type T) "__getitem__" = pure (some (.builtin id)) ∧ s.TypeIs v T ∧ wpAny (model X.prog X.w) X.A (getItem v (.ref sl)) (EP X pins σ Q) X.xe s
def tSl (r : V → Option Int → Option Int → Hp → VK → Prop) (te : TE) (tl th : TO) : TE := fun σ H Q => te σ H fun x H1 => tl σ H1 fun l H2 => th σ H2 fun u H3 => r x l u H3 Q
theorem pe_slice {r : V → Option Int → Option Int → Hp → VK → Prop} (hr : SlR X r) (he : PE X e te) (hl : PO X lo tl) (hu : PO X hi th) : PE X (.Subscript e (.Slice lo hi none p2) pos) (tSl r te tl th) := by
  intro pins s σ H Q I h
  refine Subscript_ (thn (he pins s σ H _ I h) fun v s1 ⟨x, H1, I1, r1, q1⟩ => ?_)
  refine wpAny_Slice (thn (hl pins s1 σ H1 _ I1 q1) fun vl s2 ⟨l, H2, I2, pl, q2⟩ => thn (hu pins s2 σ H2 _ I2 q2) fun vu s3 ⟨u, H3, I3, pu, q3⟩ => ?_)
  rw [evalPart_none]
  refine wpAny_pure ?_
  have I4 : Inv X pins σ H3 { s3 with heap := s3.heap.push { cls := .type "slice", data := .fields #[vl, vu, .none] } } := I3.kept (t' := s3.toks) fun b ob q => Heap.get?_push_of_some _ q
  obtain ⟨T, id, hT, ht, hg⟩ := hr pins { s3 with heap := s3.heap.push { cls := .type "slice", data := .fields #[vl, vu, .none] } } σ H3 x v vl vu l u s3.heap.objs.size Q I4 r1 (Heap.IsSliceOf.new ..) pl pu q3
  show wpAny (model X.prog X.w) X.A (subscriptTail e (.Slice lo hi none p2) v (.ref s3.heap.objs.size)) (EP X pins σ Q) X.xe { s3 with heap := s3.heap.push { cls := .type "slice", data := .fields #[vl, vu, .none] } }
  exact tail_any (ops := [.ref s3.heap.objs.size, v]) ht hT hg (by with_unfolding_all rfl)
def cutV (xs : List V) (lo hi : Option Int) : List V := (xs.drop (HT.sIx xs.length 0 lo)).take (HT.sIx xs.length xs.length hi - HT.sIx xs.length 0 lo)
theorem cutV_length (xs : List V) (lo hi : Option Int) : (cutV xs lo hi).length ≤ xs.length := by
  unfold cutV
  rw [List.length_take, List.length_drop]
  omega
end
end L2
namespace L2
open PySem PySem.Spec PyProof.Rows
def ixN (n : Nat) (i : Int) : Option Nat := if 0 ≤ i then (if i < n then some i.toNat else none) else if -(n : Int) ≤ i then some (i + n).toNat else none
def atI {α : Type} (xs : List α) (i : Int) : Option α := (ixN xs.length i).bind fun j => xs[j]?
theorem ixN_seq {n : Nat} {i : Int} {j : Nat} (h : ixN n i = some j) : seqIndex? i n = some j ∧ j < n ∧ -(n : Int) ≤ i ∧ i < n := by
  unfold ixN at h
  by_cases h0 : 0 ≤ i
  · rw [if_pos h0] at h
    by_cases h1 : i < n
    · rw [if_pos h1] at h
      have e : i.toNat = j := Option.some.inj h
      exact ⟨by rw [seqIndex_of h0 h1, e], by omega, by omega, h1⟩
    · rw [if_neg h1] at h; cases h
  · rw [if_neg h0] at h
    by_cases h1 : -(n : Int) ≤ i
    · rw [if_pos h1] at h
      have e : (i + n).toNat = j := Option.some.inj h
      exact ⟨by rw [seqIndex_neg (by omega) h1, e], by omega, h1, by omega⟩
    · rw [if_neg h1] at h; cases h
theorem atI_get {α : Type} {xs : List α} {i : Int} {v : α} (h : atI xs i = some v) : ∃ j, seqIndex? i xs.length = some j ∧ xs[j]? = some v ∧ j < xs.length ∧ -(xs.length : Int) ≤ i ∧ i < xs.length := by
  unfold atI at h
  cases e : ixN xs.length i with
  | none => rw [e] at h; cases h
  | some j =>
    rw [e] at h
    obtain ⟨h1, h2, h3, h4⟩ := ixN_seq e
    exact ⟨j, h1, h, h2, h3, h4⟩
theorem atI_nat {α : Type} {xs : List α} {j : Nat} {v : α} (h : xs[j]? = some v) : atI xs (j : Int) = some v := by
  have hj : j < xs.length := (List.getElem?_eq_some_iff.mp h).1
  have e : ixN xs.length (j : Int) = some j := by
    unfold ixN
    rw [if_pos (by omega), if_pos (by omega)]; simp
  unfold atI; rw [e]; exact h
def PlainIx (b : Expr) : Prop := ∀ o i, subscripted b false o i = operate [o, i] (getItem o i)
def IxR (X : Cx) (r : R2) : Prop :=
  ∀ (value slice : Expr) (pins : List (Addr × Obj)) (s : Shared) (σ : St) (H : Hp) (x y : V) (v u : Value) (Q : VK), Inv X pins σ H s → RelV x v → RelV y u → r x y H Q →
    subscripted slice false v u = operate [v, u] (getItem v u) → wpAny (model X.prog X.w) X.A (subscriptTail value slice v u) (EP X pins σ Q) X.xe s
def MtR (X : Cx) (id : String) (r : V → List V → Hp → VK → Prop) : Prop :=
  ∀ (pins : List (Addr × Obj)) (s : Shared) (σ : St) (H : Hp) (x : V) (xs : List V) (v : Value) (us : List Value) (Q : VK), Inv X pins σ H s → RelV x v → Vals xs us → r x xs H Q →
    wpAny (model X.prog X.w) X.A (call (.builtin id) (v :: us)) (EP X pins σ Q) X.xe s
section
variable {X : Cx} {a b : Expr} {ta tb : TE} {pos : Pos}
theorem pe_ix {r : R2} (hr : IxR X r) (ha : PE X a ta) (hb : PE X b tb) (hs : PlainIx b) : PE X (.Subscript a b pos) (tOp r ta tb) := by
  intro pins s σ H Q I h
  exact Subscript_ (binT ha hb I h fun v u s2 x y H2 I2 rx ry q => hr a b pins s2 σ H2 x y v u Q I2 rx ry q (hs _ _))
def rIxL (K : PySem.W.Frag) : R2 := fun x y H Q => ∃ p xs i v, x = .ref p ∧ y = .int i ∧ SqL K H p xs ∧ atI xs i = some v ∧ Q v H
def rIxT (K : PySem.W.Frag) : R2 := fun x y H Q => ∃ p xs i v, x = .ref p ∧ y = .int i ∧ SqT K H p xs ∧ atI xs i = some v ∧ Q v H
theorem ix_list : IxR X (rIxL X.K) := by
  intro value slice pins s σ H x y v u Q I rx ry h hs
  obtain ⟨p, xs, i, z, rfl, rfl, hq, he, q⟩ := h
  cases rx
  obtain ⟨t, rfl⟩ := ry
  obtain ⟨its, r, pl, hz⟩ := I.list hq
  obtain ⟨j, h1, h2, h3, h4, h5⟩ := atI_get he
  obtain ⟨w, ew, rw'⟩ := r.get h2
  have hl := r.length
  have hn := line63
  have fin : EP X pins σ Q w s := ⟨z, H, I, rw', q⟩
  by_cases h0 : 0 ≤ i
  · have hj : i.toNat = j := by
      rw [seqIndex_of h0 h5] at h1
      exact Option.some.inj h1
    exact item_listR pl.isList h0 (by omega) (by rw [hj]; simpa using ew) fin hs
  · have hj : (i + (its.toArray.size : Int)).toNat = j := by
      rw [seqIndex_neg (by omega) h4] at h1
      rw [List.size_toArray, ← hl]
      exact Option.some.inj h1
    exact subscriptTail_builtinR (x := w) pl.isList.typeIs slot_list_getitem.lookup
      (wpAny_getItem_list_neg (Q := fun r s' => r = w ∧ EP X pins σ Q r s') pl.isList (by omega) (by rw [List.size_toArray] <;> omega) (by omega) (by rw [hj]; simpa using ew) ⟨rfl, fin⟩) hs
theorem ix_tup : IxR X (rIxT X.K) := by
  intro value slice pins s σ H x y v u Q I rx ry h hs
  obtain ⟨p, xs, i, z, rfl, rfl, hq, he, q⟩ := h
  cases rx
  obtain ⟨t, rfl⟩ := ry
  obtain ⟨its, r, pl, hz⟩ := I.tuple hq
  obtain ⟨j, h1, h2, h3, h4, h5⟩ := atI_get he
  obtain ⟨w, ew, rw'⟩ := r.get h2
  have hl := r.length
  have hn := line63
  have fin : EP X pins σ Q w s := ⟨z, H, I, rw', q⟩
  exact subscriptTail_builtinR (x := w) pl.typeIs slot_tuple_getitem.lookup
    (getItem_tuple (j := j) (Q := fun r s' => r = w ∧ EP X pins σ Q r s') pl (by omega) (by omega) (by rw [List.size_toArray, ← hl]; exact h1) (by simpa using ew) ⟨rfl, fin⟩) hs
theorem slice_bounds (lo hi : Option Int) (n : Nat) : (sliceBounds lo hi none n).1 = ((HT.sIx n 0 lo : Nat) : Int) ∧ (sliceBounds lo hi none n).2.1 = ((HT.sIx n n hi : Nat) : Int) ∧ (sliceBounds lo hi none n).2.2 = 1 := by
  refine ⟨?_, ?_, rfl⟩
  · cases lo with
    | none => simp [sliceBounds, HT.sIx]
    | some i =>
      simp only [sliceBounds, HT.sIx, Option.getD_none, show (1 : Int) > 0 by decide, if_true]
      by_cases h : i < 0
      · simp only [h, if_true] <;> omega
      · simp only [h, if_false] <;> omega
  · cases hi with
    | none => simp [sliceBounds, HT.sIx]
    | some i =>
      simp only [sliceBounds, HT.sIx, Option.getD_none, show (1 : Int) > 0 by decide, if_true]
      by_cases h : i < 0
      · simp only [h, if_true] <;> omega
      · simp only [h, if_false] <;> omega
theorem slicePick_cut (its : List Value) (lo hi : Option Int) : slicePick its.toArray lo hi none = ((its.drop (HT.sIx its.length 0 lo)).take (HT.sIx its.length its.length hi - HT.sIx its.length 0 lo)).toArray := by
  obtain ⟨h1, h2, h3⟩ := slice_bounds lo hi its.toArray.size
  unfold slicePick
  rw [h1, h2, h3]
  simp only [sliceRange_one, pick_run, List.size_toArray] <;> rfl
def rSlL (K : PySem.W.Frag) : V → Option Int → Option Int → Hp → VK → Prop := fun x lo hi H Q => ∃ a xs, x = .ref a ∧ SqL K H a xs ∧ ∀ p, H p = none → Q (.ref p) (upd H p (.lst (cutV xs lo hi)))
theorem sl_list : SlR X (rSlL X.K) := by
  intro pins s σ H x v vl vu lo hi sl Q I rx hs pl pu h
  obtain ⟨a, xs, rfl, hx, q⟩ := h
  cases rx
  obtain ⟨its, r, ht, hz⟩ := I.list hx
  have hlen := r.length
  refine ⟨"list", _, slot_list_getitem.lookup, ht.isList.typeIs, ?_⟩
  refine wpAny_getItem_list_slice ht.isList hs pl pu .none (by simp) ?_ (by rw [List.size_toArray] <;> omega)
  rw [slicePick_cut, ← hlen]
  refine ⟨.ref s.heap.objs.size, _, I.laid (t' := s.toks) (o := .lst (cutV xs lo hi)) (fun b ob q => Heap.get?_push_of_some _ q) (Nat.le_refl _) ?_, rfl, q _ (I.hok.fresh (Nat.le_refl _))⟩
  exact ⟨Nat.le_trans (cutV_length xs lo hi) hz, _, 0, (r.drop (HT.sIx xs.length 0 lo)).take (HT.sIx xs.length xs.length hi - HT.sIx xs.length 0 lo), Heap.get?_push_size _ rfl⟩
def flatV : V → Bool
  | .non => true
  | .bl _ => true
  | .int _ => true
  | .str _ => true
  | _ => false
def eqV : V → V → Bool
  | .non, .non => true
  | .bl a, .bl b => a == b
  | .bl a, .int b => (if a then 1 else 0) == b
  | .int a, .bl b => a == (if b then 1 else 0)
  | .int a, .int b => a == b
  | .str a, .str b => a == b
  | _, _ => false
theorem eqAt_V {A : Around} {s : Shared} {y x : V} {u v : Value} (ry : RelV y u) (rx : RelV x v) (fy : flatV y = true) (fx : flatV x = true) : SeqAt.EqAt A s u v (eqV y x) := by
  cases y with
  | non =>
    cases ry
    cases x with
    | non => cases rx; exact SeqAt.EqAt.same _
    | bl b => cases rx; exact SeqAt.EqAt.none_bool b
    | int b => obtain ⟨t, rfl⟩ := rx; exact SeqAt.EqAt.none_int b t
    | str b => obtain ⟨t, rfl⟩ := rx; exact SeqAt.EqAt.none_str b t
    | _ => exact absurd (show false = true from fx) Bool.false_ne_true
  | bl a =>
    cases ry
    cases x with
    | non => cases rx; exact SeqAt.EqAt.bool_none a
    | bl b => cases rx; exact SeqAt.EqAt.bool_bool a b
    | int b => obtain ⟨t, rfl⟩ := rx; exact SeqAt.EqAt.bool_int a b t
    | str b => obtain ⟨t, rfl⟩ := rx; exact SeqAt.EqAt.bool_str a b t
    | _ => exact absurd (show false = true from fx) Bool.false_ne_true
  | int a =>
    obtain ⟨t', rfl⟩ := ry
    cases x with
    | non => cases rx; exact SeqAt.EqAt.int_none a t'
    | bl b => cases rx; exact SeqAt.EqAt.int_bool a t' b
    | int b => obtain ⟨t, rfl⟩ := rx; exact SeqAt.EqAt.int_int a t' b t
    | str b => obtain ⟨t, rfl⟩ := rx; exact SeqAt.EqAt.int_str a t' b t
    | _ => exact absurd (show false = true from fx) Bool.false_ne_true
  | str a =>
    obtain ⟨t', rfl⟩ := ry
    cases x with
    | non => cases rx; exact SeqAt.EqAt.str_none a t'
    | bl b => cases rx; exact SeqAt.EqAt.str_bool a t' b
    | int b => obtain ⟨t, rfl⟩ := rx; exact SeqAt.EqAt.str_int a t' b t
    | str b => obtain ⟨t, rfl⟩ := rx; exact SeqAt.EqAt.str_str a t' b t
    | _ => exact absurd (show false = true from fx) Bool.false_ne_true
  | _ => exact absurd (show false = true from fy) Bool.false_ne_true
def eqU (x : V) (u : Value) : Bool := match u with
  | .none => eqV .non x
  | .bool b => eqV (.bl b) x
  | .int i _ => eqV (.int i) x
  | .str z _ => eqV (.str z) x
  | _ => false
theorem eqU_of {x y : V} {u : Value} (r : RelV y u) (f : flatV y = true) : eqU x u = eqV y x := by
  cases y with
  | non => cases r; rfl
  | bl b => cases r; rfl
  | int i => obtain ⟨t, rfl⟩ := r; rfl
  | str z => obtain ⟨t, rfl⟩ := r; rfl
  | _ => exact absurd (show false = true from f) Bool.false_ne_true
theorem any_eqU {x : V} : ∀ {xs : List V} {us : List Value}, Vals xs us → xs.all flatV = true → us.any (eqU x) = xs.any fun y => eqV y x
  | _, _, .nil, _ => rfl
  | y :: xs, u :: us, .cons r t, f => by
    rw [List.all_cons, Bool.and_eq_true] at f
    rw [List.any_cons, List.any_cons, eqU_of r f.1, any_eqU t f.2]
theorem mem_eqAt {A : Around} {s : Shared} {x : V} {v : Value} (rx : RelV x v) (fx : flatV x = true) : ∀ {xs : List V} {us : List Value}, Vals xs us → xs.all flatV = true → ∀ u ∈ us, SeqAt.EqAt A s u v (eqU x u)
  | _, _, .nil, _ => fun u hu => by cases hu
  | y :: xs, u :: us, .cons r t, f => fun u' hu => by
    rw [List.all_cons, Bool.and_eq_true] at f
    rcases List.mem_cons.mp hu with rfl | hu
    · rw [eqU_of r f.1]; exact eqAt_V r rx f.1 fx
    · exact mem_eqAt rx fx t f.2 u' hu
def inV (x : V) (xs : List V) : Bool := xs.any fun y => eqV y x
def rIn (K : PySem.W.Frag) (neg : Bool) : R2 := fun x y H Q => ∃ p xs, y = .ref p ∧ (SqL K H p xs ∨ SqT K H p xs) ∧ flatV x = true ∧ xs.all flatV = true ∧ Q (.bl (if neg then !inV x xs else inV x xs)) H
theorem op_in_seq : OpR X (compareOp .In) (rIn X.K false) := by
  intro pins s σ H x y v u Q I rx ry h
  obtain ⟨p, xs, rfl, hq, fx, fs, q⟩ := h
  cases ry
  rcases hq with hq | hq
  · obtain ⟨its, r, pl, hz⟩ := I.list hq
    refine SeqAt.in_listAt (eqU x) pl.isList (fun w hw => mem_eqAt rx fx r fs w (by simpa using hw)) ⟨.bl _, H, I, rfl, ?_⟩
    rw [show its.toArray.any (eqU x) = its.any (eqU x) by simp, any_eqU r fs]
    exact q
  · obtain ⟨its, r, pl, hz⟩ := I.tuple hq
    refine SeqAt.in_tupleAt (eqU x) pl (fun w hw => mem_eqAt rx fx r fs w (by simpa using hw)) ⟨.bl _, H, I, rfl, ?_⟩
    rw [show its.toArray.any (eqU x) = its.any (eqU x) by simp, any_eqU r fs]
    exact q
theorem call_len_seq : CallR X (.builtin "len") (fun xs H Q => ∃ p ys, xs = [.ref p] ∧ (SqL X.K H p ys ∨ SqT X.K H p ys) ∧ Q (.int ys.length) H) := by
  intro pins s σ H xs us Q I r h
  obtain ⟨p, ys, rfl, hq, q⟩ := h
  obtain ⟨u, rfl, rx⟩ := vals1 r
  cases rx
  have hn := line63
  rcases hq with hq | hq
  · obtain ⟨its, r', pl, hz⟩ := I.list hq
    have hlen := r'.length
    exact Calls.call_len_list pl.isList (by simp only [List.size_toArray] <;> omega) ⟨.int ys.length, H, I.tok _, ⟨s.toks + 1, by rw [List.size_toArray, hlen]⟩, q⟩
  · obtain ⟨its, r', pl, hz⟩ := I.tuple hq
    have hlen := r'.length
    exact len_tuple pl (by simp only [List.size_toArray] <;> omega) ⟨.int ys.length, H, I.tok _, ⟨s.toks + 1, by rw [List.size_toArray, hlen]⟩, q⟩
theorem call_list_of : CallR X (.type "list") (fun xs H Q => ∃ p ys, xs = [.ref p] ∧ (SqL X.K H p ys ∨ SqT X.K H p ys) ∧ ∀ l, H l = none → Q (.ref l) (upd H l (.lst ys))) := by
  intro pins s σ H xs us Q I r h
  obtain ⟨p, ys, rfl, hq, q⟩ := h
  obtain ⟨u, rfl, rx⟩ := vals1 r
  cases rx
  have fin : ∀ (its : List Value), Vals ys its → ys.length ≤ sizeLine → ∀ (h' : Heap) (c' : Nat), (∀ b o', s.heap.get? b = some o' → h'.get? b = some o') →
      h'.get? s.heap.objs.size = some { cls := .type "list", dict := none, data := .seq its.toArray c', slots := #[] } → EP X pins σ Q (.ref s.heap.objs.size) { s with heap := h' } := fun its r' hz h' c' kp e =>
    ⟨.ref s.heap.objs.size, _, I.laid (t' := s.toks) kp (Nat.le_refl _) (show ObjOk X.prog X.w _ h' _ (.lst ys) from ⟨hz, its, c', r', e⟩), rfl, q _ (I.hok.fresh (Nat.le_refl _))⟩
  rcases hq with hq | hq
  · obtain ⟨its, r', pl, hz⟩ := I.list hq
    have hlen := r'.length
    obtain ⟨o, ho, hc, n, hd⟩ := pl.isList
    exact call_list_seq p (.inl rfl) ho hc hd (fun h' c' kp e => fin its r' hz h' c' kp e) (by simp only [List.size_toArray] <;> omega)
  · obtain ⟨its, r', pl, hz⟩ := I.tuple hq
    have hlen := r'.length
    obtain ⟨o, ho, hc, n, hd⟩ := pl
    exact call_list_seq p (.inr rfl) ho hc hd (fun h' c' kp e => fin its r' hz h' c' kp e) (by simp only [List.size_toArray] <;> omega)
theorem call_tuple_of : CallR X (.type "tuple") (fun xs H Q => ∃ p ys, xs = [.ref p] ∧ ((SqL X.K H p ys ∧ ∀ l, H l = none → Q (.ref l) (upd H l (.tup ys))) ∨ (SqT X.K H p ys ∧ Q (.ref p) H))) := by
  intro pins s σ H xs us Q I r h
  obtain ⟨p, ys, rfl, h⟩ := h
  obtain ⟨u, rfl, rx⟩ := vals1 r
  cases rx
  rcases h with ⟨hq, q⟩ | ⟨hq, q⟩
  · obtain ⟨its, r', pl, hz⟩ := I.list hq
    have hlen := r'.length
    refine call_tuple_list pl.isList (fun h' kp => ?_) (by simp only [List.size_toArray] <;> omega)
    have I1 : Inv X pins σ H { s with heap := h' } := I.kept (t' := s.toks) kp
    have I2 : Inv X pins σ (upd H h'.objs.size (.tup ys)) { s with heap := h'.push { cls := .type "tuple", data := .seq its.toArray } } :=
      I1.laid (t' := s.toks) (fun b o e => Heap.get?_push_of_some _ e) (Nat.le_refl _) (show ObjOk X.prog X.w _ _ _ (.tup ys) from ⟨hz, its, r', IsTup.new _ _⟩)
    exact ⟨.ref h'.objs.size, _, I2, rfl, q _ (I1.hok.fresh (Nat.le_refl _))⟩
  · obtain ⟨its, r', pl, hz⟩ := I.tuple hq
    exact call_tuple_same pl ⟨.ref p, H, I, rfl, q⟩
def tyV (K : PySem.W.Frag) (T : String) (x : V) (H : Hp) : Prop := match x with
  | .str _ => T = "str"
  | .int _ => T = "int"
  | .ref p => (T = "list" ∧ ∃ xs, SqL K H p xs) ∨ (T = "tuple" ∧ ∃ o, K.lookup p = some o ∧ o.cls = .type "tuple" ∧ o.dict = none) ∨
      (T = "dict" ∧ ((∃ kvs, H p = some (.dK kvs)) ∨ ∃ kvs, H p = some (.dT kvs))) ∨ (T = "set" ∧ ∃ S n, H p = some (.set S n))
  | _ => False
theorem tyV_is {pins : List (Addr × Obj)} {σ : St} {H : Hp} {s : Shared} {T : String} {x : V} {v : Value} (I : Inv X pins σ H s) (r : RelV x v) (ty : tyV X.K T x H) :
    s.TypeIs v T ∧ ∀ a, v = .ref a → ∃ ob, s.heap.get? a = some ob ∧ ob.dict = none := by
  cases x with
  | str z =>
    obtain ⟨t, rfl⟩ := r
    cases (show T = "str" from ty)
    exact ⟨typeIs_str s z t, fun _ e => nomatch e⟩
  | int i =>
    obtain ⟨t, rfl⟩ := r
    cases (show T = "int" from ty)
    exact ⟨typeIs_int s i t, fun _ e => nomatch e⟩
  | ref p =>
    cases r
    rcases ty with ⟨rfl, xs, hq⟩ | ⟨rfl, o, hk, hc, hd⟩ | ⟨rfl, hk⟩ | ⟨rfl, S, n, hk⟩
    · obtain ⟨its, _, pl, _⟩ := I.list hq
      refine ⟨pl.isList.typeIs, fun a e => ?_⟩
      cases e
      obtain ⟨o, n, e, c, hd, _⟩ := pl
      exact ⟨o, e, hd⟩
    · refine ⟨⟨o, I.kIn p o hk, hc⟩, fun a e => ?_⟩
      cases e
      exact ⟨o, I.kIn _ o hk, hd⟩
    · have z : ∃ o, s.heap.get? p = some o ∧ o.ExactDict := by
        rcases hk with ⟨kvs, hk⟩ | ⟨kvs, hk⟩
        · obtain ⟨_, _, _, _, o, _, _, e, ex, _⟩ := I.hok p _ hk
          exact ⟨o, e, ex⟩
        · obtain ⟨_, _, _, _, o, _, _, e, ex, _⟩ := I.hok p _ hk
          exact ⟨o, e, ex⟩
      obtain ⟨o, e, ex⟩ := z
      refine ⟨⟨o, e, ex.1⟩, fun a e2 => ?_⟩
      cases e2
      exact ⟨o, e, ex.2.1⟩
    · obtain ⟨o, _, _, _, e, ex, _⟩ := I.hok p _ hk
      refine ⟨⟨o, e, ex.1⟩, fun a e2 => ?_⟩
      cases e2
      exact ⟨o, e, ex.2.1⟩
  | _ => exact False.elim ty
def tBM (K : PySem.W.Frag) (T : String) (r : V → List V → Hp → VK → Prop) (to : TE) (t : TA) : TE := fun σ H Q => to σ H fun x H1 => tyV K T x H1 ∧ t σ H1 fun xs H2 => r x xs H2 Q
variable {o e : Expr} {es : List Expr} {to : TE} {t : TA} {name : Str} {apos cpos : Pos} {T id : String} {r : V → List V → Hp → VK → Prop}
theorem pe_bm (pa : PlainAttrs T) (slot : Slot T name id) (hty : typeOf (.builtin id) = pure (.type "method_descriptor")) (hm : MtR X id r) (ho : PE X o to) (ha : PA X (e :: es) t)
    (hbase : attributeBase o name X.env (eval o X.env) = eval o X.env := by rfl)
    (hfew : ((backTo cpos (starEach (e :: es) X.env)).all (fun x => !x.1) && (backToKw cpos (keywordEach [] X.env)).all (fun x => x.1.isSome)
      && decide ((e :: es).length + ([] : List Keyword).length + (if ([] : List Keyword).isEmpty then 0 else 1) < 30)) = true := by rfl)
    (hline : (apos.endLine == cpos.line) = true := by rfl) (hs : starEach (e :: es) X.env = (false, eval e X.env) :: starEach es X.env := by rfl) (hplain : (backTo cpos (starEach es X.env)).any (·.1) = false := by rfl) :
    PE X (.Call (.Attribute o name apos) (e :: es) [] cpos) (tBM X.K T r to t) := by
  intro pins s σ H Q I h
  refine wpAny_Call_method_late hbase hfew hline rfl (thn (ho pins s σ H _ I h) fun v s1 ⟨x, H1, I1, r1, ty, q1⟩ => ?_)
  obtain ⟨h1, h2⟩ := tyV_is I1 r1 ty
  refine ⟨T, id, pa, slot, hty, h1, h2, ?_⟩
  have hA := ha cpos pins s1 σ H1 _ I1 q1
  rw [hs] at hA ⊢
  refine Calls.callWith_builtin (by show (false || (backTo cpos (starEach es X.env)).any (·.1)) = false; rw [hplain] <;> rfl) (Calls.evalArgs_plain ?_)
  exact thn hA fun us s2 ⟨vs, H2, I2, r2, q2⟩ => hm pins s2 σ H2 x vs v us Q I2 r1 r2 q2
end
end L2
namespace L2
open PySem PySem.Spec PyProof.Rows
def MtM (X : Cx) (id : String) (r : V → List V → Hp → VK → Prop) : Prop :=
  ∀ (pins : List (Addr × Obj)) (s : Shared) (σ : St) (H : Hp) (x : V) (xs : List V) (v : Value) (us : List Value) (Q : VK), Inv X pins σ H s → RelV x v → Vals xs us → r x xs H Q →
    wpAny (model X.prog X.w) X.A (call (.builtin id) (v :: us)) (EP X pins σ Q) X.xe s
theorem Vals.one : ∀ {x : V} {us : List Value}, Vals [x] us → ∃ u, us = [u] ∧ RelV x u
  | _, _, .cons r .nil => ⟨_, rfl, r⟩
theorem Vals.eraseIdx : ∀ {xs : List V} {us : List Value} (i : Nat), Vals xs us → Vals (xs.eraseIdx i) (us.eraseIdx i)
  | _, _, _, .nil => .nil
  | _, _, 0, .cons _ t => t
  | _, _, i + 1, .cons r t => .cons r (Vals.eraseIdx i t)
theorem len_erase {α : Type} : ∀ (l : List α) (i : Nat), (l.eraseIdx i).length ≤ l.length
  | [], _ => Nat.le_refl _
  | _ :: _, 0 => Nat.le_succ _
  | _ :: r, i + 1 => Nat.succ_le_succ (len_erase r i)
section
variable {X : Cx} {pins : List (Addr × Obj)} {σ : St} {H : Hp} {s : Shared} {l b : Addr} {xs ys zs : List V}
theorem Inv.lset {its its' : List Value} {n : Nat} {f : Array Value → Array Value} {t' : Nat} (I : Inv X pins σ H s) (hH : H l = some (.lst xs))
    (e : s.heap.get? l = some { cls := .type "list", data := .seq its.toArray n }) (hf : f its.toArray = its'.toArray) (hv : Vals ys its') (hz : ys.length ≤ sizeLine) :
    Inv X pins σ (upd H l (.lst ys)) { s with heap := s.heap.update l (Obj.mapSeq f), toks := t' } := by
  have q := PySem.IsL.update e f
  rw [hf] at q
  refine I.write (x := l) (e := l) (by rw [hH]; exact trivial) (.inl rfl) (fun b' u hb hu => (Heap.get?_update_other s.heap (Obj.mapSeq f) (Ne.symm hb)).trans hu) ⟨_, q⟩ ?_
  exact ⟨hz, its', _, hv, q⟩
theorem Inv.lnew {its : List Value} {t' : Nat} (I : Inv X pins σ H s) (hv : Vals ys its) (hz : ys.length ≤ sizeLine) :
    Inv X pins σ (upd H s.heap.objs.size (.lst ys)) { s with heap := s.heap.push { cls := .type "list", data := .seq its.toArray }, toks := t' } :=
  I.laid (fun _ _ q => Heap.get?_push_of_some _ q) (Nat.le_refl _) ⟨hz, its, 0, hv, Heap.get?_push_size _ rfl⟩
theorem Inv.fresh (I : Inv X pins σ H s) : H s.heap.objs.size = none := I.hok.fresh (Nat.le_refl _)
theorem Inv.lstM (I : Inv X pins σ H s) (hH : H l = some (.lst xs)) : xs.length ≤ sizeLine ∧ ∃ (its : List Value) (n : Nat), Vals xs its ∧ xs.length = its.length ∧ s.heap.get? l = some { cls := .type "list", data := .seq its.toArray n } := by
  obtain ⟨z, its, n, r, e⟩ := I.hok l _ hH
  exact ⟨z, its, n, r, r.length, e⟩
end
section
variable {X : Cx}
def rAppend : V → List V → Hp → VK → Prop := fun x vs H Q => ∃ l xs y, x = .ref l ∧ vs = [y] ∧ H l = some (.lst xs) ∧ xs.length < sizeLine ∧ Q .non (upd H l (.lst (xs ++ [y])))
theorem mt_append : MtM X "list.append" rAppend := by
  intro pins s σ H x vs v us Q I rx rv h
  obtain ⟨l, xs, y, rfl, rfl, hH, hz, q⟩ := h
  cases rx
  obtain ⟨u, rfl, ru⟩ := rv.one
  obtain ⟨z, its, n, r, hl, e⟩ := I.lstM hH
  refine call_meets F.slot_list_append ⟨_, e, rfl⟩ F.entry_list_append (F.args_list_append_2 _ _) (PySem.list_append l its.toArray n u (by rw [List.size_toArray]; omega)) ⟨e, ?_⟩
  refine ⟨.non, _, I.lset (its' := its ++ [u]) hH e (by simp) (r.append (.cons ru .nil)) ?_, rfl, q⟩
  rw [List.length_append, List.length_singleton]
  omega
def rPopAt : V → List V → Hp → VK → Prop := fun x vs H Q => ∃ l xs i k y, x = .ref l ∧ vs = [.int i] ∧ H l = some (.lst xs) ∧ -(2 ^ 63) ≤ i ∧ i < 2 ^ 63 ∧ seqIndex? i xs.length = some k ∧ xs[k]? = some y ∧ Q y (upd H l (.lst (xs.eraseIdx k)))
theorem mt_popAt : MtM X "list.pop" rPopAt := by
  intro pins s σ H x vs v us Q I rx rv h
  obtain ⟨l, xs, i, k, y, rfl, rfl, hH, h1, h2, hk, hy, q⟩ := h
  cases rx
  obtain ⟨u, rfl, ru⟩ := rv.one
  obtain ⟨t, rfl⟩ := ru
  obtain ⟨z, its, n, r, hl, e⟩ := I.lstM hH
  obtain ⟨w, hw, rw'⟩ := r.get hy
  refine call_meets F.slot_list_pop ⟨_, e, rfl⟩ F.entry_list_pop (F.args_list_pop_2 _ _)
    (MeetsSeq.list_pop_at l its.toArray n i t k w (fitsIndex_both h1 h2) (by rw [List.size_toArray, ← hl]; exact hk) (by rw [← Array.getElem?_toList]; exact hw) (by rw [List.size_toArray]; omega)) ⟨e, ?_⟩
  refine ⟨y, _, I.lset (its' := its.eraseIdx k) hH e ?_ (r.eraseIdx k) ?_, rw', q⟩
  · show its.toArray.eraseIdxIfInBounds k = (its.eraseIdx k).toArray
    rw [List.eraseIdxIfInBounds_toArray]
  · have := len_erase xs k
    omega
def rCat : R2 := fun x y H Q => ∃ l b xs zs, x = .ref l ∧ y = .ref b ∧ H l = some (.lst xs) ∧ H b = some (.lst zs) ∧ xs.length + zs.length ≤ sizeLine ∧ ∀ p, H p = none → Q (.ref p) (upd H p (.lst (xs ++ zs)))
theorem op_cat : OpR X (binaryOp .Add) rCat := by
  intro pins s σ H x y v u Q I rx ry h
  obtain ⟨l, b, xs, zs, rfl, rfl, hH, hB, hz, q⟩ := h
  cases rx
  cases ry
  obtain ⟨z, its, n, r, hl, e⟩ := I.lstM hH
  obtain ⟨z2, its2, n2, r2, hl2, e2⟩ := I.lstM hB
  refine PySem.P.add_list e e2 ?_ (by rw [List.size_toArray, List.size_toArray]; omega)
  have ea : its.toArray ++ its2.toArray = (its ++ its2).toArray := by simp
  rw [ea]
  exact ⟨.ref _, _, I.lnew (t' := s.toks) (r.append r2) (by rw [List.length_append]; omega), rfl, q _ I.fresh⟩
end
section
variable {prog : Program} {w : World} {A : Around} {E : Value → Shared → Prop} {s : Shared}
set_option maxRecDepth 100000 in
end
section
variable {X : Cx}
end
end L2
namespace Att
open PySem PySem.W PySem.Calls PyProof.Rows
theorem ints_of_wellAll {P : Params} {h : Heap} : ∀ (ns : List Int) (vs : List Value), WellAll P h vs (ns.map WData.int) → IntsAre vs ns := by
  intro ns
  induction ns with
  | nil =>
    intro vs w
    rw [List.map_nil] at w
    cases w
    exact .nil
  | cons n ns ih =>
    intro vs w
    rw [List.map_cons] at w
    cases w with
    | cons a b =>
      cases a
      exact .cons _ _ (ih _ b)
theorem script_of {l : OpenLaw} {n : Nat} (hn : l.most = some n) {P : Params} {h : Heap} {args : List WData} {vals : List Value}
    (hpre : l.row.toRowW.claim.pre args = true) (hwl : WellAll P h vals args) :
    ∃ a vs ns, vals = [Value.ref a] ∧ args = [WData.list (ns.map WData.int)] ∧ h.get? a = some { cls := .type "list", data := .seq vs.toArray } ∧ IntsAre vs ns ∧ ns.length ≤ n := by
  have hsh : WShape.hasAll [] args [.list .int] = true := (pre_splitW hpre).1
  have hc : l.pre.holds [] { args := args } = true := (pre_splitW hpre).2
  obtain ⟨d, r, rfl, h1, h2⟩ := hasAllW_cons hsh
  obtain rfl := hasAllW_nil h2
  obtain ⟨xs, rfl, h3⟩ := hasW_list h1
  obtain ⟨ns, rfl⟩ := items_int h3
  have hlen : ns.length ≤ n := by
    unfold OpenLaw.pre at hc
    have h4 : (WTm.not (.lt (.lit (.int (n : Int))) (.len (.arg 0)))).holds [] { args := [.list (ns.map .int)] } = true := by
      have h4 := (holds_andW hc).1
      rw [hn] at h4
      exact h4
    have h5 := condW_of h4 (w_not (w_lt w_lit (w_len_list (w_arg rfl))))
    rw [List.length_map] at h5
    refine Nat.le_of_not_lt fun q => ?_
    have q' : (n : Int) < ((ns.length : Nat) : Int) := by omega
    first
      | (rw [decide_eq_true q'] at h5; exact absurd h5 (by decide))
      | (simp at h5; omega)
  cases hwl with
  | cons w1 w2 =>
    cases w2
    cases w1 with
    | list ho hall => exact ⟨_, _, ns, rfl, rfl, ho, ints_of_wellAll ns _ hall, hlen⟩
theorem post_true (l : OpenLaw) (args : List WData) : l.row.toRowW.claim.post args (.bool true) args = true :=
  postW_of (r := l.row.toRowW) (X := (true == true))
    (show WShape.has [] (.bool true) .bool = true by first | rfl | decide | simp [WShape.has, WShape.arms, WShape.armsAll])
    (show (WTm.eq .res (.lit (.bool true))).value [] { args := args, res := some (.bool true), after := args } = some (.bool (true == true)) from w_eq_bool (w_res rfl) w_lit) rfl
theorem attach_call {l : OpenLaw} {n : Nat} {q : Program} {loose : List Str} {XP : (Str → Option Value) → Heap → Prop} {YP : World → Heap → Prop} {d : DefRec}
    (hn : l.most = some n) (hdf : d.params.defaults = [])
    (call : ∀ (w : World) (s₀ s₁ : Shared) (mg mb : Str → Option Value) (fa : Addr) (o : Obj) (pm cd doc : Value) (a : Addr) (vs : List Value) (ns : List Int),
      Ground q loose [] XP w s₀ mg mb s₁.heap → YP w s₁.heap →
      s₁.heap.get? fa = some o → o.data = .func (docDef d.name d.params d.body d.scope pm cd doc) → s₁.heap.CodeRec cd d.name → mg d.name = some (.ref fa) →
      s₁.heap.get? a = some { cls := .type "list", data := .seq vs.toArray } → IntsAre vs ns → ns.length ≤ n → s₁.gens = #[] →
      codeAny (model l.prog w) callerA (.call (.ref fa) ⟨[.ref a], []⟩) (fun r s' => r = .ok (.ret (.bool true)) ∧ OldK s₁.heap s'.heap ∧ s'.os = s₁.os ∧ AllBare s'.gens) s₁) :
    WalkO q loose XP YP l.row.toRowW d [] (fun f vs => PySem.call f vs) := by
  intro w s₀ s₁ mg mb G Y fa o pm cd doc dV kV ho hd hcd hD hmg hg args vals as hpre hlay hrd hwl hlo
  obtain rfl : dV = .none := Dflts.none hD hdf
  obtain rfl : kV = .none := Dflts.noKw hD
  obtain ⟨a, vs, ns, rfl, rfl, hobj, hints, hlen⟩ := script_of hn hpre hwl
  refine enter_call (codeAny_mono (call w s₀ s₁ mg mb fa o pm cd doc a vs ns G Y ho (fd_plain hd) hcd hmg hobj hints hlen hg) fun r s' hq => ?_)
  obtain ⟨rfl, h2, h3, h4⟩ := hq
  exact ⟨.inl ⟨.bool true, .bool true, [], rfl, fun _ => rfl, .bool true, post_true l _, fun _ => ⟨List.Pairwise.nil, fun _ hm => (nomatch hm)⟩⟩, h2, h3, h4⟩
section
variable {prog : Program} {w : World} {A : Around} {E : Value → Shared → Prop} {s : Shared} {K : Frag}
end
end Att
namespace L2
open PySem PySem.Spec PyProof.Rows
theorem vals_ints : ∀ {vs : List Value} {ns : List Int}, IntsAre vs ns → Vals (ns.map V.int) vs
  | _, _, .nil => .nil
  | _, _, .cons n t h => .cons ⟨t, rfl⟩ (vals_ints h)
end L2
namespace L2
open PySem PySem.Spec PyProof.Rows
end L2
namespace L2
open PySem PySem.Spec PyProof.Rows
def defArgs (s : Stmt) : Arguments := match s with
  | .FunctionDef _ a _ _ _ _ _ _ _ _ => a
  | _ => { posonlyargs := [], args := [], vararg := none, kwonlyargs := [], kw_defaults := [], kwarg := none, defaults := [] }
def defBody (s : Stmt) : List Stmt := match s with
  | .FunctionDef _ _ b _ _ _ _ _ _ _ => b
  | _ => []
def defScope (s : Stmt) : Scope := match s with
  | .FunctionDef _ _ _ _ _ _ sc _ _ _ => sc
  | _ => { kind := .function, names := [], isGenerator := false, isCoroutine := false }
abbrev CX0 : CXT := fun _ _ _ _ _ _ => False
abbrev E0 : XK := fun _ _ _ => False
theorem pass0 {X : Cx} : Passes CX0 X E0 := fun _ _ _ _ _ _ _ h => h.elim
structure Fun (K : PySem.W.Frag) (x qual : Str) (st : Stmt) (f : Addr) (fd : FuncData) : Prop where
  ex : ∃ (oc : Value) (od : Option Addr) (kV doc pm : Value) (an : Option Addr) (cdv ct : Value) (osl : Array (Option Value)),
    fd = PySem.W.fnOf x qual (defArgs st) (defBody st) (defScope st) .none kV doc pm an cdv ct ∧ K.lookup f = some ⟨oc, od, .func fd, osl⟩ ∧ PySem.W.codeIn K cdv qual = true
  kp : PySem.W.keepIn K (.ref f) = true
section
variable {P : Program} {w : World} {K : PySem.W.Frag} {mg : Str → Option Value} {base : Heap}
theorem Fun.ok {x qual : Str} {st : Stmt} {f : Addr} {fd : FuncData} {N ps : List Str} {k : Nat} {sp : Sp} (F : Fun K x qual st f fd) (S : FnScope N ps (defScope st)) (len : ∀ vs H Q E, sp vs H Q E → vs.length = ps.length)
    (hbody : ∀ (cdv : Value) (A : Around) (outer : List Env) (s : Shared) (H : Hp) (vs : List V) (Q : VK) (E : XK), Room k (A.deeper (envOfC qual (defScope st) s.heap.objs.size f cdv)) → sp vs H Q E →
      ∃ t, PSs (cxOf CX0 P w K mg base N qual (defScope st) f cdv A outer s H E).nox (defBody st) t ∧ t { nx := fun _ H' => Q .non H', rt := Q } (start N vs) H) : FnOk P w K mg base CX0 (k + 1) f fd ps sp := by
  obtain ⟨oc, od, kV, doc, pm, an, cdv, ct, osl, rfl, lk, hcd⟩ := F.ex
  refine fn_of lk hcd S len fun A outer s H vs Q E hr hsp => ?_
  obtain ⟨t, h, q⟩ := hbody cdv A outer s H vs Q E hr hsp
  exact ⟨t, h.nox, q⟩
theorem Fun.binds {x qual : Str} {st : Stmt} {f : Addr} {fd : FuncData} {ps : List Str} (F : Fun K x qual st f fd)
    (h : ∀ (kV doc pm : Value) (an : Option Addr) (cdv ct : Value) (us : List Value), us.length = ps.length → bindArgs (PySem.W.fnOf x qual (defArgs st) (defBody st) (defScope st) .none kV doc pm an cdv ct) ⟨us, []⟩ = pure (ps.zip us)) : Binds K fd ps [] := by
  obtain ⟨oc, od, kV, doc, pm, an, cdv, ct, osl, rfl, lk, hcd⟩ := F.ex
  exact .all (h kV doc pm an cdv ct)
theorem fun_mk {x qual : Str} {st : Stmt} {f : Addr} {oc : Value} {od an : Option Addr} {osl : Array (Option Value)} {kV doc pm cdv ct : Value} (l : K.lookup f = some ⟨oc, od, .func (PySem.W.fnOf x qual (defArgs st) (defBody st) (defScope st) .none kV doc pm an cdv ct), osl⟩)
    (c : PySem.W.codeIn K cdv qual = true) (k : PySem.W.keepIn K (.ref f) = true) : Fun K x qual st f (PySem.W.fnOf x qual (defArgs st) (defBody st) (defScope st) .none kV doc pm an cdv ct) := ⟨⟨oc, od, kV, doc, pm, an, cdv, ct, osl, rfl, l, c⟩, k⟩
end
theorem small1000 {n : Nat} (h : n ≤ 1000) : n < sizeLine := Nat.lt_of_le_of_lt h (by decide)
section
variable {X : Cx}
theorem pv (i : Nat) {x : Str} {pos : Pos} (hN : X.N[i]? = some x := by rfl) (hv : Vis X.env.scope x := by first | exact Or.inl rfl | exact Or.inr (Or.inl rfl) | exact Or.inr (Or.inr rfl)) (hd : (x == ("__debug__" : Str)) = false := by decide)
    (hcd : (x == ("__classdict__" : Str)) = false := by decide) : PE X (.Name x pos) (tVar i) := pe_var hN hv hd hcd
end
theorem iteT {A B : Prop} (h : A) : if true = true then A else B := by
  rw [if_pos rfl]
  exact h
theorem ite2 {c A B : Prop} [Decidable c] (h1 : c → A) (h2 : ¬ c → B) : if c then A else B := by
  by_cases h : c
  · rw [if_pos h]
    exact h1 h
  · rw [if_neg h]
    exact h2 h
def Same (H H' : Hp) : Prop := ∀ b o, H b = some o → H' b = some o
theorem Same.trans {H H1 H2 : Hp} (a : Same H H1) (b : Same H1 H2) : Same H H2 := fun c o h => b c o (a c o h)
theorem Same.seq {K : PySem.W.Frag} {H H' : Hp} {a : Addr} {xs : List V} (e : Same H H') (h : SqL K H a xs) : SqL K H' a xs := by
  rcases h with (h | ⟨o, h⟩) | h
  · exact .inl (.inl (e _ _ h))
  · exact .inl (.inr ⟨o, e _ _ h⟩)
  · exact .inr h
end L2
namespace L2
open PySem PySem.Spec PyProof.Rows
section
variable {κ : Type} [DecidableEq κ]
def valV (kvs : List (κ × V)) (k : κ) : Option V := (kvs.find? fun kv => decide (kv.1 = k)).map (·.2)
def putK (kvs : List (κ × V)) (k : κ) (v : V) : List (κ × V) :=
  if (kvs.any fun kv => decide (kv.1 = k)) = true then kvs.map (fun kv => if kv.1 = k then (kv.1, v) else kv) else kvs ++ [(k, v)]
theorem valV_pos {p : κ × V} {r : List (κ × V)} {k : κ} (e : p.1 = k) : valV (p :: r) k = some p.2 := by simp [valV, List.find?_cons, e]
theorem valV_neg {p : κ × V} {r : List (κ × V)} {k : κ} (e : ¬ p.1 = k) : valV (p :: r) k = valV r k := by simp [valV, List.find?_cons, e]
theorem valV_any (k : κ) : ∀ kvs : List (κ × V), (kvs.any fun kv => decide (kv.1 = k)) = (valV kvs k).isSome
  | [] => rfl
  | p :: r => by
    rw [List.any_cons]
    by_cases e : p.1 = k
    · simp only [valV_pos e, decide_eq_true e, Bool.true_or, Option.isSome_some]
    · rw [valV_neg e, decide_eq_false e, Bool.false_or]; exact valV_any k r
theorem valV_map (k j : κ) (y : V) : ∀ kvs : List (κ × V), valV (kvs.map fun kv => if kv.1 = k then (kv.1, y) else kv) j = (valV kvs j).map fun x => if j = k then y else x
  | [] => rfl
  | p :: r => by
    have ih := valV_map k j y r
    rw [List.map_cons]
    by_cases h : p.1 = k
    · rw [if_pos h]
      by_cases e : p.1 = j
      · rw [valV_pos (p := (p.1, y)) e, valV_pos e, Option.map_some, if_pos (e.symm.trans h)]
      · rw [valV_neg (p := (p.1, y)) e, valV_neg e, ih]
    · rw [if_neg h]
      by_cases e : p.1 = j
      · rw [valV_pos (p := p) e, valV_pos e, Option.map_some, if_neg (fun z => h (e.trans z))]
      · rw [valV_neg (p := p) e, valV_neg e, ih]
theorem valV_snoc (k j : κ) (y : V) : ∀ kvs : List (κ × V), valV kvs k = none → valV (kvs ++ [(k, y)]) j = if j = k then some y else valV kvs j
  | [], _ => by
    by_cases e : k = j
    · rw [if_pos e.symm]; exact valV_pos (p := (k, y)) e
    · rw [if_neg (fun z => e z.symm)]; exact valV_neg (p := (k, y)) e
  | p :: r, hn => by
    rw [List.cons_append]
    have hk : ¬ p.1 = k := fun z => by rw [valV_pos z] at hn; cases hn
    rw [valV_neg hk] at hn
    have ih := valV_snoc k j y r hn
    by_cases e : p.1 = j
    · rw [valV_pos e, valV_pos e, if_neg (fun z => hk (e.trans z))]
    · rw [valV_neg e, valV_neg e, ih]
theorem valV_put (kvs : List (κ × V)) (k j : κ) (y : V) : valV (putK kvs k y) j = if j = k then some y else valV kvs j := by
  unfold putK
  by_cases a : (kvs.any fun kv => decide (kv.1 = k)) = true
  · rw [if_pos a, valV_map]
    rw [valV_any] at a
    by_cases e : j = k
    · obtain ⟨x, hx⟩ := Option.isSome_iff_exists.mp a
      rw [if_pos e, e, hx, Option.map_some, if_pos rfl]
    · rw [if_neg e]
      cases valV kvs j with
      | none => rfl
      | some x => rw [Option.map_some, if_neg e]
  · rw [if_neg a]
    refine valV_snoc k j y kvs ?_
    rw [valV_any] at a
    cases q : valV kvs k with
    | none => rfl
    | some x => rw [q] at a; exact (a rfl).elim
theorem length_putK (kvs : List (κ × V)) (k : κ) (v : V) : (putK kvs k v).length ≤ kvs.length + 1 := by
  unfold putK
  split
  · rw [List.length_map]; omega
  · rw [List.length_append, List.length_cons, List.length_nil]; omega
theorem putK_new {kvs : List (κ × V)} {k : κ} (v : V) (h : valV kvs k = none) : putK kvs k v = kvs ++ [(k, v)] := by
  unfold putK
  rw [valV_any, h]
  exact if_neg (by decide)
theorem RelO.isSome_eq {o : Option V} {u : Option Value} (r : RelO o u) : o.isSome = u.isSome := by
  cases o with
  | none => cases u with
    | none => rfl
    | some _ => exact (show False from r).elim
  | some _ => cases u with
    | none => exact (show False from r).elim
    | some _ => rfl
theorem RelO.getD {o : Option V} {u : Option Value} {d : V} {d' : Value} (r : RelO o u) (rd : RelV d d') : RelV (o.getD d) (u.getD d') := by
  cases o with
  | none => cases u with
    | none => exact rd
    | some _ => exact (show False from r).elim
  | some _ => cases u with
    | none => exact (show False from r).elim
    | some _ => exact r
theorem KV.val {kvs : List (κ × V)} {vs : List (κ × Value)} (r : KV kvs vs) (k : κ) : RelO (valV kvs k) (valueAt vs k) := by
  unfold KV at r
  induction r with
  | nil => exact True.intro
  | @cons p q ps qs h t ih =>
    obtain ⟨h1, h2⟩ := h
    by_cases e : p.1 = k
    · have e' : q.1 = k := h1.symm.trans e
      have b : valueAt (q :: qs) k = some q.2 := by simp [valueAt, List.find?_cons, e']
      rw [valV_pos e, b]; exact h2
    · have e' : ¬ q.1 = k := fun z => e (h1.trans z)
      have b : valueAt (q :: qs) k = valueAt qs k := by simp [valueAt, List.find?_cons, e']
      rw [valV_neg e, b]; exact ih
theorem KV.any {kvs : List (κ × V)} {vs : List (κ × Value)} (r : KV kvs vs) (k : κ) : (kvs.any fun kv => decide (kv.1 = k)) = vs.any fun kv => decide (kv.1 = k) := by
  unfold KV at r
  induction r with
  | nil => rfl
  | cons h t ih => rw [List.any_cons, List.any_cons, ih, h.1]
theorem KV.repl {kvs : List (κ × V)} {vs : List (κ × Value)} (r : KV kvs vs) (k : κ) {y : V} {u : Value} (ry : RelV y u) :
    KV (kvs.map fun kv => if kv.1 = k then (kv.1, y) else kv) (vs.map fun kv => if kv.1 = k then (kv.1, u) else kv) := by
  unfold KV at r ⊢
  induction r with
  | nil => exact .nil
  | @cons p q ps qs h t ih =>
    rw [List.map_cons, List.map_cons]
    refine .cons ?_ ih
    obtain ⟨h1, h2⟩ := h
    by_cases e : p.1 = k
    · rw [if_pos e, if_pos (h1.symm.trans e)]; exact ⟨h1, ry⟩
    · rw [if_neg e, if_neg (fun z => e (h1.trans z))]; exact ⟨h1, h2⟩
theorem KV.put {kvs : List (κ × V)} {vs : List (κ × Value)} (r : KV kvs vs) (k : κ) {y : V} {u : Value} (ry : RelV y u) : KV (putK kvs k y) (stored vs k u) := by
  unfold putK stored
  rw [r.any k]
  by_cases e : (vs.any fun kv => decide (kv.1 = k)) = true
  · rw [if_pos e, if_pos e]; exact r.repl k ry
  · rw [if_neg e, if_neg e]; exact Paired.snoc r ⟨rfl, ry⟩
theorem KV.keys {kvs : List (κ × V)} {vs : List (κ × Value)} (r : KV kvs vs) : kvs.map (·.1) = vs.map (·.1) := by
  unfold KV at r
  induction r with
  | nil => rfl
  | cons h t ih => rw [List.map_cons, List.map_cons, ih, h.1]
theorem KV.length {kvs : List (κ × V)} {vs : List (κ × Value)} (r : KV kvs vs) : kvs.length = vs.length := Paired.length r
end
theorem kV_is {P : Program} {w : World} {k : Key} {u : Value} (r : RelV (kV k) u) : (mixKind P w).is k u = true := by
  cases k with
  | inl i => obtain ⟨t, e⟩ := (show ∃ t, u = Value.int i t from r); subst e; exact mixKind_int P w i t
  | inr x => obtain ⟨t, e⟩ := (show ∃ t, u = Value.str x t from r); subst e; exact mixKind_str P w x t
theorem items_are {P : Program} {w : World} : ∀ {ks : List Key} {us : List Value}, Vals (ks.map kV) us → ItemsAre (mixKind P w) ks us
  | [], _, r => by rw [List.map_nil] at r; cases r; exact .nil
  | k :: ks, _, r => by
    rw [List.map_cons] at r
    cases r with
    | cons h t => exact .cons (kV_is h) (items_are t)
abbrev KT (H : Hp) : List (List Key × V) → List (List Key × Addr × Value) → Prop := Paired fun p q => p.1 = q.1 ∧ H q.2.1 = some (.tup (p.1.map kV)) ∧ RelV p.2 q.2.2
theorem KT.val {H : Hp} {kvs : List (List Key × V)} {xs : List (List Key × Addr × Value)} (r : KT H kvs xs) (k : List Key) : RelO (valV kvs k) ((atKey xs k).map (·.2)) := by
  induction r with
  | nil => exact True.intro
  | @cons p q ps qs h t ih =>
    obtain ⟨h1, _, h2⟩ := h
    by_cases e : p.1 = k
    · have e' : q.1 = k := h1.symm.trans e
      have b : atKey (q :: qs) k = some q.2 := by simp [atKey, List.find?_cons, e']
      rw [valV_pos e, b]; exact h2
    · have e' : ¬ q.1 = k := fun z => e (h1.trans z)
      have b : atKey (q :: qs) k = atKey qs k := by simp [atKey, List.find?_cons, e']
      rw [valV_neg e, b]; exact ih
theorem KT.repl {H : Hp} {kvs : List (List Key × V)} {xs : List (List Key × Addr × Value)} (r : KT H kvs xs) (k : List Key) {y : V} {u : Value} (ry : RelV y u) :
    KT H (kvs.map fun kv => if kv.1 = k then (kv.1, y) else kv) (xs.map (putAt k u)) := by
  induction r with
  | nil => exact .nil
  | @cons p q ps qs h t ih =>
    rw [List.map_cons, List.map_cons]
    refine .cons ?_ ih
    obtain ⟨h1, h2, h3⟩ := h
    unfold putAt
    by_cases e : p.1 = k
    · rw [if_pos e, if_pos (h1.symm.trans e)]; exact ⟨h1, h2, ry⟩
    · rw [if_neg e, if_neg (fun z => e (h1.trans z))]; exact ⟨h1, h2, h3⟩
theorem KT.put {H : Hp} {kvs : List (List Key × V)} {xs : List (List Key × Addr × Value)} (r : KT H kvs xs) (k : List Key) {b : Addr} {y : V} {u : Value} (hb : H b = some (.tup (k.map kV))) (ry : RelV y u) :
    KT H (putK kvs k y) (storedH xs k b u) := by
  have e : (kvs.any fun kv => decide (kv.1 = k)) = (atKey xs k).isSome := by
    rw [valV_any, (r.val k).isSome_eq, Option.isSome_map]
  unfold putK storedH
  rw [e]
  by_cases q : (atKey xs k).isSome = true
  · rw [if_pos q, if_pos q]; exact r.repl k ry
  · rw [if_neg q, if_neg q]; exact Paired.snoc r ⟨rfl, hb, ry⟩
theorem KT.keeps {H H' : Hp} {kvs : List (List Key × V)} {xs : List (List Key × Addr × Value)} (r : KT H kvs xs) (ht : ∀ b ys, H b = some (.tup ys) → H' b = some (.tup ys)) : KT H' kvs xs :=
  Paired.mapP r fun _ _ z => ⟨z.1, ht _ _ z.2.1, z.2.2⟩
section
variable {P : Program} {w : World} {H : Hp} {h : Heap} {a : Addr}
theorem rd_of {u : HO} (ok : HOk P w H h) (e : Rd H a u) : ObjOk P w H h a u := e.ok ok
theorem dk_rd {kvs : List (Key × V)} (ok : HOk P w H h) (e : Rd H a (.dK kvs)) : kvs.length ≤ sizeLine ∧ (a == sysModules) = false ∧ ∃ vs, KV kvs vs ∧ h.DictOf (mixKind P w) a vs :=
  show ObjOk P w H h a (.dK kvs) from rd_of ok e
theorem dk_of {kvs : List (Key × V)} (ok : HOk P w H h) (e : H a = some (.dK kvs)) : kvs.length ≤ sizeLine ∧ (a == sysModules) = false ∧ ∃ vs, KV kvs vs ∧ h.DictOf (mixKind P w) a vs := dk_rd ok (.inl e)
theorem key_of {ks : List Key} (ok : HOk P w H h) (e : H a = some (.tup (ks.map kV))) : (tupleKind (mixKind P w)).is h ks a := by
  obtain ⟨_, its, r, o, h1, h2, n, h3⟩ := (show ObjOk P w H h a (.tup (ks.map kV)) from ok a _ e)
  exact ⟨o, its.toArray, n, h1, h2, h3, by simpa using items_are r⟩
theorem dt_rd {kvs : List (List Key × V)} (ok : HOk P w H h) (e : Rd H a (.dT kvs)) : kvs.length ≤ sizeLine ∧ (a == sysModules) = false ∧
    ∃ xs, KT H kvs xs ∧ h.DictOfH (tupleKind (mixKind P w)) a xs := by
  obtain ⟨z, y, xs, r, o, es, ep, h1, h2, h3, h4, h5⟩ := (show ObjOk P w H h a (.dT kvs) from rd_of ok e)
  refine ⟨z, y, xs, r, o, es, ep, h1, h2, h3, h4, fun x hx => ?_, h5⟩
  have all : ∀ {l : List (List Key × V)} {m : List (List Key × Addr × Value)}, KT H l m → ∀ x ∈ m, (tupleKind (mixKind P w)).is h x.1 x.2.1 := by
    intro l m q
    induction q with
    | nil => intro x hx; exact nomatch hx
    | @cons p q ps qs hq t ih =>
      intro x hx
      rcases List.mem_cons.mp hx with e | hx
      · subst e
        exact key_of ok (by rw [← hq.1]; exact hq.2.1)
      · exact ih x hx
  exact all r x hx
theorem dt_of {kvs : List (List Key × V)} (ok : HOk P w H h) (e : H a = some (.dT kvs)) : kvs.length ≤ sizeLine ∧ (a == sysModules) = false ∧
    ∃ xs, KT H kvs xs ∧ h.DictOfH (tupleKind (mixKind P w)) a xs := dt_rd ok (.inl e)
end
def DGet (H : Hp) (a : Addr) (y : V) (r : Option V) : Prop :=
  (∃ kvs k, Rd H a (.dK kvs) ∧ y = kV k ∧ r = valV kvs k) ∨ ∃ kvs k b, Rd H a (.dT kvs) ∧ y = .ref b ∧ H b = some (.tup (k.map kV)) ∧ r = valV kvs k
def DPut (H : Hp) (a : Addr) (y v : V) (H' : Hp) : Prop :=
  (∃ kvs k, H a = some (.dK kvs) ∧ y = kV k ∧ kvs.length < sizeLine ∧ H' = upd H a (.dK (putK kvs k v))) ∨
  ∃ kvs k b, H a = some (.dT kvs) ∧ y = .ref b ∧ H b = some (.tup (k.map kV)) ∧ kvs.length < sizeLine ∧ H' = upd H a (.dT (putK kvs k v))
theorem DGet.k {H : Hp} {a : Addr} {kvs : List (Key × V)} {k : Key} (e : H a = some (.dK kvs)) : DGet H a (kV k) (valV kvs k) := .inl ⟨kvs, k, .inl e, rfl, rfl⟩
theorem DGet.t {H : Hp} {a b : Addr} {kvs : List (List Key × V)} {k : List Key} (e : H a = some (.dT kvs)) (eb : H b = some (.tup (k.map kV))) : DGet H a (.ref b) (valV kvs k) := .inr ⟨kvs, k, b, .inl e, rfl, eb, rfl⟩
theorem DPut.k {H : Hp} {a : Addr} {kvs : List (Key × V)} {k : Key} {v : V} (e : H a = some (.dK kvs)) (hl : kvs.length < sizeLine) : DPut H a (kV k) v (upd H a (.dK (putK kvs k v))) := .inl ⟨kvs, k, e, rfl, hl, rfl⟩
theorem DPut.t {H : Hp} {a b : Addr} {kvs : List (List Key × V)} {k : List Key} {v : V} (e : H a = some (.dT kvs)) (eb : H b = some (.tup (k.map kV))) (hl : kvs.length < sizeLine) :
    DPut H a (.ref b) v (upd H a (.dT (putK kvs k v))) := .inr ⟨kvs, k, b, e, rfl, eb, hl, rfl⟩
section
variable {X : Cx} {pins : List (Addr × Obj)} {σ : St} {H : Hp} {s : Shared} {a : Addr} {y v : V} {u r : Value} {o : Option V} {A : Around} {E : Value → Shared → Prop}
theorem Inv.big (I : Inv X pins σ H s) : sysModules < s.heap.objs.size := by
  have h : mainGlobals < s.heap.objs.size := (I.mod.glob.keeps I.bk).lt
  exact Nat.lt_trans (by decide) h
theorem d_getItem {Q : Value → Shared → Prop} (hu : A.units + 1 < cLine) (I : Inv X pins σ H s) (g : DGet H a y (some v)) (ry : RelV y u) (h : ∀ w' s', Inv X pins σ H s' → RelV v w' → Q w' s') :
    wpAny (model X.prog X.w) A (getItem (.ref a) u) Q E s := by
  rcases g with ⟨kvs, k, e, ey, l⟩ | ⟨kvs, k, b, e, ey, eb, l⟩
  · subst ey
    obtain ⟨z, hd, vs, rel, dd⟩ := dk_rd I.hok e
    obtain ⟨w', hw, rw'⟩ := RelO.some_of (v := v) (o := valueAt vs k) (by rw [l]; exact rel.val k)
    exact wpAny_getItem_of (kV_is ry) dd.mapOf hw (h w' _ (I.tok _) rw')
  · subst ey
    cases (show u = Value.ref b from ry)
    obtain ⟨z, hd, xs, rel, dd⟩ := dt_rd I.hok e
    obtain ⟨w', hw, rw'⟩ := RelO.some_of (v := v) (o := (atKey xs k).map (·.2)) (by rw [l]; exact rel.val k)
    obtain ⟨p, hp, hp2⟩ := Option.map_eq_some_iff.mp hw
    refine wpAny_getItem_heap (tupleKind_room_in1 hu) (key_of I.hok eb) dd hp ?_
    rw [hp2]
    exact h w' _ (I.tok _) rw'
theorem d_write {h' : Heap} {t' : Nat} {ob : HO} (I : Inv X pins σ H s) (mu : Mut (H a)) (hs : Heap.SameBut a s.heap h') (he : ∃ q, h'.get? a = some q) (new : ObjOk X.prog X.w (upd H a ob) h' a ob) :
    Inv X pins σ (upd H a ob) { s with heap := h', toks := t' } :=
  I.write (x := a) (e := a) mu (.inl rfl) (fun b q hb z => (hs.2 b hb).trans z) he new
theorem dk_new {P : Program} {w : World} {H' : Hp} {h' : Heap} {kvs : List (Key × V)} {vs : List (Key × Value)} (z : kvs.length ≤ sizeLine) (hd : (a == sysModules) = false) (rel : KV kvs vs) (dd : h'.DictOf (mixKind P w) a vs) :
    ObjOk P w H' h' a (.dK kvs) := ⟨z, hd, vs, rel, dd⟩
theorem d_setItem {H' : Hp} {Q : Unit → Shared → Prop} (hu : A.units + 1 < cLine) (I : Inv X pins σ H s) (g : DPut H a y v H') (ry : RelV y u) (rv : RelV v r) (h : ∀ s', Inv X pins σ H' s' → Q () s') :
    wpAny (model X.prog X.w) A (setItem (.ref a) u r) Q E s := by
  rcases g with ⟨kvs, k, e, ey, l, eH⟩ | ⟨kvs, k, b, e, ey, eb, l, eH⟩
  · subst ey eH
    obtain ⟨z, hd, vs, rel, dd⟩ := dk_of I.hok e
    have hz : vs.length ≤ sizeLine := by rw [← rel.length]; exact z
    have hl : (putK kvs k v).length ≤ sizeLine := by have := length_putK kvs k v; omega
    refine wpAny_setItem_pairs (hsz := hz) (kV_is ry) dd fun h' dd' hs => h _ ?_
    have he : ∃ q, h'.get? a = some q := let ⟨q, _, _, hq, _⟩ := dd'; ⟨q, hq⟩
    exact d_write I (by rw [e]; exact True.intro) hs he (dk_new hl hd (rel.put k rv) dd')
  · subst ey eH
    cases (show u = Value.ref b from ry)
    obtain ⟨z, hd, xs, rel, dd⟩ := dt_of I.hok e
    have hz : xs.length ≤ sizeLine := by rw [← Paired.length rel]; exact z
    have hl : (putK kvs k v).length ≤ sizeLine := by have := length_putK kvs k v; omega
    refine wpAny_setItem_heap (hsz := hz) (tupleKind_room_in1 hu) (key_of I.hok eb) dd fun h' dd' hs => h _ ?_
    obtain ⟨q, es, ep, hq, h2, h3, h4, _, h5⟩ := dd'
    refine d_write I (by rw [e]; exact True.intro) hs ⟨q, hq⟩ ⟨hl, hd, _, (rel.put k eb rv).keeps fun c ys ec => ?_, q, es, ep, hq, h2, h3, h4, h5⟩
    rw [upd_ne (ne_of ec e (fun z => nomatch z))]
    exact ec
end
section
variable {X : Cx} {pins : List (Addr × Obj)} {σ : St} {H : Hp} {s : Shared} {a : Addr} {kvs : List (Key × V)} {k : Key} {u : Value} {A : Around} {E : Value → Shared → Prop}
end
def NoSl (i : Expr) : Prop := ∀ ov iv, subscripted i false ov iv = operate [ov, iv] (getItem ov iv)
theorem subD_of {prog : Program} {w : World} {A : Around} {E : Value → Shared → Prop} {s : Shared} {env : Env} {value slice : Expr} {pos : Pos} {T id : String} {Q : Value → Shared → Prop}
    (hl : typeLookup (.type T) "__getitem__" = pure (some (.builtin id))) (hs : NoSl slice)
    (h : wpAny (model prog w) A (eval value env) (fun o s₁ => wpAny (model prog w) A (eval slice env) (fun i s₂ => s₂.TypeIs o T ∧ wpAny (model prog w) A (getItem o i) Q E s₂) E s₁) E s) :
    wpAny (model prog w) A (eval (.Subscript value slice pos) env) Q E s := by
  refine Subscript_ (wpAny_mono h (fun o s₁ h₁ => wpAny_mono h₁ (fun i s₂ h₂ => ?_) fun _ _ x => x) fun _ _ x => x)
  obtain ⟨hT, h₂⟩ := h₂
  unfold subscriptTail
  refine wpAny_bind ?_
  rw [getitemInPython_of_ne hT.not_modules]
  refine wpAny_bind (wpAny_specialOf hT hl ?_)
  have fin : wpAny (model prog w) A (subscripted slice false o i) (fun r s₃ => wpAny (model prog w) A (letTemporaryGo value o r >>= fun _ => pure r) Q E s₃) E s₂ := by
    rw [hs o i]
    exact wpAny_operating (wpAny_mono h₂ (fun r s₃ h₃ => wpAny_bind (wpAny_letTemporaryGo (wpAny_pure h₃))) fun _ _ x => x)
  first
    | exact wpAny_pure (wpAny_bind fin)
    | exact wpAny_bind (wpAny_pure (wpAny_bind fin))
    | exact wpAny_bind fin
theorem dict_typeIs {X : Cx} {pins : List (Addr × Obj)} {σ : St} {H : Hp} {s : Shared} {a : Addr} {y : V} {o : Option V} (I : Inv X pins σ H s) (g : DGet H a y o) : s.TypeIs (.ref a) "dict" := by
  rcases g with ⟨kvs, k, e, _, _⟩ | ⟨kvs, k, b, e, _, _, _⟩
  · obtain ⟨_, _, vs, _, dd⟩ := dk_rd I.hok e
    exact dd.typeIs
  · obtain ⟨_, _, xs, _, dd⟩ := dt_rd I.hok e
    exact dd.typeIs
def tDGet (td ty : TE) : TE := fun σ H Q => td σ H fun x H1 => ty σ H1 fun y H2 => ∃ a v, x = .ref a ∧ DGet H2 a y (some v) ∧ Q v H2
def sDPut (td ty tv : TE) : TS := fun D σ H => tv σ H fun v H1 => td σ H1 fun x H2 => ty σ H2 fun y H3 => ∃ a H4, x = .ref a ∧ DPut H3 a y v H4 ∧ D.nx σ H4
section
variable {X : Cx} {o i e value : Expr} {pos pos' tpos : Pos} {td ty tv : TE}
theorem pe_dget (hu : X.A.units + 1 < cLine) (ho : PE X o td) (hi : PE X i ty) (hs : NoSl i) : PE X (.Subscript o i pos) (tDGet td ty) := by
  intro pins s σ H Q I h
  refine subD_of PySem.F.slot_dict_getitem.lookup hs (thn (ho pins s σ H _ I h) fun u s1 ⟨x, H1, I1, rx, q1⟩ => thn (hi pins s1 σ H1 _ I1 q1) fun iv s2 ⟨y, H2, I2, ry, a, v, ex, g, q2⟩ => ?_)
  subst ex
  obtain rfl : u = Value.ref a := rx
  exact ⟨dict_typeIs I2 g, d_getItem hu I2 g ry fun w' s3 I3 rw' => ⟨v, H2, I3, rw', q2⟩⟩
theorem ps_dput (hu : X.A.units + 1 < cLine) (ho : PE X o td) (hi : PE X i ty) (hv : PE X value tv) (hs : swapsWith value (some (.Subscript o i pos')) pos.line X.env = pure false) :
    PS X (.Assign [.Subscript o i pos'] value pos) (sDPut td ty tv) := by
  intro pins s σ H D I h
  refine wpAny_Assign_Subscript (thn (hv pins s σ H _ I h) fun r s1 ⟨v, H1, I1, rv, q1⟩ => thn (ho pins s1 σ H1 _ I1 q1) fun u s2 ⟨x, H2, I2, rx, q2⟩ => thn (hi pins s2 σ H2 _ I2 q2) fun iv s3 ⟨y, H3, I3, ry, a, H4, ex, g, q3⟩ => ?_) hs
  subst ex
  obtain rfl : u = Value.ref a := rx
  exact d_setItem hu I3 g ry rv fun s4 I4 => ⟨σ, H4, I4, q3⟩
end
theorem dk_empty {P : Program} {w : World} {H : Hp} (h : Heap) (hb : sysModules < h.objs.size) : ObjOk P w H (h.push { cls := .type "dict", data := .dict #[] }) h.objs.size (.dK []) :=
  ⟨Nat.zero_le _, beq_eq_false_iff_ne.mpr (Ne.symm (Nat.ne_of_lt hb)), [], .nil, Heap.DictOf.new h⟩
theorem dt_empty {P : Program} {w : World} {H : Hp} (h : Heap) (hb : sysModules < h.objs.size) : ObjOk P w H (h.push { cls := .type "dict", data := .dict #[] }) h.objs.size (.dT []) :=
  ⟨Nat.zero_le _, beq_eq_false_iff_ne.mpr (Ne.symm (Nat.ne_of_lt hb)), [], .nil, _, #[], 0, Heap.get?_push_size _ rfl, ⟨rfl, rfl, rfl⟩, rfl, rfl, List.nodup_nil⟩
def tDNewK : TE := fun _ H Q => ∀ p, H p = none → Q (.ref p) (upd H p (.dK []))
def tDNewT : TE := fun _ H Q => ∀ p, H p = none → Q (.ref p) (upd H p (.dT []))
section
variable {X : Cx} {pos : Pos}
theorem pe_dnewK : PE X (.Dict [] [] pos) tDNewK := fun pins s σ H Q I h =>
  wpAny_Dict_empty ⟨.ref s.heap.objs.size, _, I.laid (a := s.heap.objs.size) (o := .dK []) (t' := s.toks) (fun _ _ q => Heap.get?_push_of_some _ q) (Nat.le_refl _) (dk_empty s.heap I.big), rfl, h _ (I.hok.fresh (Nat.le_refl _))⟩
theorem pe_dnewT : PE X (.Dict [] [] pos) tDNewT := fun pins s σ H Q I h =>
  wpAny_Dict_empty ⟨.ref s.heap.objs.size, _, I.laid (a := s.heap.objs.size) (o := .dT []) (t' := s.toks) (fun _ _ q => Heap.get?_push_of_some _ q) (Nat.le_refl _) (dt_empty s.heap I.big), rfl, h _ (I.hok.fresh (Nat.le_refl _))⟩
end
structure M2 (X : Cx) (o : Expr) (m : Str) (apos : Pos) (e f : Expr) (cpos : Pos) : Prop where
  base : attributeBase o m X.env (eval o X.env) = eval o X.env
  few : ((backTo cpos (starEach [e, f] X.env)).all (fun x => !x.1) && (backToKw cpos (keywordEach [] X.env)).all (fun x => x.1.isSome)
    && decide (([e, f] : List Expr).length + ([] : List Keyword).length + (if ([] : List Keyword).isEmpty then 0 else 1) < 30)) = true
  line : (apos.endLine == cpos.line) = true
  trees : backTo cpos (starEach [e, f] X.env) = [(false, eval e X.env), (false, eval f X.env)]
def IsD (H : Hp) (a : Addr) : Prop := (∃ kvs, Rd H a (.dK kvs)) ∨ ∃ kvs, Rd H a (.dT kvs)
theorem isD_at {X : Cx} {pins : List (Addr × Obj)} {σ : St} {H : Hp} {s : Shared} {a : Addr} (I : Inv X pins σ H s) (d : IsD H a) :
    s.TypeIs (.ref a) "dict" ∧ (∀ b, Value.ref a = .ref b → ∃ ob, s.heap.get? b = some ob ∧ ob.dict = none) ∧ (a == sysModules) = false := by
  rcases d with ⟨kvs, e⟩ | ⟨kvs, e⟩
  · obtain ⟨_, hd, vs, _, dd⟩ := dk_rd I.hok e
    refine ⟨dd.typeIs, fun b q => ?_, hd⟩
    cases q
    obtain ⟨ob, _, _, h1, h2, _⟩ := dd
    exact ⟨ob, h1, h2.2.1⟩
  · obtain ⟨_, hd, xs, _, dd⟩ := dt_rd I.hok e
    refine ⟨dd.typeIs, fun b q => ?_, hd⟩
    cases q
    obtain ⟨ob, _, _, h1, h2, _⟩ := dd
    exact ⟨ob, h1, h2.2.1⟩
section
variable {X : Cx} {pins : List (Addr × Obj)} {σ : St} {H : Hp} {s : Shared} {a : Addr} {y d : V} {u r : Value} {o : Option V} {A : Around} {E : Value → Shared → Prop}
theorem d_get2 {Q : Value → Shared → Prop} (hu : A.units + 1 < cLine) (I : Inv X pins σ H s) (g : DGet H a y o) (ry : RelV y u) (rd : RelV d r) (h : ∀ w' s', Inv X pins σ H s' → RelV (o.getD d) w' → Q w' s') :
    wpAny (model X.prog X.w) A (call (.builtin "dict.get") [.ref a, u, r]) Q E s := by
  rcases g with ⟨kvs, k, e, ey, l⟩ | ⟨kvs, k, b, e, ey, eb, l⟩
  · subst ey
    obtain ⟨z, hd, vs, rel, dd⟩ := dk_rd I.hok e
    refine call_meetsIn PySem.F.slot_dict_get dd.typeIs PySem.F.entry_dict_get (PySem.F.args_dict_get_3 _ _ _) (meets_dict_get_default (mixKind X.prog X.w) a (kV_is ry) hd r) ⟨_, dd.mapOf, h _ _ (I.tok _) ?_⟩
    rw [l]
    exact (rel.val k).getD rd
  · subst ey
    cases (show u = Value.ref b from ry)
    obtain ⟨z, hd, xs, rel, dd⟩ := dt_rd I.hok e
    refine call_meetsIn PySem.F.slot_dict_get dd.typeIs PySem.F.entry_dict_get (PySem.F.args_dict_get_3 _ _ _) (meetsH_dict_get_default (tupleKind (mixKind X.prog X.w)) a b hd r) ⟨tupleKind_room_in1 hu, k, xs, key_of I.hok eb, dd, h _ _ (I.tok _) ?_⟩
    rw [l]
    exact (rel.val k).getD rd
end
def tDGet2 (td ty tx : TE) : TE := fun σ H Q => td σ H fun x H1 => ∃ a, x = .ref a ∧ IsD H1 a ∧ ty σ H1 fun y H2 => tx σ H2 fun z H3 => ∃ o, DGet H3 a y o ∧ Q (o.getD z) H3
section
variable {X : Cx} {o e f : Expr} {apos cpos : Pos} {td ty tx : TE}
theorem pe_dget2 (hu : X.A.units + 1 < cLine) (ho : PE X o td) (he : PE X e ty) (hf : PE X f tx) (m : M2 X o "get" apos e f cpos) : PE X (.Call (.Attribute o "get" apos) [e, f] [] cpos) (tDGet2 td ty tx) := by
  intro pins s σ H Q I h
  refine wpAny_Call_method m.base m.few m.line PySem.F.plainAttrs_dict PySem.F.slot_dict_get PySem.F.type_dict_get (thn (ho pins s σ H _ I h) fun u s1 ⟨x, H1, I1, rx, a, ex, d, q1⟩ => ?_)
  subst ex
  obtain rfl : u = Value.ref a := rx
  obtain ⟨t1, t2, _⟩ := isD_at I1 d
  refine ⟨t1, t2, ?_⟩
  rw [m.trees]
  refine Calls.callWith_builtin rfl (Calls.evalArgs_plain (Calls.spliced_cons (thn (he pins s1 σ H1 _ I1 q1) fun iv s2 ⟨y, H2, I2, ry, q2⟩ =>
    Calls.spliced_cons (thn (hf pins s2 σ H2 _ I2 q2) fun fv s3 ⟨z, H3, I3, rz, ov, g, q3⟩ => Calls.spliced_nil ?_))))
  exact d_get2 hu I3 g ry rz fun w' s4 I4 rw' => ⟨_, H3, I4, rw', q3⟩
end
section
variable {X : Cx} {pins : List (Addr × Obj)} {σ : St} {H : Hp} {s : Shared} {a : Addr} {kvs : List (Key × V)} {A : Around} {E : Value → Shared → Prop}
end
section
variable {X : Cx} {pins : List (Addr × Obj)} {σ : St} {H : Hp} {s : Shared} {a : Addr} {y : V} {u : Value} {A : Around} {E : Value → Shared → Prop}
end
end L2
namespace L2
open PySem PySem.Spec PyProof.Rows
section
variable {κ : Type} [DecidableEq κ]
theorem valV_not {kvs : List (κ × V)} {k : κ} (h : valV kvs k = none) : ¬ k ∈ kvs.map (·.1) := by
  intro m
  obtain ⟨p, hp, e⟩ := List.mem_map.mp m
  have q : (kvs.any fun kv => decide (kv.1 = k)) = true := List.any_eq_true.mpr ⟨p, hp, decide_eq_true e⟩
  rw [valV_any, h] at q
  exact absurd q (by simp)
theorem valV_in {kvs : List (κ × V)} {k : κ} {v : V} (h : valV kvs k = some v) : k ∈ kvs.map (·.1) := by
  have q : (kvs.any fun kv => decide (kv.1 = k)) = true := by
    rw [valV_any, h]
    all_goals rfl
  obtain ⟨p, hp, e⟩ := List.any_eq_true.mp q
  exact List.mem_map.mpr ⟨p, hp, of_decide_eq_true e⟩
theorem nd_snoc : ∀ {l : List κ} {k : κ}, l.Nodup → ¬ k ∈ l → (l ++ [k]).Nodup
  | [], k, _, _ => by simp
  | a :: r, k, h, hk => by
    obtain ⟨h1, h2⟩ := List.nodup_cons.mp h
    show (a :: (r ++ [k])).Nodup
    refine List.nodup_cons.mpr ⟨fun m => ?_, nd_snoc h2 fun m => hk (List.mem_cons.mpr (Or.inr m))⟩
    rcases List.mem_append.mp m with q | q
    · exact h1 q
    · exact hk (List.mem_cons.mpr (Or.inl (List.mem_singleton.mp q).symm))
theorem nd_putK {kvs : List (κ × V)} {k : κ} (v : V) (hn : (kvs.map (·.1)).Nodup) (h : valV kvs k = none) : ((putK kvs k v).map (·.1)).Nodup := by
  rw [putK_new v h, List.map_append]
  exact nd_snoc hn (valV_not h)
end
end L2
namespace L2
open PySem PySem.Spec PyProof.Rows
def Sz (n : Nat) (x : Int) : Prop := x.natAbs < 2 ^ n
section
variable {m n : Nat} {x y : Int}
theorem Sz.bits (h : Sz n x) : Builtin.Int.intBits x ≤ n := intBits_le_iff.mpr h
theorem Sz.of_bits (h : Builtin.Int.intBits x ≤ n) : Sz n x := intBits_le_iff.mp h
theorem Sz.mono (h : Sz m x) (l : m ≤ n) : Sz n x := .of_bits (Nat.le_trans h.bits l)
theorem Sz.mul (h : Sz m x) (k : Sz n y) : Sz (m + n) (x * y) := .of_bits (intBits_mul_le h.bits k.bits)
theorem Sz.add (h : Sz m x) (k : Sz n y) : Sz (max m n + 1) (x + y) := .of_bits (intBits_add_le h.bits k.bits)
theorem Sz.sub (h : Sz m x) (k : Sz n y) : Sz (max m n + 1) (x - y) := .of_bits (intBits_sub_le h.bits k.bits)
theorem Sz.neg (h : Sz m x) : Sz m (-x) := .of_bits (intBits_neg_le h.bits)
theorem Sz.fdiv (h : Sz m x) : Sz m (x.fdiv y) := .of_bits (intBits_fdiv_le h.bits)
theorem szd (n : Nat) {x : Int} (h : decide (x.natAbs < 2 ^ n) = true := by decide +kernel) : Sz n x := (show x.natAbs < 2 ^ n from of_decide_eq_true h)
theorem sz_of (h : -(2 ^ n : Nat) < x) (k : x < (2 ^ n : Nat)) : Sz n x := by
  unfold Sz
  generalize 2 ^ n = p at h k ⊢
  omega
end
def CMulB (i j : Int) : Prop := ∃ m n, Sz m i ∧ Sz n j ∧ m + n ≤ 134217728
def CDivB (_ j : Int) : Prop := j ≠ 0 ∧ Sz 9000 j
section
variable {X : Cx}
theorem op_mulB : OpR X (binaryOp .Mult) (rI CMulB fun i j => .int (i * j)) := opI fun _ _ _ _ _ _ _ hc q =>
  mul_int q (let ⟨_, _, a, b, c⟩ := hc; IntMulOk.of_le a.bits b.bits c)
theorem op_fdivB : OpR X (binaryOp .FloorDiv) (rI CDivB fun i j => .int (i.fdiv j)) := opI fun _ j _ _ _ _ _ hc q =>
  floordiv_int hc.1 q (.inl (PyProof.noPylong_of_log2 ((Nat.log2_lt (by have := hc.1; omega)).mpr hc.2)))
theorem all_eq_ints (ns ms : List Int) : ((List.range (min ns.length ms.length)).all (fun j => ns.getD j 0 == ms.getD j 0) && ns.length == ms.length) = decide (ns = ms) := by
  rw [Bool.eq_iff_iff]
  simp only [Bool.and_eq_true, List.all_eq_true, List.mem_range, beq_iff_eq, decide_eq_true_eq]
  constructor
  · rintro ⟨h, l⟩
    refine List.ext_getElem l fun i h1 h2 => ?_
    have := h i (by omega)
    simpa [List.getD_eq_getElem?_getD, h1, h2] using this
  · rintro rfl
    exact ⟨fun _ _ => rfl, rfl⟩
theorem op_eqT (hu : X.A.units < cLine) : OpR X (compareOp .Eq) (fun x y H Q => ∃ (a b : Addr) (ns ms : List Int), x = .ref a ∧ y = .ref b ∧ SqT X.K H a (ns.map V.int) ∧ SqT X.K H b (ms.map V.int) ∧ Q (.bl (decide (ns = ms))) H) := by
  intro pins s σ H x y v u Q I rx ry h
  obtain ⟨a, b, ns, ms, rfl, rfl, ha, hb, q⟩ := h
  cases rx
  cases ry
  obtain ⟨its, rv, ht, _⟩ := I.tuple ha
  obtain ⟨its2, rv2, ht2, _⟩ := I.tuple hb
  have l1 : ns.length = its.length := by rw [← rv.length, List.length_map]
  have l2 : ms.length = its2.length := by rw [← rv2.length, List.length_map]
  refine SeqAt.eq_tupleAt (e := fun j => ns.getD j 0 == ms.getD j 0) (show s.heap.IsTuple a its.toArray from ht) (show s.heap.IsTuple b its2.toArray from ht2) hu (fun j h1 h2 => ?_) ?_
  · have h1' : j < ns.length := by rw [l1]; simpa using h1
    have h2' : j < ms.length := by rw [l2]; simpa using h2
    obtain ⟨u1, e1, r1⟩ := rv.get (i := j) (x := .int ns[j]) (by rw [List.getElem?_map, List.getElem?_eq_getElem h1'] <;> rfl)
    obtain ⟨u2, e2, r2⟩ := rv2.get (i := j) (x := .int ms[j]) (by rw [List.getElem?_map, List.getElem?_eq_getElem h2'] <;> rfl)
    obtain ⟨t1, rfl⟩ := r1
    obtain ⟨t2, rfl⟩ := r2
    have f1 : its.toArray[j] = .int ns[j] t1 := by
      have := (List.getElem?_eq_some_iff.mp e1).2
      simpa using this
    have f2 : its2.toArray[j] = .int ms[j] t2 := by
      have := (List.getElem?_eq_some_iff.mp e2).2
      simpa using this
    rw [f1, f2]
    have g1 : ns.getD j 0 = ns[j] := by simp [List.getD_eq_getElem?_getD, h1']
    have g2 : ms.getD j 0 = ms[j] := by simp [List.getD_eq_getElem?_getD, h2']
    show SeqAt.EqAt X.A.in1 s (.int ns[j] t1) (.int ms[j] t2) (ns.getD j 0 == ms.getD j 0)
    rw [g1, g2]
    exact SeqAt.EqAt.int_int _ _ _ _
  · have e : ((List.range (min its.toArray.size its2.toArray.size)).all (fun j => ns.getD j 0 == ms.getD j 0) && its.toArray.size == its2.toArray.size) = decide (ns = ms) := by
      rw [List.size_toArray, List.size_toArray, ← l1, ← l2]
      exact all_eq_ints ns ms
    rw [e]
    exact ⟨.bl _, H, I, rfl, q⟩
theorem call_isi : CallR X (.builtin "isinstance") (fun xs H Q => ∃ x t c b, xs = [x, .ty c] ∧ TyOf X.K H x t ∧ PySem.W.kitOne X.K t (.type c) = some b ∧ Q (.bl b) H) := by
  intro pins s σ H xs us Q I rv h
  obtain ⟨x, t, c, b, rfl, ty, e, q⟩ := h
  obtain ⟨u, u', rfl, r1, r2⟩ := vals2 rv
  cases (show u' = Value.type c from r2)
  exact isinst_ok I r1 ty e fun tk => ⟨.bl b, H, I.tok tk, rfl, q⟩
end
section
variable {K : PySem.W.Frag}
theorem kit_int_int : PySem.W.kitOne K (.type "int") (.type "int") = some true := by
  show (if ((Value.type "int") == (Value.type "int")) = true then some true else (if PySem.W.kitMeta "int" = true then (PySem.fastBuiltinMro "int").map (·.contains (Value.type "int")) else none)) = some true
  decide +kernel
theorem kit_int_bool : PySem.W.kitOne K (.type "int") (.type "bool") = some false := by
  show (if ((Value.type "int") == (Value.type "bool")) = true then some true else (if PySem.W.kitMeta "bool" = true then (PySem.fastBuiltinMro "int").map (·.contains (Value.type "bool")) else none)) = some false
  decide +kernel
theorem kit_tuple_tuple : PySem.W.kitOne K (.type "tuple") (.type "tuple") = some true := by
  show (if ((Value.type "tuple") == (Value.type "tuple")) = true then some true else (if PySem.W.kitMeta "tuple" = true then (PySem.fastBuiltinMro "tuple").map (·.contains (Value.type "tuple")) else none)) = some true
  decide +kernel
theorem kit_list_list : PySem.W.kitOne K (.type "list") (.type "list") = some true := by
  show (if ((Value.type "list") == (Value.type "list")) = true then some true else (if PySem.W.kitMeta "list" = true then (PySem.fastBuiltinMro "list").map (·.contains (Value.type "list")) else none)) = some true
  decide +kernel
end
def tIfJ (c : TT) (t u : TS) : TS := fun D σ H => ∃ M : St → Hp → Prop, (c σ H fun b H1 => if b = true then t { D with nx := M } σ H1 else u { D with nx := M } σ H1) ∧ ∀ σ' H', M σ' H' → D.nx σ' H'
theorem ps_ifJ {X : Cx} {c : Expr} {a b : List Stmt} {tc : TT} {t u : TS} {pos : Pos} (hc : PT X c tc) (ha : PSs X a t) (hb : PSs X b u) : PS X (.If c a b pos) (tIfJ tc t u) := by
  intro pins s σ H D I h
  obtain ⟨M, h, hM⟩ := h
  have up : ∀ (f : Flow) (s' : Shared), SP X pins { D with nx := M } f s' → SP X pins D f s' := fun f s' q => by
    cases f with
    | next =>
      obtain ⟨σ', H', I', q⟩ := q
      exact ⟨σ', H', I', hM σ' H' q⟩
    | ret v => exact q
    | brk => exact q
    | cont => exact q
  refine wpAny_If (thn (hc pins s σ H _ I h) fun d s1 ⟨H1, I1, q1⟩ => ?_)
  cases d with
  | true => exact thn (ha pins s1 σ H1 _ I1 q1) up
  | false => exact thn (hb pins s1 σ H1 _ I1 q1) up
theorem cpow40 : CPow 10 40 := ⟨by decide, by decide, by decide⟩
theorem small63 {n : Nat} (h : n ≤ 1000) : n ≤ sizeLine := Nat.le_of_lt (small1000 h)
theorem item_at {ns : List Int} {k : Int} (h0 : 0 ≤ k) (h : k < (ns.length : Int)) : ∃ v : Int, atI (ns.map V.int) k = some (.int v) := by
  have hk : k.toNat < ns.length := by omega
  have ek : k = ((k.toNat : Nat) : Int) := by omega
  have q : atI (ns.map V.int) ((k.toNat : Nat) : Int) = some (.int ns[k.toNat]) := atI_nat (by rw [List.getElem?_map, List.getElem?_eq_getElem hk] <;> rfl)
  rw [← ek] at q
  exact ⟨_, q⟩
end L2
namespace L2
open PySem PySem.Spec PyProof.Rows
def Cx.inComp (X : Cx) (Nc : List Str) (sc : Scope) (cl : List (Str × Addr)) (s : Shared) (H : Hp) (ex : List Addr) : Cx :=
  { X with N := Nc, s₀ := s, H₀ := H, env := compEnvC sc cl s.heap.objs.size X.env, outer := X.stack, stack := X.stack, ex := ex, fn := fun _ => false, pn := [], xe := fun _ _ => False }
theorem closure_go {env : Env} {f : Str × NameKind → List (Str × Addr) → Sem (ForInStep (List (Str × Addr)))}
    (hf : ∀ n k r, f (n, k) r = if (k == NameKind.free) = true then (cellOf env n >>= fun c => pure (ForInStep.yield ((n, c) :: r))) else pure (ForInStep.yield r)) :
    ∀ (l : List (Str × NameKind)) (cs : List (Str × Addr)), (∀ x ∈ l, x.2 = .free → ∃ c, env.cells.lookup x.1 = some c) →
      ∃ cl, (forIn l cs f : Sem (List (Str × Addr))) = pure cl ∧ (∀ p ∈ cl, p ∈ cs ∨ env.cells.lookup p.1 = some p.2) ∧ (∀ p ∈ cs, p ∈ cl) ∧ ∀ x ∈ l, x.2 = .free → ∃ c, (x.1, c) ∈ cl := by
  intro l
  induction l with
  | nil =>
    intro cs _
    exact ⟨cs, by rw [List.forIn_nil], fun p hp => .inl hp, fun p hp => hp, fun x hx => absurd hx (by simp)⟩
  | cons y r ih =>
    intro cs h
    obtain ⟨n, k⟩ := y
    by_cases hk : k = .free
    · subst hk
      obtain ⟨c, hc⟩ := h (n, .free) (by simp) rfl
      have e : cellOf env n = pure c := by
        unfold cellOf
        rw [show env.cells.lookup n = some c from hc]
      obtain ⟨cl, h1, h2, h3, h4⟩ := ih ((n, c) :: cs) fun x hx => h x (List.mem_cons_of_mem _ hx)
      refine ⟨cl, ?_, fun p hp => ?_, fun p hp => h3 p (List.mem_cons_of_mem _ hp), fun x hx hf' => ?_⟩
      · rw [List.forIn_cons, hf, if_pos (by decide), e]
        simp only [pure_bind]
        exact h1
      · rcases h2 p hp with z | z
        · rcases List.mem_cons.mp z with z | z
          · subst z; exact .inr hc
          · exact .inl z
        · exact .inr z
      · rcases List.mem_cons.mp hx with z | z
        · subst z; exact ⟨c, h3 _ (by simp)⟩
        · exact h4 x z hf'
    · have hb : (k == NameKind.free) = false := by simpa using hk
      obtain ⟨cl, h1, h2, h3, h4⟩ := ih cs fun x hx => h x (List.mem_cons_of_mem _ hx)
      refine ⟨cl, ?_, h2, h3, fun x hx hf' => ?_⟩
      · rw [List.forIn_cons, hf, hb, if_neg (by decide)]
        simp only [pure_bind]
        exact h1
      · rcases List.mem_cons.mp hx with z | z
        · subst z; exact absurd hf' hk
        · exact h4 x z hf'
theorem lookup_has {α : Type} : ∀ {l : List (Str × α)} {n : Str} {c : α}, (n, c) ∈ l → ∃ d, l.lookup n = some d
  | (k, v) :: r, n, c, h => by
    rw [List.lookup_cons]
    cases hx : (n == k) with
    | true => exact ⟨v, rfl⟩
    | false =>
      rcases List.mem_cons.mp h with z | z
      · cases z
        simp at hx
      · exact lookup_has z
theorem closure_ok {env : Env} {sc : Scope} (h : ∀ x ∈ sc.names, x.2 = .free → ∃ c, env.cells.lookup x.1 = some c) :
    ∃ cl, closureFor sc env = pure cl ∧ (∀ y c, cl.lookup y = some c → env.cells.lookup y = some c) ∧ ∀ x ∈ sc.names, x.2 = .free → ∃ c, cl.lookup x.1 = some c := by
  obtain ⟨cl, h1, h2, _, h4⟩ := closure_go (env := env) (f := fun x r => if (x.2 == NameKind.free) = true then (cellOf env x.1 >>= fun c => pure (ForInStep.yield ((x.1, c) :: r))) else pure (ForInStep.yield r)) (fun _ _ _ => rfl) sc.names [] h
  refine ⟨cl, ?_, fun y c e => ?_, fun x hx hf => ?_⟩
  · unfold closureFor
    have : (forIn sc.names ([] : List (Str × Addr)) fun x r => (match x with | (name, kind) => if (kind == NameKind.free) = true then (do let __do_lift ← cellOf env name; pure (ForInStep.yield ((name, __do_lift) :: r))) else pure (ForInStep.yield r)) : Sem (List (Str × Addr))) = pure cl := h1
    first
      | (simp only [this, pure_bind]; done)
      | (simp only [h1, pure_bind]; done)
      | (rw [show (forIn sc.names ([] : List (Str × Addr)) _ : Sem (List (Str × Addr))) = pure cl from h1]; rfl)
  · rcases h2 (y, c) (PySem.mem_of_lookup e) with z | z
    · exact absurd z (by simp)
    · exact z
  · obtain ⟨c, hc⟩ := h4 x hx hf
    exact lookup_has hc
theorem lookup_relabel (env : Env) : ∀ (names : List (Str × NameKind)) (y : Str),
    (names.map fun (n, k) => if (k == NameKind.free && env.scope.kind == .function && env.kindOf n == some .cell) then (n, NameKind.cell) else (n, k)).lookup y
      = (names.lookup y).map fun k => if (k == NameKind.free && env.scope.kind == .function && env.kindOf y == some .cell) then NameKind.cell else k
  | [], y => rfl
  | (n, k) :: r, y => by
    have ih := lookup_relabel env r y
    rw [List.map_cons]
    dsimp only
    cases hx : (y == n) with
    | true =>
      have e : y = n := by simpa using hx
      subst e
      by_cases c : (k == NameKind.free && env.scope.kind == .function && env.kindOf y == some .cell) = true
      · rw [if_pos c]; simp only [List.lookup_cons, hx, Option.map_some]; rw [if_pos c]
      · rw [if_neg c]; simp only [List.lookup_cons, hx, Option.map_some]; rw [if_neg c]
    | false =>
      by_cases c : (k == NameKind.free && env.scope.kind == .function && env.kindOf n == some .cell) = true
      · rw [if_pos c]; simp only [List.lookup_cons, hx]; exact ih
      · rw [if_neg c]; simp only [List.lookup_cons, hx]; exact ih
def PIfs (X : Cx) (ifs : List Expr) (t : TT) : Prop :=
  ∀ (pins : List (Addr × Obj)) (s : Shared) (σ : St) (H : Hp) (Q : Bool → Hp → Prop), Inv X pins σ H s → t σ H Q →
    wpAny (model X.prog X.w) X.A (forIn ifs true fun c r => if r = true then do let ok ← isTrue c X.env (eval c X.env); pure (ForInStep.yield ok) else pure (ForInStep.yield r)) (TP X pins σ Q) X.xe s
def tYes : TT := fun _ H Q => Q true H
theorem yes {σ : St} {H : Hp} {Q : Bool → Hp → Prop} (h : Q true H) : tYes σ H Q := h
theorem pif_nil {X : Cx} : PIfs X [] tYes := by
  intro pins s σ H Q I h
  rw [List.forIn_nil]
  exact wpAny_pure ⟨H, I, h⟩
theorem pif_one {X : Cx} {c : Expr} {t : TT} (hc : PT X c t) : PIfs X [c] t := by
  intro pins s σ H Q I h
  rw [List.forIn_cons, if_pos rfl]
  refine wpAny_bind (wpAny_bind (thn (hc pins s σ H Q I h) fun b s1 q => wpAny_pure ?_))
  dsimp only
  rw [List.forIn_nil]
  exact wpAny_pure q
theorem thnF {α : Type} {t : Sem α} {Q Q' : α → Shared → Prop} {M : Model} {A : Around} {E : Value → Shared → Prop} {s : Shared} (h : wpAny M A t Q (fun _ _ => False) s) (hQ : ∀ a s, Q a s → Q' a s) : wpAny M A t Q' E s := wpAny_mono h hQ fun _ _ z => z.elim
def tComp (wi : TI) (tt : TT) (te : TE) : TE := fun σ H Q => wi σ H fun J H1 => ∀ D, H1 D = none → ∃ W : Nat → Nat → List V → Hp → Prop, (∃ m, W 0 m [] (upd H1 D (.lst []))) ∧ ∀ i m ys H2, W i m ys H2 →
  H2 D = some (.lst ys) ∧ ((J.stop i H2 ∧ Q (.ref D) H2) ∨ (J.go i H2 ∧ ys.length < sizeLine ∧ ∀ x H3, J.yld i H2 x H3 → tt (σ ++ [some x]) H3 fun b H4 => if b = true then te (σ ++ [some x]) H4 fun y H5 => H5 D = some (.lst ys) ∧ ∃ m', m' < m ∧ W (i + 1) m' (ys ++ [y]) (upd H5 D (.lst (ys ++ [y])))
    else ∃ m', m' < m ∧ W (i + 1) m' ys H4))
structure CompN (N Nc : List Str) (x : Str) (sc fsc : Scope) : Prop where
  kind : sc.kind = .function
  cell : ∀ y ∈ sc.names, y.2 ≠ .cell
  nm : ∀ y ∈ sc.names, y.2 = .local → sc.names.lookup y.1 = some .local
  own : sc.names.lookup x = some .local
  fr : ∀ y ∈ sc.names, y.2 = .free → fsc.names.lookup y.1 = some .cell ∨ fsc.names.lookup y.1 = some .free
  len : Nc.length = N.length + 1
  nd : Nc.Nodup
  last : Nc[N.length]? = some x
  slot : ((List.range N.length).all fun i => match Nc[i]? with
    | some y => (match sc.names.lookup y with | some .free => N[i]? == some y | some .local => false | some .cell => false | _ => true)
    | none => true) = true
theorem CompN.at {N Nc : List Str} {x : Str} {sc fsc : Scope} (C : CompN N Nc x sc fsc) {i : Nat} {y : Str} (hi : i < N.length) (h : Nc[i]? = some y) : sc.names.lookup y ≠ some .local ∧ sc.names.lookup y ≠ some .cell ∧ (sc.names.lookup y = some .free → N[i]? = some y) := by
  have q := List.all_eq_true.mp C.slot i (List.mem_range.mpr hi)
  rw [h] at q
  dsimp only at q
  cases e : sc.names.lookup y with
  | none => exact ⟨fun z => (nomatch z), fun z => (nomatch z), fun z => (nomatch z)⟩
  | some k =>
    rw [e] at q
    cases k with
    | «local» => exact absurd (show false = true from q) Bool.false_ne_true
    | cell => exact absurd (show false = true from q) Bool.false_ne_true
    | free => exact ⟨fun z => (nomatch z), fun z => (nomatch z), fun _ => by simpa using q⟩
    | _ => exact ⟨fun z => (nomatch z), fun z => (nomatch z), fun z => (nomatch z)⟩
section
variable {X : Cx} {elt iter : Expr} {x : Str} {px pos : Pos} {ifs : List Expr} {sc fsc : Scope} {N Nc : List Str} {wi : TI} {tt : TT} {te : TE}
structure CLoc (X : Cx) (pins : List (Addr × Obj)) (H : Hp) (C : Addr) : Prop where
  free : H C = none
  ne : C ≠ X.env.locals
  new : X.s₀.heap.objs.size ≤ C
  cells : ∀ x c, X.env.cells.lookup x = some c → c ≠ C
  pins : ∀ p ∈ X.pn ++ pins, p.1 ≠ C
theorem Inv.sameBut {pins : List (Addr × Obj)} {σ : St} {H : Hp} {s : Shared} {C : Addr} {h' : Heap} (I : Inv X pins σ H s) (c : CLoc X pins H C) (k : Heap.SameBut C s.heap h') : Inv X pins σ H { s with heap := h' } :=
  I.turned (t' := s.toks) (it := C) (fun b o hb e => (k.2 b hb).trans e) c.free c.ne (.inr c.new) c.cells c.pins
theorem set_last {σ : St} {o v : Option V} : (σ ++ [o]).set σ.length v = σ ++ [v] := by
  rw [List.set_append_right _ _ (Nat.le_refl _), Nat.sub_self]
  rfl
theorem comp_core (hE : X.env.scope = fsc) (hXN : X.N = N) (cn : CompN N Nc x sc fsc) (hc : X.calm = true)
    (ht : ∀ cl s H ex, PIfs (X.inComp Nc sc cl s H ex) ifs tt) (he : ∀ cl s H ex, PE (X.inComp Nc sc cl s H ex) elt te)
    {cl : List (Str × Addr)} (clS : ∀ y c, cl.lookup y = some c → X.env.cells.lookup y = some c) (clH : ∀ y ∈ sc.names, y.2 = .free → ∃ c, cl.lookup y.1 = some c)
    {pins : List (Addr × Obj)} {σ : St} {H2 : Hp} {s2 : Shared} {it : Addr} {fp : List Addr} {tn : Nat → Heap → Prop} {J : It} {Q : VK} {E : Value → Shared → Prop}
    (I2 : Inv X pins σ H2 s2) (T : Turn X.prog X.w X.K (.Name x px) J fp it tn) (st2 : tn 0 s2.heap) (f2 : ∀ b ∈ fp, FpOk X pins H2 b)
    (h2 : ∀ D, H2 D = none → ∃ W : Nat → Nat → List V → Hp → Prop, (∃ m, W 0 m [] (upd H2 D (.lst []))) ∧ ∀ i m ys H2, W i m ys H2 →
      H2 D = some (.lst ys) ∧ ((J.stop i H2 ∧ Q (.ref D) H2) ∨ (J.go i H2 ∧ ys.length < sizeLine ∧ ∀ x H3, J.yld i H2 x H3 → tt (σ ++ [some x]) H3 fun b H4 => if b = true then te (σ ++ [some x]) H4 fun y H5 => H5 D = some (.lst ys) ∧ ∃ m', m' < m ∧ W (i + 1) m' (ys ++ [y]) (upd H5 D (.lst (ys ++ [y])))
        else ∃ m', m' < m ∧ W (i + 1) m' ys H4))) :
    wpAny (model X.prog X.w) X.A (newList []) (fun acc s₃ => wpAny (model X.prog X.w) X.A (newFunctionEnv sc X.env.globals cl [] X.env.qual none .none (some X.env)) (fun cenv s₄ =>
      codeAny (model X.prog X.w) X.A (.compStart (.ListComp elt [⟨.Name x px, iter, ifs, 0⟩] sc pos) 0 (.ref it) acc { cenv with scope := relabel sc X.env })
        (fun r s' => r = .ok .next ∧ ∃ D H', acc = .ref D ∧ Inv X pins σ H' s' ∧ Q (.ref D) H' ∧ CLoc X pins H' cenv.locals ∧ ∃ m, s'.heap.Ns cenv.locals m) s₄) E s₃) E s2 := by
  refine wpAny_newObj_type (wpAny_newFunctionEnv cn.cell (by intro y hy; simp at hy) (fun h₁ hns₁ hsb₁ => ?_) cn.kind)
  dsimp only at hns₁ hsb₁ ⊢
  have hD : H2 s2.heap.objs.size = none := I2.hok.fresh (Nat.le_refl _)
  obtain ⟨W, ⟨m0, w0⟩, turn⟩ := h2 s2.heap.objs.size hD
  have I3 : Inv X pins σ (upd H2 s2.heap.objs.size (.lst [])) { s2 with heap := s2.heap.push { cls := .type "list", dict := none, data := .seq ([] : List Value).toArray } } :=
    I2.laid (t' := s2.toks) (fun b u e => Heap.get?_push_of_some _ e) (Nat.le_refl _) ⟨Nat.zero_le _, [], 0, .nil, Heap.get?_push_size _ rfl⟩
  generalize hs3 : ({ s2 with heap := s2.heap.push { cls := .type "list", dict := none, data := .seq ([] : List Value).toArray } } : Shared) = s3 at I3
  have eh : s3.heap = s2.heap.push { cls := .type "list", dict := none, data := .seq ([] : List Value).toArray } := by rw [← hs3]
  have e2 : ({ s2 with heap := h₁, toks := s2.toks + ([] : List (Str × Value)).length } : Shared) = { s3 with heap := h₁, toks := s3.toks } := by rw [← hs3]; rfl
  generalize hH3 : upd H2 s2.heap.objs.size (.lst []) = H3 at I3 w0
  rw [← eh] at hns₁ hsb₁ ⊢
  rw [e2]
  have below2 : ∀ b, b ∈ fp → b < s3.heap.objs.size := fun b hb => by
    obtain ⟨o, e, _⟩ := T.obj _ _ st2 b hb
    have : s2.heap.objs.size ≤ s3.heap.objs.size := by rw [eh, Heap.size_push]; exact Nat.le_succ _
    exact Nat.lt_of_lt_of_le (Heap.lt_size e) this
  have old : ∀ b o, s3.heap.get? b = some o → h₁.get? b = some o := fun b o e => (hsb₁.2 b (Nat.ne_of_lt (Heap.lt_size e))).trans (Heap.get?_push_of_some _ e)
  have old2 : ∀ b o, s2.heap.get? b = some o → s3.heap.get? b = some o := fun b o e => by rw [eh]; exact Heap.get?_push_of_some _ e
  have hsz3 : s2.heap.objs.size < s3.heap.objs.size := by rw [eh, Heap.size_push]; exact Nat.lt_succ_self _
  have fpFree : ∀ b ∈ fp, H3 b = none := fun b hb => by
    rw [← hH3, upd_ne (fun z => ?_)]
    · exact (f2 b hb).1
    · obtain ⟨o, e, _⟩ := T.obj _ _ st2 b hb
      have := Heap.lt_size e
      rw [z] at this
      exact Nat.lt_irrefl _ this
  have rl : ∀ y, (relabel sc X.env).names.lookup y = (sc.names.lookup y).map fun k => if (k == NameKind.free && X.env.scope.kind == .function && X.env.kindOf y == some .cell) then NameKind.cell else k := fun y => lookup_relabel X.env sc.names y
  have freeOf : ∀ y, sc.names.lookup y = some .free → ∃ c, cl.lookup y = some c := fun y e => clH (y, .free) (PySem.mem_of_lookup e) rfl
  have noCell : ∀ y, sc.names.lookup y ≠ some .cell := fun y e => cn.cell (y, .cell) (PySem.mem_of_lookup e) rfl
  have isFree : ∀ y, ((relabel sc X.env).names.lookup y = some .cell ∨ (relabel sc X.env).names.lookup y = some .free) → sc.names.lookup y = some .free := fun y h => by
    rw [rl y] at h
    cases e : sc.names.lookup y with
    | none => rw [e] at h; rcases h with z | z <;> exact absurd z (by simp)
    | some k =>
      rw [e] at h
      cases k with
      | free => rfl
      | cell => exact absurd e (noCell y)
      | «local» => rcases h with z | z <;> exact absurd z (by simp)
      | _ => rcases h with z | z <;> exact absurd z (by simp)
  have ownLoc : (relabel sc X.env).names.lookup x = some .local := by rw [rl x, cn.own]; rfl
  have exOk : ∀ b ∈ fp, b ≠ s3.heap.objs.size ∧ (∀ y c, X.env.cells.lookup y = some c → c ≠ b) ∧ b ∉ frs X.stack := fun b hb => by
    obtain ⟨g0, g1, g2, g3, g4, g5⟩ := f2 b hb
    refine ⟨Nat.ne_of_lt (below2 b hb), g4, fun z => ?_⟩
    rcases List.mem_cons.mp (I2.stkSub b z) with z | z
    · exact g1 z
    · exact g2 z
  have hCnew : X.s₀.heap.objs.size ≤ s3.heap.objs.size := I3.sz
  have hCcell : ∀ y c, X.env.cells.lookup y = some c → c ≠ s3.heap.objs.size := fun y c e z => by
    obtain ⟨v, q⟩ := I3.cell y c e
    have := q.lt
    rw [z] at this
    exact Nat.lt_irrefl _ this
  have hCpin : ∀ p ∈ X.pn ++ pins, p.1 ≠ s3.heap.objs.size := fun p hp z => by
    have := Heap.lt_size (I3.pin p hp).1
    rw [z] at this
    exact Nat.lt_irrefl _ this
  have okc : (X.inComp Nc sc cl s3 H3 fp).Ok := by
    refine ⟨I3.ok.mod, cn.kind, I3.ok.glob, I3.ok.blt, Nat.le_refl _, fun y z c h1 h2 => I3.ok.inj y z c (clS y c h1) (clS z c h2), fun y hy => freeOf y (isFree y hy), fun y c hf => absurd (show false = true from hf) Bool.false_ne_true, I3.ok.hd, I3.ok.frames, .inl rfl,
      fun b hb => ⟨(exOk b hb).1, fun y c e => (exOk b hb).2.1 y c (clS y c e)⟩, fun b o e => I3.bs b o e, Nat.le_trans I3.ok.bsz I3.sz, fun b o e hb => ?_, fun b hb => (exOk b hb).2.2, I3.stack, I3.stkFree⟩
    obtain ⟨g0, g1, g2, g3, g4, g5⟩ := f2 b hb
    rcases g3 with z | z
    · exact I3.ok.noex b o e z
    · exact absurd (Heap.lt_size (I3.ok.bs b o e).1) (Nat.not_lt.mpr z)
  have hlen : σ.length = N.length := by rw [I3.len, hXN]
  have Ic : Inv (X.inComp Nc sc cl s3 H3 fp) [] (σ ++ [none]) H3 { s3 with heap := h₁, toks := s3.toks } := by
    refine ⟨okc, rfl, I3.bare, Un.kept old, ⟨_, hns₁, fun i y v h1 h2 h3 => ?_⟩, fun y c e => ?_, I3.hok.fresh (Nat.le_refl _), fun y c e => I3.freeC y c (clS y c e), fun p hp => absurd (show p ∈ ([] : List (Addr × Obj)) from hp) (by simp), I3.hok.kept old, ?_⟩
    · have hi : i < σ.length := by
        by_cases hi : i < σ.length
        · exact hi
        · rw [List.getElem?_append_right (Nat.not_lt.mp hi)] at h2
          cases e : i - σ.length with
          | zero => rw [e] at h2; cases h2
          | succ k => rw [e] at h2; simp at h2
      rw [List.getElem?_append_left hi] at h2
      have hi' : i < N.length := by rw [← hlen]; exact hi
      obtain ⟨n1, n2, n3⟩ := cn.at hi' h1
      have hf : sc.names.lookup y = some .free := by
        rcases h3 with z | z
        · exfalso
          have z' : (relabel sc X.env).names.lookup y = some .local := z
          rw [rl y] at z'
          cases e : sc.names.lookup y with
          | none => rw [e] at z'; simp at z'
          | some k =>
            rw [e] at z'
            cases k with
            | «local» => exact n1 e
            | cell => exact n2 e
            | free =>
              simp only [Option.map_some, Option.some.injEq] at z'
              split at z' <;> cases z'
            | _ => simp at z'
        · exact isFree y z
      have hN : X.N[i]? = some y := by rw [hXN]; exact n3 hf
      obtain ⟨m, hn, hl⟩ := I3.loc
      have hv : fsc.names.lookup y = some .cell ∨ fsc.names.lookup y = some .free := cn.fr (y, .free) (PySem.mem_of_lookup hf) rfl
      have hv' : X.env.scope.names.lookup y = some .cell ∨ X.env.scope.names.lookup y = some .free := by rw [hE]; exact hv
      obtain ⟨u, ru, lk⟩ := hl i y v hN h2 (.inr hv')
      refine ⟨u, ru, .inr ⟨?_, ?_⟩⟩
      · show (relabel sc X.env).names.lookup y = some .cell ∨ (relabel sc X.env).names.lookup y = some .free
        rw [rl y, hf]
        simp only [Option.map_some, Option.some.injEq]
        split
        · exact .inl rfl
        · exact .inr rfl
      · rcases lk with ⟨kl, _⟩ | ⟨_, c, hc, hcell⟩
        · exfalso
          have kl' : X.env.scope.names.lookup y = some .local := kl
          rw [kl'] at hv'
          rcases hv' with z | z <;> cases z
        · obtain ⟨d, hd⟩ := freeOf y hf
          have ed := clS y d hd
          rw [hc] at ed
          cases ed
          exact ⟨c, hd, hcell.keeps old⟩
    · obtain ⟨v, q⟩ := I3.cell y c (clS y c e)
      exact ⟨v, q.keeps old⟩
    · show (σ ++ [none]).length = Nc.length
      rw [List.length_append, hlen, cn.len]
      rfl
  have stc : tn 0 ({ s3 with heap := h₁, toks := s3.toks } : Shared).heap := T.keep _ _ _ st2 fun b _ o e => old b o (old2 b o e)
  have hDf : s2.heap.objs.size ∉ fp := fun hm => by
    obtain ⟨o, e, _⟩ := T.obj _ _ st2 _ hm
    exact Nat.lt_irrefl _ (Heap.lt_size e)
  have fpc : ∀ {pins' : List (Addr × Obj)} {H' : Hp}, pins' = [] → (∀ b ∈ fp, H' b = none) → ∀ b ∈ fp, FpOk (X.inComp Nc sc cl s3 H3 fp) pins' H' b := fun {pins' H'} hp hn b hb => by
    subst hp
    exact ⟨hn b hb, (exOk b hb).1, (exOk b hb).2.2, .inl hb, fun y c e => (exOk b hb).2.1 y c (clS y c e), fun p hp => absurd (show p ∈ ([] : List (Addr × Obj)) from hp) (by simp)⟩
  have hg : PG (X.inComp Nc sc cl s3 H3 fp) (.Name x px) (gName σ.length) := pg_name (X := X.inComp Nc sc cl s3 H3 fp) cn.nd (by show Nc[σ.length]? = some x; rw [hlen]; exact cn.last) (.inl ownLoc) (.inr ownLoc)
  have loop : ∀ s₄ : Shared, s₄ = { s3 with heap := h₁, toks := s3.toks } →
      codeAny (model X.prog X.w) X.A (.compLoop (.ListComp elt [⟨.Name x px, iter, ifs, 0⟩] sc pos) 0 (.ref it) (.ref s2.heap.objs.size) (compEnvC sc cl s3.heap.objs.size X.env))
        (fun r s' => r = .ok .next ∧ ∃ D H', (Value.ref s2.heap.objs.size) = .ref D ∧ Inv X pins σ H' s' ∧ Q (.ref D) H' ∧ CLoc X pins H' s3.heap.objs.size ∧ ∃ m, s'.heap.Ns s3.heap.objs.size m) s₄ := by
    rintro s₄ rfl
    refine codeAny_compLoop_tests (fun n s' => ∃ (i : Nat) (o : Option V) (H' : Hp) (ys : List V), Inv (X.inComp Nc sc cl s3 H3 fp) [] (σ ++ [o]) H' s' ∧ tn i s'.heap ∧ (∀ b ∈ fp, H' b = none) ∧ W i n ys H') ?_ m0 ⟨0, none, H3, [], Ic, stc, fpFree, w0⟩
    rintro n s' ⟨i, o, H', ys, I', st', fr', w'⟩
    obtain ⟨hDl, tw⟩ := turn i n ys H' w'
    rcases tw with ⟨stop, q⟩ | ⟨go, hz, step⟩
    ·
      refine thn (T.done (X.inComp Nc sc cl s3 H3 fp) rfl rfl rfl hc i [] s' _ H' _ I' (fpc rfl fr') st' stop) fun r s5 ⟨hr, I5⟩ => ?_
      subst hr
      have Ix : Inv X pins σ H' s5 := I3.call' (ch := fp) I5.os I5.base I5.hok I5.bare fun b hb => by
        obtain ⟨g0, g1, g2, g3, g4, g5⟩ := f2 b hb
        exact ⟨g3, g1, g4, g5⟩
      have hCf : H' s3.heap.objs.size = none := I5.free
      obtain ⟨m, hn, _⟩ := I5.loc
      exact ⟨rfl, s2.heap.objs.size, H', rfl, Ix, q, ⟨hCf, fun z => Nat.lt_irrefl _ (by have := I3.lt; rw [← z] at this; exact this), hCnew, hCcell, hCpin⟩, m, hn⟩
    ·
      refine thn (T.item (X.inComp Nc sc cl s3 H3 fp) rfl rfl rfl hc i [] s' _ H' _ I' (fpc rfl fr') st' go) fun r s5 ⟨u, hr, h4⟩ => ?_
      subst hr
      dsimp only
      have e0 : letOwnedTupleGo (.Name x px) (.ref it) u = pure () := rfl
      have e1 : (letOwnedTupleGo (.Name x px) (.ref it) u >>= fun _ => assign (.Name x px) (compEnvC sc cl s3.heap.objs.size X.env) u) = assign (.Name x px) (compEnvC sc cl s3.heap.objs.size X.env) u := by rw [e0, pure_bind]
      rw [← e1]
      refine wpAny_bind (thn h4 fun _ s6 ⟨xv, H5, I5, r5, y5, st5, fr5⟩ => ?_)
      have I5' := I5.pinned (fpc rfl fr5) (T.obj _ _ st5)
      have again : ∀ {H7 : Hp} {s7 : Shared} {m' : Nat} {ys' : List V}, Inv (X.inComp Nc sc cl s3 H3 fp) ([] ++ pinsAt fp s6.heap) (σ ++ [some xv]) H7 s7 → m' < n → W (i + 1) m' ys' H7 →
          ∃ m, m < n ∧ ∃ (i : Nat) (o : Option V) (H' : Hp) (ys : List V), Inv (X.inComp Nc sc cl s3 H3 fp) [] (σ ++ [o]) H' s7 ∧ tn i s7.heap ∧ (∀ b ∈ fp, H' b = none) ∧ W i m ys H' := fun {H7 s7 m' ys'} I7 hm w7 => by
        refine ⟨m', hm, i + 1, some xv, H7, ys', I7.unpinned, T.keep _ _ _ st5 fun b hb o e => (I7.pin (b, o) (List.mem_append_right _ (List.mem_append_right _ (mem_pinsAt hb e)))).1, fun b hb => ?_, w7⟩
        obtain ⟨o', e, d⟩ := T.obj _ _ st5 b hb
        exact (I7.pin (b, o') (List.mem_append_right _ (List.mem_append_right _ (mem_pinsAt hb e)))).2.1
      refine thnF (hg _ s6 _ H5 xv u (fun σ' H'' => σ' = σ ++ [some xv] ∧ H'' = H5) I5' r5 ⟨set_last, rfl⟩) fun _ s7 ⟨σ7, H7, I7, e7, e7'⟩ => ?_
      subst e7
      subst e7'
      refine thnF (ht cl s3 H3 fp _ s7 _ _ _ I7 (step xv _ y5)) fun b s8 ⟨H8, I8, q8⟩ => ?_
      cases b with
      | false =>
        rw [if_neg Bool.false_ne_true] at q8 ⊢
        obtain ⟨m', hm, w8⟩ := q8
        exact again I8 hm w8
      | true =>
        rw [if_pos rfl] at q8 ⊢
        refine thnF (he cl s3 H3 fp _ s8 _ H8 _ I8 q8) fun y s9 ⟨yv, H9, I9, r9, hD9, m', hm, w9⟩ => ?_
        refine thnF (mt_append _ s9 _ H9 (.ref s2.heap.objs.size) [yv] (.ref s2.heap.objs.size) [y] (fun v H => v = .non ∧ H = upd H9 s2.heap.objs.size (.lst (ys ++ [yv]))) I9 rfl (.cons r9 .nil) ⟨_, ys, yv, rfl, rfl, hD9, hz, rfl, rfl⟩) fun _ s10 ⟨v10, H10, I10, r10, e10, e11⟩ => ?_
        subst e11
        exact again I10 hm w9
  exact codeAny_compStart_list (loop _ rfl) (T.self _ 0 _ _ _ stc (loop _ rfl))
theorem comp_has (I : ∀ y, (X.env.kindOf y = some .cell ∨ X.env.kindOf y = some .free) → ∃ c, X.env.cells.lookup y = some c) (hE : X.env.scope = fsc) (cn : CompN N Nc x sc fsc) : ∀ y ∈ sc.names, y.2 = .free → ∃ c, X.env.cells.lookup y.1 = some c := fun y hy hf => by
  refine I y.1 ?_
  show X.env.scope.names.lookup y.1 = some .cell ∨ X.env.scope.names.lookup y.1 = some .free
  rw [hE]
  exact cn.fr y hy hf
theorem pe_comp (hE : X.env.scope = fsc) (hXN : X.N = N) (cn : CompN N Nc x sc fsc) (hc : X.calm = true) (hi : PI X (.Name x px) iter wi)
    (ht : ∀ cl s H ex, PIfs (X.inComp Nc sc cl s H ex) ifs tt) (he : ∀ cl s H ex, PE (X.inComp Nc sc cl s H ex) elt te)
    (hs : ∀ v, foldedSetIterable iter X.env v = pure v := by intro _; rfl) : PE X (.ListComp elt [⟨.Name x px, iter, ifs, 0⟩] sc pos) (tComp wi tt te) := by
  intro pins s σ H Q I h
  obtain ⟨cl, hcl, clS, clH⟩ := closure_ok (env := X.env) (sc := sc) (comp_has I.ok.has hE cn)
  rw [eval_ListComp]
  refine wpAny_comprehension_free (use := none) rfl hs hcl cn.kind cn.nm (thn (hi pins s σ H _ I h) fun v s1 h1 => thn h1 fun itv s2 h2 => ?_)
  obtain ⟨it, fp, tn, J, H2, rfl, I2, T, st2, f2, h2⟩ := h2
  refine thn (comp_core (pos := pos) (iter := iter) hE hXN cn hc ht he clS clH I2 T st2 f2 h2) fun acc s3 h3 => thn h3 fun cenv s4 h4 => codeAny_mono h4 fun r s' h5 => ?_
  obtain ⟨rfl, D, H', rfl, I', q, cloc, m, hn⟩ := h5
  exact ⟨m, hn, fun h' k => ⟨.ref D, H', I'.sameBut cloc k, rfl, q⟩⟩
theorem ps_setC {j : Nat} {y : Str} {py spos : Pos} (hE : X.env.scope = fsc) (hXN : X.N = N) (cn : CompN N Nc x sc fsc) (hc : X.calm = true) (hnd : X.N.Nodup) (hj : X.N[j]? = some y) (hy : X.env.scope.names.lookup y = some .local) (hi : PI X (.Name x px) iter wi)
    (ht : ∀ cl s H ex, PIfs (X.inComp Nc sc cl s H ex) ifs tt) (he : ∀ cl s H ex, PE (X.inComp Nc sc cl s H ex) elt te)
    (hsw : swapsWith (.ListComp elt [⟨.Name x px, iter, ifs, 0⟩] sc pos) (some (.Name y py)) spos.line X.env = pure true)
    (hs : ∀ v, foldedSetIterable iter X.env v = pure v := by intro _; rfl) : PS X (.Assign [.Name y py] (.ListComp elt [⟨.Name x px, iter, ifs, 0⟩] sc pos) spos) (tAsg (tComp wi tt te) (gName j)) := by
  intro pins s σ H D I h
  obtain ⟨cl, hcl, clS, clH⟩ := closure_ok (env := X.env) (sc := sc) (comp_has I.ok.has hE cn)
  rw [exec_Assign_Name_used _ _ _ _ hsw]
  refine wpAny_bind (wpAny_standAt (wpAny_bind ?_))
  show wpAny _ X.A (do let _ ← comprehension (.ListComp elt [⟨.Name x px, iter, ifs, 0⟩] sc pos) sc X.env _ (newList []) false (eval iter X.env) (some (assign (.Name y py) X.env))) _ _ s
  refine wpAny_bind (thn (wpAny_comprehension_free (Q := fun _ s' => SP X pins D .next s') rfl hs hcl cn.kind cn.nm (thn (hi pins s σ H _ I h) fun v s1 h1 => thn h1 fun itv s2 h2 => ?_)) fun _ s' hq => wpAny_pure (wpAny_pure hq))
  obtain ⟨it, fp, tn, J, H2, rfl, I2, T, st2, f2, h2⟩ := h2
  refine thn (comp_core (pos := pos) (iter := iter) (Q := fun x H1 => gName j x σ H1 D.nx) hE hXN cn hc ht he clS clH I2 T st2 f2 h2) fun acc s3 h3 => thn h3 fun cenv s4 h4 => codeAny_mono h4 fun r s' h5 => ?_
  obtain ⟨rfl, D', H', rfl, I', q, cloc, m, hn⟩ := h5
  refine wpAny_assign_Name (store_ok2 (v := .ref D') I' hnd hj (.inl hy) rfl (fun s6 I6 sb => ?_) (.inr hy))
  obtain ⟨a, k, ha⟩ := sb
  refine ⟨m, hn.sameBut k (fun z => ?_), fun h' k' => ⟨_, H', I6.sameBut cloc k', q⟩⟩
  rcases ha with ha | ha
  · exact cloc.ne (z.trans ha)
  · exact cloc.cells _ _ ha z.symm
end
theorem comp_range {lo : Int} {n : Nat} {tt : TT} {te : TE} {σ : St} {H1 : Hp} {Q : Addr → Hp → Prop} (hn : n ≤ sizeLine) (Pv : Addr → Nat → List V → Hp → Prop)
    (h0 : ∀ D, H1 D = none → Pv D 0 [] (upd H1 D (.lst []))) (hD : ∀ D i ys H, Pv D i ys H → H D = some (.lst ys) ∧ ys.length ≤ i)
    (hs : ∀ D i ys H (K1 : VK) (K2 : Hp → Prop), H1 D = none → i < n → Pv D i ys H → (∀ y H5, H5 D = some (.lst ys) → Pv D (i + 1) (ys ++ [y]) (upd H5 D (.lst (ys ++ [y]))) → K1 y H5) → (∀ H4, Pv D (i + 1) ys H4 → K2 H4) →
      tt (σ ++ [some (.int (lo + i))]) H fun b H4 => if b = true then te (σ ++ [some (.int (lo + i))]) H4 K1 else K2 H4)
    (hd : ∀ D ys H, H1 D = none → Pv D n ys H → Q D H) :
    ∀ D, H1 D = none → ∃ W : Nat → Nat → List V → Hp → Prop, (∃ m, W 0 m [] (upd H1 D (.lst []))) ∧ ∀ i m ys H2, W i m ys H2 →
      H2 D = some (.lst ys) ∧ (((Itr lo n).stop i H2 ∧ Q D H2) ∨ ((Itr lo n).go i H2 ∧ ys.length < sizeLine ∧ ∀ x H3, (Itr lo n).yld i H2 x H3 → tt (σ ++ [some x]) H3 fun b H4 => if b = true then te (σ ++ [some x]) H4 fun y H5 => H5 D = some (.lst ys) ∧ ∃ m', m' < m ∧ W (i + 1) m' (ys ++ [y]) (upd H5 D (.lst (ys ++ [y])))
        else ∃ m', m' < m ∧ W (i + 1) m' ys H4)) := by
  intro D hDn
  refine ⟨fun i m ys H => m = n - i ∧ i ≤ n ∧ Pv D i ys H, ⟨n, rfl, Nat.zero_le _, h0 D hDn⟩, ?_⟩
  rintro i m ys H2 ⟨rfl, hi, p⟩
  obtain ⟨e, l⟩ := hD D i ys H2 p
  refine ⟨e, ?_⟩
  by_cases hlt : i < n
  · refine .inr ⟨hlt, Nat.lt_of_le_of_lt l (Nat.lt_of_lt_of_le hlt hn), fun x H3 y => ?_⟩
    obtain ⟨e1, e2⟩ := y
    subst e1 e2
    exact hs D i ys _ _ _ hDn hlt p (fun y H5 h5 p5 => ⟨h5, n - (i + 1), by omega, rfl, hlt, p5⟩) fun H4 p4 => ⟨n - (i + 1), by omega, rfl, hlt, p4⟩
  · have ei : i = n := by omega
    subst ei
    exact .inl ⟨Nat.le_refl _, hd D ys H2 hDn p⟩
theorem comp_list {K : PySem.W.Frag} {a : Addr} {xs : List V} {tt : TT} {te : TE} {σ : St} {H1 : Hp} {Q : Addr → Hp → Prop} (hn : xs.length ≤ sizeLine) (Pv : Addr → Nat → List V → Hp → Prop)
    (h0 : ∀ D, H1 D = none → Pv D 0 [] (upd H1 D (.lst []))) (hD : ∀ D i ys H, Pv D i ys H → H D = some (.lst ys) ∧ ys.length ≤ i) (hl : ∀ D i ys H, H1 D = none → Pv D i ys H → SqL K H a xs)
    (hs : ∀ D i x ys H (K1 : VK) (K2 : Hp → Prop), H1 D = none → xs[i]? = some x → Pv D i ys H → (∀ y H5, H5 D = some (.lst ys) → Pv D (i + 1) (ys ++ [y]) (upd H5 D (.lst (ys ++ [y]))) → K1 y H5) → (∀ H4, Pv D (i + 1) ys H4 → K2 H4) →
      tt (σ ++ [some x]) H fun b H4 => if b = true then te (σ ++ [some x]) H4 K1 else K2 H4)
    (hd : ∀ D ys H, H1 D = none → Pv D xs.length ys H → Q D H) :
    ∀ D, H1 D = none → ∃ W : Nat → Nat → List V → Hp → Prop, (∃ m, W 0 m [] (upd H1 D (.lst []))) ∧ ∀ i m ys H2, W i m ys H2 →
      H2 D = some (.lst ys) ∧ (((Itl K a).stop i H2 ∧ Q D H2) ∨ ((Itl K a).go i H2 ∧ ys.length < sizeLine ∧ ∀ x H3, (Itl K a).yld i H2 x H3 → tt (σ ++ [some x]) H3 fun b H4 => if b = true then te (σ ++ [some x]) H4 fun y H5 => H5 D = some (.lst ys) ∧ ∃ m', m' < m ∧ W (i + 1) m' (ys ++ [y]) (upd H5 D (.lst (ys ++ [y])))
        else ∃ m', m' < m ∧ W (i + 1) m' ys H4)) := by
  intro D hDn
  refine ⟨fun i m ys H => m = xs.length - i ∧ i ≤ xs.length ∧ Pv D i ys H, ⟨xs.length, rfl, Nat.zero_le _, h0 D hDn⟩, ?_⟩
  rintro i m ys H2 ⟨rfl, hi, p⟩
  obtain ⟨e, l⟩ := hD D i ys H2 p
  have q := hl D i ys H2 hDn p
  refine ⟨e, ?_⟩
  by_cases hlt : i < xs.length
  · refine .inr ⟨⟨xs, xs[i], q, by simp [hlt]⟩, Nat.lt_of_le_of_lt l (Nat.lt_of_lt_of_le hlt hn), fun x H3 y => ?_⟩
    obtain ⟨e1, y⟩ := y
    subst e1
    exact hs D i x ys _ _ _ hDn (y xs q) p (fun y H5 h5 p5 => ⟨h5, xs.length - (i + 1), by omega, rfl, hlt, p5⟩) fun H4 p4 => ⟨xs.length - (i + 1), by omega, rfl, hlt, p4⟩
  · have ei : i = xs.length := by omega
    subst ei
    exact .inl ⟨⟨xs, q, Nat.le_refl _⟩, hd D ys H2 hDn p⟩
section
variable {X : Cx}
theorem ix_tupK (K : PySem.W.Frag) (h : X.K = K := by rfl) : IxR X (rIxT K) := by subst h; exact ix_tup
end
end L2
namespace L2
open PySem PySem.Spec PyProof.Rows
section
variable {X : Cx}
def rNeL (K : PySem.W.Frag) : R2 := fun x y H Q => ∃ (a b : Addr) (ns ms : List Int), x = .ref a ∧ y = .ref b ∧ SqL K H a (ns.map V.int) ∧ SqL K H b (ms.map V.int) ∧ Q (.bl (!decide (ns = ms))) H
theorem op_neL (hu : X.A.units + 64 < cLine) : OpR X (compareOp .NotEq) (rNeL X.K) := by
  intro pins s σ H x y v u Q I rx ry h
  obtain ⟨a, b, ns, ms, rfl, rfl, ha, hb, q⟩ := h
  cases rx
  cases ry
  obtain ⟨its, rv, ht, _⟩ := I.list ha
  obtain ⟨its2, rv2, ht2, _⟩ := I.list hb
  exact PySem.W.ne_intsK ht.isList (intsAre_of rv) ht2.isList (intsAre_of rv2) hu ⟨.bl _, H, I, rfl, q⟩
theorem call_sum (hc : X.calm = true) : CallR X (.builtin "sum") (fun xs H Q => ∃ (p : Addr) (ns : List Int), xs = [.ref p] ∧ SqL X.K H p (ns.map V.int) ∧ Q (.int ns.sum) H) := by
  intro pins s σ H xs us Q I rv h
  obtain ⟨p, ns, rfl, hS, q⟩ := h
  obtain ⟨u, rfl, r⟩ := vals1 rv
  cases r
  obtain ⟨its, rv, pl, hz⟩ := I.list hS
  have hi := intsAre_of rv
  obtain ⟨xs, e⟩ := hi.allInts.items
  have en : xs.toList.map (·.1) = ns := by
    have := nums_intItems xs
    rw [← e, show its.toArray.toList = its from rfl, hi.numsOf] at this
    exact this.symm
  refine sum_intListG (I.ok.hd hc) (by rw [← e]; exact pl.isList) fun h' tk t' hk => ?_
  rw [preSum_eq, List.take_of_length_le (by simp), en]
  exact ⟨.int ns.sum, H, I.kept hk, ⟨_, rfl⟩, q⟩
end
theorem cut_take {xs : List V} {j : Nat} : cutV xs none (some (j : Int)) = xs.take j := by
  unfold cutV
  rw [HT.sIx_none, HT.sIx_nat, List.drop_zero, Nat.sub_zero]
  by_cases h : j ≤ xs.length
  · rw [Nat.min_eq_left h]
  · rw [Nat.min_eq_right (by omega), List.take_of_length_le (Nat.le_refl _), List.take_of_length_le (by omega)]
end L2
namespace L2
open PySem PySem.Spec PyProof.Rows
section
variable {M : Model} {A : Around} {E : Value → Shared → Prop} {s : Shared} {env : Env} {outer : List Env} {L e : Addr} {base : Heap}
end
end L2
namespace L2
open PySem PySem.Spec PyProof.Rows
section
variable {X : Cx} {pins : List (Addr × Obj)} {σ : St} {H : Hp} {s : Shared} {e : Addr} {cls : Value} {od : Option Addr}
end
section
variable {X : Cx} {pins : List (Addr × Obj)} {σ : St} {H : Hp} {s s' : Shared} {E : XK} {ev : Value}
end
section
variable {X : Cx} {W : St → XK} {k : Nat} {f : Addr} {fd : FuncData} {ps : List Str} {sp : Sp} {dvs : List V} {ds : List Value} {x : Str} {p pos : Pos} {e : Expr} {es : List Expr} {t : TA}
end
end L2
namespace L2
open PySem PySem.Spec PyProof.Rows
section
variable {X : Cx} {W : St → XK} {C : Addr} {x : Str} {p cpos pos : Pos} {e : Expr} {es : List Expr} {t : TA}
end
section
variable {X : Cx} {pins : List (Addr × Obj)} {σ : St} {H : Hp} {s : Shared} {e : Addr} {cls : Value} {od : Option Addr}
end
section
variable {X : Cx} {pins : List (Addr × Obj)} {σ : St} {H : Hp} {s : Shared} {e C : Addr} {cls : Value} {od : Option Addr} {x n : Str} {i : Nat} {np pos : Pos} {b₀ : Stmt} {suite : List Stmt} {rest : List ExceptHandler} {ts : TS} {tr : TH}
end
end L2
namespace L2
open PySem PySem.Spec PyProof.Rows
section
variable {prog : Program} {w : World} {A : Around} {E : Value → Shared → Prop} {s : Shared} {K : PySem.W.Frag} {a C : Addr} {o : Obj} {od : Option Obj} {name : Str} {tk : Tok}
end
section
variable {X : Cx}
end
end L2
namespace L2
open PySem PySem.Spec PyProof.Rows
section
variable {X : Cx}
end
section
variable {K : PySem.W.Frag} {H H' : Hp} {x : V} {b : Bool}
end
section
variable {K : PySem.W.Frag} {A B : Addr}
end
end L2
namespace L2
open PySem PySem.Spec PyProof.Rows
end L2
namespace L2
open PySem PySem.Spec PyProof.Rows
section
variable {prog : Program} {w : World} {A : Around} {E : Value → Shared → Prop} {s : Shared} {K : PySem.W.Frag} {C P f x : Addr} {ox : Obj} {od : Option Obj} {name : Str} {v : Value}
end
end L2
namespace L2
open PySem PySem.Spec PyProof.Rows
section
variable {prog : Program} {w : World} {A : Around} {E : Value → Shared → Prop} {h : Heap} {g : Array GenState} {d : Drawn} {t : Nat} {os : OsState}
variable {nm q : Str} {C N : Addr} {bs bm : List Value} {hd : Bool} {sn : List Str} {sub : List Value} {ab : Bool} {col : Option Bool} {dd : Option Addr} {k0 k1 k2 k3 k5 : Option Value}
end
section
variable {X : Cx} {W : St → XK} {C P fi : Addr} {k : Nat} {fd : FuncData} {ps ns : List Str} {x : Str} {p cpos pos : Pos} {e : Expr} {es : List Expr} {t : TA}
end
end L2
namespace L2
open PySem PySem.Spec PyProof.Rows
mutual
inductive Rep (K : PySem.W.Frag) (H : Hp) : V → PyData → Prop
  | non : Rep K H .non .none
  | bl (b : Bool) : Rep K H (.bl b) (.bool b)
  | int (i : Int) : Rep K H (.int i) (.int i)
  | str (x : Str) : Rep K H (.str x) (.str x)
  | lst {a : Addr} {xs : List V} {ds : List PyData} : SqL K H a xs → Reps K H xs ds → Rep K H (.ref a) (.list ds)
  | tup {a : Addr} {xs : List V} {ds : List PyData} : SqT K H a xs → Reps K H xs ds → Rep K H (.ref a) (.tuple ds)
inductive Reps (K : PySem.W.Frag) (H : Hp) : List V → List PyData → Prop
  | nil : Reps K H [] []
  | cons {x : V} {xs : List V} {d : PyData} {ds : List PyData} : Rep K H x d → Reps K H xs ds → Reps K H (x :: xs) (d :: ds)
end
section
variable {K : PySem.W.Frag} {H H' : Hp}
mutual
theorem Rep.same (e : Same H H') : ∀ {x : V} {d : PyData}, Rep K H x d → Rep K H' x d
  | _, _, .non => .non
  | _, _, .bl b => .bl b
  | _, _, .int i => .int i
  | _, _, .str x => .str x
  | _, _, .lst h r => .lst (e.seq h) (Reps.same e r)
  | _, _, .tup h r => .tup (by
      rcases h with (h | ⟨o, h⟩) | h
      · exact .inl (.inl (e _ _ h))
      · exact .inl (.inr ⟨o, e _ _ h⟩)
      · exact .inr h) (Reps.same e r)
theorem Reps.same (e : Same H H') : ∀ {xs : List V} {ds : List PyData}, Reps K H xs ds → Reps K H' xs ds
  | _, _, .nil => .nil
  | _, _, .cons r t => .cons (Rep.same e r) (Reps.same e t)
end
theorem Reps.ints : ∀ (ns : List Int), Reps K H (ns.map V.int) (ns.map PyData.int)
  | [] => .nil
  | n :: ns => .cons (.int n) (Reps.ints ns)
end
section
variable {X : Cx} {pins : List (Addr × Obj)} {σ : St} {H : Hp} {s : Shared}
mutual
theorem Inv.reads (I : Inv X pins σ H s) : ∀ {x : V} {d : PyData}, Rep X.K H x d → ∀ {v : Value}, RelV x v → ∃ as, Reads s.heap v d as
  | _, _, .non, v, r => by cases (show v = Value.none from r); exact ⟨_, .none⟩
  | _, _, .bl b, v, r => by cases (show v = Value.bool b from r); exact ⟨_, .bool b⟩
  | _, _, .int i, v, r => by obtain ⟨t, e⟩ := (show ∃ t, v = Value.int i t from r); cases e; exact ⟨_, .int i t⟩
  | _, _, .str x, v, r => by obtain ⟨t, e⟩ := (show ∃ t, v = Value.str x t from r); cases e; exact ⟨_, .str x t⟩
  | _, _, .lst (a := a) h rs, v, r => by
    cases (show v = Value.ref a from r)
    obtain ⟨its, rv, ⟨o, n, e1, e2, _, e4⟩, _⟩ := I.list h
    obtain ⟨as, q⟩ := Inv.readsAll I rs rv
    exact ⟨_, .list e1 e2 e4 q⟩
  | _, _, .tup (a := a) h rs, v, r => by
    cases (show v = Value.ref a from r)
    obtain ⟨its, rv, ⟨o, e1, e2, n, e4⟩, _⟩ := I.tuple h
    obtain ⟨as, q⟩ := Inv.readsAll I rs rv
    exact ⟨_, .tuple e1 e2 e4 q⟩
theorem Inv.readsAll (I : Inv X pins σ H s) : ∀ {xs : List V} {ds : List PyData}, Reps X.K H xs ds → ∀ {vs : List Value}, Vals xs vs → ∃ as, ReadsAll s.heap vs ds as
  | _, _, .nil, _, .nil => ⟨_, .nil⟩
  | _, _, .cons r t, _, .cons q u => by
    obtain ⟨a1, h1⟩ := Inv.reads I r q
    obtain ⟨a2, h2⟩ := Inv.readsAll I t u
    exact ⟨_, .cons h1 h2⟩
end
def rEqD (K : PySem.W.Frag) : R2 := fun x y H Q => ∃ d e, Rep K H x d ∧ Rep K H y e ∧ PySem.SeqAt.shaped d = true ∧ PySem.SeqAt.shaped e = true ∧ Q (.bl (PyData.eqv d e)) H
def rNeD (K : PySem.W.Frag) : R2 := fun x y H Q => ∃ d e, Rep K H x d ∧ Rep K H y e ∧ PySem.SeqAt.shaped d = true ∧ PySem.SeqAt.shaped e = true ∧ Q (.bl (!PyData.eqv d e)) H
theorem op_eqD {K : PySem.W.Frag} (hu : X.A.units + 64 < cLine) (hK : X.K = K := by rfl) : OpR X (compareOp .Eq) (rEqD K) := by
  subst hK
  intro pins s σ H x y v u Q I rx ry h
  obtain ⟨d, e, hx, hy, s1, s2, q⟩ := h
  obtain ⟨as, r1⟩ := I.reads hx rx
  obtain ⟨bs, r2⟩ := I.reads hy ry
  exact eq_dataH r1 r2 s1 s2 hu ⟨.bl _, H, I, rfl, q⟩
theorem op_neD {K : PySem.W.Frag} (hu : X.A.units + 64 < cLine) (hK : X.K = K := by rfl) : OpR X (compareOp .NotEq) (rNeD K) := by
  subst hK
  intro pins s σ H x y v u Q I rx ry h
  obtain ⟨d, e, hx, hy, s1, s2, q⟩ := h
  obtain ⟨as, r1⟩ := I.reads hx rx
  obtain ⟨bs, r2⟩ := I.reads hy ry
  exact ne_dataH r1 r2 s1 s2 hu ⟨.bl _, H, I, rfl, q⟩
end
end L2
namespace L2
open PySem PySem.W PySem.Spec PyProof.Rows
section
variable {O : KeyOrd} {ky : Nat → O.α} {n : Nat} {cmp : Nat → Nat → (Bool → Shared → Prop) → Shared → Prop} {J : Shared → Prop}
def kk (ky : Nat → O.α) (p : Array Nat) (i : Nat) : O.α := ky (p.getD i 0)
def Srt (ky : Nat → O.α) (p : Array Nat) (m : Nat) : Prop := ∀ i j, i ≤ j → j < m → O.kle (kk ky p i) (kk ky p j)
def Fal (ky : Nat → O.α) (p : Array Nat) (m : Nat) : Prop := ∀ i j, i ≤ j → j < m → O.kle (kk ky p j) (kk ky p i)
def Prm (n : Nat) (p : Array Nat) : Prop := p.toList.Perm (List.range n)
def Asks (O : KeyOrd) (ky : Nat → O.α) (n : Nat) (cmp : Nat → Nat → (Bool → Shared → Prop) → Shared → Prop) (J : Shared → Prop) : Prop :=
  ∀ i j (C : Bool → Shared → Prop) s, i < n → j < n → J s → (∀ s', J s' → C (O.blt (ky i) (ky j)) s') → cmp i j C s
theorem Prm.size {p : Array Nat} (h : Prm n p) : p.size = n := by
  have := h.length_eq
  rw [List.length_range] at this
  exact this
theorem Prm.lt {p : Array Nat} (h : Prm n p) {k : Nat} (hk : k < n) : p.getD k 0 < n := by
  have hz := h.size
  have e : p.getD k 0 = p[k]'(by omega) := by simp [Array.getD, hz, hk]
  rw [e]
  exact List.mem_range.mp (h.mem_iff.mp (by simp))
theorem Prm.rev {p : Array Nat} (h : Prm n p) (i j : Nat) : Prm n (kas_rev p i j) := (mirror_perm p i j _).toList.trans h
theorem Prm.bub {p : Array Nat} (h : Prm n p) (k d : Nat) : Prm n (bubble p k d) := (bubble_perm p k d).toList.trans h
theorem getD_of {p q : Array Nat} {i j : Nat} (e : p[i]? = q[j]?) : p.getD i 0 = q.getD j 0 := by
  rw [Array.getD_eq_getD_getElem?, Array.getD_eq_getD_getElem?, e]
theorem kk_rev {p : Array Nat} {i j : Nat} (hj : j ≤ p.size) (k : Nat) : kk ky (kas_rev p i j) k = if i ≤ k ∧ k < j then kk ky p (i + j - 1 - k) else kk ky p k := by
  have e := getElem?_mirror_all (xs := p) (i := i) hj k
  unfold kk kas_rev
  by_cases c : i ≤ k ∧ k < j
  · rw [if_pos c] at e ⊢
    rw [getD_of e]
  · rw [if_neg c] at e ⊢
    rw [getD_of e]
theorem kk_bub {p : Array Nat} {src d : Nat} (hs : src < p.size) (hd : d ≤ src) (k : Nat) :
    kk ky (bubble p src d) k = if k = src - d then kk ky p src else if src - d < k ∧ k ≤ src then kk ky p (k - 1) else kk ky p k := by
  have e := getElem?_bubble hs d hd k
  unfold kk
  by_cases c : k = src - d
  · rw [if_pos c] at e ⊢
    rw [getD_of e]
  · rw [if_neg c] at e ⊢
    by_cases c2 : src - d < k ∧ k ≤ src
    · rw [if_pos c2] at e ⊢
      rw [getD_of e]
    · rw [if_neg c2] at e ⊢
      rw [getD_of e]
theorem Srt.succ {p : Array Nat} {m : Nat} (h : Srt ky p m) (h1 : 1 ≤ m) (c : O.kle (kk ky p (m - 1)) (kk ky p m)) : Srt ky p (m + 1) := fun i j hij hj => by
  by_cases e : j = m
  · subst e
    by_cases e2 : i = j
    · subst e2
      exact KeyOrd.kle_refl _
    · exact KeyOrd.kle_trans (h i (j - 1) (by omega) (by omega)) c
  · exact h i j hij (by omega)
theorem Fal.succ {p : Array Nat} {m : Nat} (h : Fal ky p m) (h1 : 1 ≤ m) (c : O.kle (kk ky p m) (kk ky p (m - 1))) : Fal ky p (m + 1) := fun i j hij hj => by
  by_cases e : j = m
  · subst e
    by_cases e2 : i = j
    · subst e2
      exact KeyOrd.kle_refl _
    · exact KeyOrd.kle_trans c (h i (j - 1) (by omega) (by omega))
  · exact h i j hij (by omega)
theorem Srt.one {p : Array Nat} : Srt ky p 1 := fun i j hij hj => by
  have : i = j := by omega
  subst this
  exact KeyOrd.kle_refl _
theorem Fal.rev {p : Array Nat} {m : Nat} (hz : m ≤ p.size) (h : Fal ky p m) : Srt ky (kas_rev p 0 m) m := fun i j hij hj => by
  rw [kk_rev hz, kk_rev hz, if_pos ⟨Nat.zero_le _, by omega⟩, if_pos ⟨Nat.zero_le _, hj⟩]
  exact h _ _ (by omega) (by omega)
theorem Fal.revEq {p : Array Nat} {i j m : Nat} (hz : j ≤ p.size) (hm : j ≤ m) (h : Fal ky p m) (eq : ∀ a b, i ≤ a → a < j → i ≤ b → b < j → O.kle (kk ky p a) (kk ky p b)) : Fal ky (kas_rev p i j) m := fun a b hab hb => by
  rw [kk_rev hz, kk_rev hz]
  by_cases c1 : i ≤ a ∧ a < j
  · rw [if_pos c1]
    by_cases c2 : i ≤ b ∧ b < j
    · rw [if_pos c2]
      exact eq _ _ (by omega) (by omega) (by omega) (by omega)
    · rw [if_neg c2]
      exact h _ _ (by omega) hb
  · rw [if_neg c1]
    by_cases c2 : i ≤ b ∧ b < j
    · rw [if_pos c2]
      exact h _ _ (by omega) (by omega)
    · rw [if_neg c2]
      exact h _ _ hab hb
theorem asc_ok (ac : Asks O ky n cmp J) {p : Array Nat} (hp : Prm n p) {R : Nat → Shared → Prop} : ∀ (f a : Nat) (s : Shared), 1 ≤ a → a + f ≤ n → Srt ky p a → J s →
    (∀ m s', a ≤ m → m ≤ a + f → Srt ky p m → (m < a + f → O.klt (kk ky p m) (kk ky p (m - 1))) → J s' → R m s') → (kas_asc p f a).kasWp cmp R s
  | 0, a, s, h1, hz, hs, hJ, k => k a s (Nat.le_refl _) (Nat.le_refl _) hs (fun h => absurd h (Nat.lt_irrefl _)) hJ
  | f + 1, a, s, h1, hz, hs, hJ, k => by
    refine ac _ _ _ s (hp.lt (by omega)) (hp.lt (by omega)) hJ fun s' hJ' => ?_
    cases e : O.blt (ky (p.getD a 0)) (ky (p.getD (a - 1) 0)) with
    | true =>
      dsimp only
      rw [if_pos rfl]
      exact k a s' (Nat.le_refl _) (by omega) hs (fun _ => e) hJ'
    | false =>
      dsimp only
      rw [if_neg Bool.false_ne_true]
      refine asc_ok ac hp f (a + 1) s' (by omega) (by omega) (hs.succ h1 e) hJ' fun m s2 l1 l2 q1 q2 q3 => ?_
      exact k m s2 (by omega) (by omega) q1 (fun h => q2 (by omega)) q3
theorem desc_ok (ac : Asks O ky n cmp J) {R : Array Nat × Nat × Nat → Shared → Prop} : ∀ (f : Nat) (p : Array Nat) (m q : Nat) (s : Shared), Prm n p → q + 1 ≤ m → m + f ≤ n → Fal ky p m →
    (∀ a b, m - (q + 1) ≤ a → a < m → m - (q + 1) ≤ b → b < m → O.kle (kk ky p a) (kk ky p b)) → J s →
    (∀ p' m' q' s', Prm n p' → q' + 1 ≤ m' → m ≤ m' → m' ≤ m + f → Fal ky p' m' → (∀ a b, m' - (q' + 1) ≤ a → a < m' → m' - (q' + 1) ≤ b → b < m' → O.kle (kk ky p' a) (kk ky p' b)) → J s' → R (p', m', q') s') →
    (kas_desc f p m q).kasWp cmp R s
  | 0, p, m, q, s, hp, hq, hz, hf, he, hJ, k => k p m q s hp hq (Nat.le_refl _) (Nat.le_refl _) hf he hJ
  | f + 1, p, m, q, s, hp, hq, hz, hf, he, hJ, k => by
    have hsz := hp.size
    refine ac _ _ _ s (hp.lt (by omega)) (hp.lt (by omega)) hJ fun s' hJ' => ?_
    cases e : O.blt (ky (p.getD m 0)) (ky (p.getD (m - 1) 0)) with
    | true =>
      dsimp only
      rw [if_pos rfl]
      have hf' : Fal ky p (m + 1) := hf.succ (by omega) (KeyOrd.kle_of_klt e)
      have one : ∀ p' : Array Nat, ∀ a b, m + 1 - (0 + 1) ≤ a → a < m + 1 → m + 1 - (0 + 1) ≤ b → b < m + 1 → O.kle (kk ky p' a) (kk ky p' b) := fun p' a b _ _ _ _ => by
        have : a = b := by omega
        subst this
        exact KeyOrd.kle_refl _
      by_cases c : q > 0
      · rw [if_pos c]
        refine desc_ok ac f (kas_rev p (m - (q + 1)) m) (m + 1) 0 s' (hp.rev _ _) (by omega) (by omega) (hf'.revEq (by omega) (by omega) he) (one _) hJ' fun p' m' q' s2 a1 a2 a3 a4 a5 a6 a7 => ?_
        exact k p' m' q' s2 a1 a2 (by omega) (by omega) a5 a6 a7
      · rw [if_neg c]
        refine desc_ok ac f p (m + 1) 0 s' hp (by omega) (by omega) hf' (one _) hJ' fun p' m' q' s2 a1 a2 a3 a4 a5 a6 a7 => ?_
        exact k p' m' q' s2 a1 a2 (by omega) (by omega) a5 a6 a7
    | false =>
      dsimp only
      rw [if_neg Bool.false_ne_true]
      refine ac _ _ _ s' (hp.lt (by omega)) (hp.lt (by omega)) hJ' fun s2 hJ2 => ?_
      cases e2 : O.blt (ky (p.getD (m - 1) 0)) (ky (p.getD m 0)) with
      | true =>
        dsimp only
        rw [if_pos rfl]
        exact k p m q s2 hp hq (Nat.le_refl _) (by omega) hf he hJ2
      | false =>
        dsimp only
        rw [if_neg Bool.false_ne_true]
        have g1 : O.kle (kk ky p (m - 1)) (kk ky p m) := e
        have g2 : O.kle (kk ky p m) (kk ky p (m - 1)) := e2
        refine desc_ok ac f p (m + 1) (q + 1) s2 hp (by omega) (by omega) (hf.succ (by omega) g2) (fun a b a1 a2 b1 b2 => ?_) hJ2 fun p' m' q' s3 c1 c2 c3 c4 c5 c6 c7 => ?_
        · by_cases ea : a = m
          · by_cases eb : b = m
            · rw [ea, eb]
              exact KeyOrd.kle_refl _
            · rw [ea]
              exact KeyOrd.kle_trans g2 (he (m - 1) b (by omega) (by omega) (by omega) (by omega))
          · by_cases eb : b = m
            · rw [eb]
              exact KeyOrd.kle_trans (he a (m - 1) (by omega) (by omega) (by omega) (by omega)) g1
            · exact he a b (by omega) (by omega) (by omega) (by omega)
        · exact k p' m' q' s3 c1 c2 (by omega) (by omega) c5 c6 c7
theorem tail3_ok (ac : Asks O ky n cmp J) {p : Array Nat} (hp : Prm n p) {m nrem : Nat} {R : Nat × Array Nat → Shared → Prop} {s : Shared} (h1 : 1 ≤ m) (h2 : m ≤ nrem) (h3 : nrem ≤ n) (hf : Fal ky p m) (hJ : J s)
    (k : ∀ m' p' s', 1 ≤ m' → m' ≤ nrem → Prm n p' → Srt ky p' m' → J s' → R (m', p') s') : (kas_tail3 m nrem p).kasWp cmp R s := by
  have hsz := hp.size
  unfold kas_tail3
  rw [KasT.kasWp_bind]
  refine asc_ok ac (hp.rev 0 m) (nrem - m) m s h1 (by omega) (hf.rev (by omega)) hJ fun m' s' a1 a2 a3 _ a5 => ?_
  exact k m' _ s' (by omega) (by omega) (hp.rev _ _) a3 a5
theorem descPart_ok (ac : Asks O ky n cmp J) {p : Array Nat} (hp : Prm n p) {m nrem : Nat} {R : Nat × Array Nat → Shared → Prop} {s : Shared} (h2 : m + 1 ≤ nrem) (h3 : nrem ≤ n) (hf : Fal ky p (m + 1)) (hJ : J s)
    (k : ∀ m' p' s', 1 ≤ m' → m' ≤ nrem → Prm n p' → Srt ky p' m' → J s' → R (m', p') s') : (kas_descPart m nrem p).kasWp cmp R s := by
  unfold kas_descPart
  rw [KasT.kasWp_bind]
  refine desc_ok ac (nrem - (m + 1)) p (m + 1) 0 s hp (by omega) (by omega) hf (fun a b _ _ _ _ => ?_) hJ fun p' m' q' s' a1 a2 a3 a4 a5 a6 a7 => ?_
  · have : a = b := by omega
    subst this
    exact KeyOrd.kle_refl _
  · have hsz := a1.size
    dsimp only
    by_cases c : q' > 0
    · rw [if_pos c]
      exact tail3_ok ac (a1.rev _ _) (by omega) (by omega) h3 (a5.revEq (by omega) (Nat.le_refl _) a6) a7 k
    · rw [if_neg c]
      exact tail3_ok ac a1 (by omega) (by omega) h3 a5 a7 k
theorem count_ok (ac : Asks O ky n cmp J) {p : Array Nat} (hp : Prm n p) {R : Nat × Array Nat → Shared → Prop} {s : Shared} (h1 : 1 ≤ n) (hJ : J s)
    (k : ∀ m' p' s', 1 ≤ m' → m' ≤ n → Prm n p' → Srt ky p' m' → J s' → R (m', p') s') : (kas_count n p).kasWp cmp R s := by
  have hsz := hp.size
  unfold kas_count
  rw [KasT.kasWp_bind]
  refine asc_ok ac hp (n - 1) 1 s (Nat.le_refl _) (by omega) Srt.one hJ fun m s' a1 a2 a3 a4 a5 => ?_
  by_cases c : m = n
  · rw [if_pos (by simpa using c)]
    exact k m p s' a1 (by omega) hp a3 a5
  · rw [if_neg (by simpa using c)]
    have lt := a4 (by omega)
    by_cases c1 : m > 1
    · rw [if_pos c1]
      refine ac _ _ _ s' (hp.lt (by omega)) (hp.lt (by omega)) a5 fun s2 hJ2 => ?_
      cases e : O.blt (ky (p.getD 0 0)) (ky (p.getD (m - 1) 0)) with
      | true =>
        dsimp only
        rw [if_pos rfl]
        exact k m p s2 a1 (by omega) hp a3 hJ2
      | false =>
        dsimp only
        rw [if_neg Bool.false_ne_true]
        have g : O.kle (kk ky p (m - 1)) (kk ky p 0) := e
        have eq : ∀ a b, a < m → b < m → O.kle (kk ky p a) (kk ky p b) := fun a b ha hb =>
          KeyOrd.kle_trans (a3 a (m - 1) (by omega) (by omega)) (KeyOrd.kle_trans g (a3 0 b (by omega) hb))
        refine descPart_ok ac (hp.rev 0 m) (by omega) (Nat.le_refl _) ?_ hJ2 k
        intro i j hij hj
        rw [kk_rev (by omega), kk_rev (by omega)]
        by_cases cj : j < m
        · rw [if_pos ⟨Nat.zero_le _, cj⟩, if_pos ⟨Nat.zero_le _, by omega⟩]
          exact eq _ _ (by omega) (by omega)
        · have ej : j = m := by omega
          subst ej
          rw [if_neg (by omega)]
          by_cases ci : i < j
          · rw [if_pos ⟨Nat.zero_le _, ci⟩]
            exact KeyOrd.kle_trans (KeyOrd.kle_of_klt lt) (eq _ _ (by omega) (by omega))
          · rw [if_neg (by omega)]
            have : i = j := by omega
            subst this
            exact KeyOrd.kle_refl _
    · rw [if_neg c1]
      have em : m = 1 := by omega
      subst em
      refine descPart_ok ac hp (by omega) (Nat.le_refl _) ?_ a5 k
      have f1 : Fal ky p 1 := fun i j hij hj => by
        have : i = j := by omega
        subst this
        exact KeyOrd.kle_refl _
      exact f1.succ (Nat.le_refl _) (KeyOrd.kle_of_klt lt)
theorem place_ok (ac : Asks O ky n cmp J) {p : Array Nat} (hp : Prm n p) {t : Nat} (ht : t < n) {R : Nat → Shared → Prop} : ∀ (f l r : Nat) (s : Shared), l ≤ r → r ≤ t → r - l ≤ f → (∀ i, i < l → O.kle (kk ky p i) (kk ky p t)) → (∀ i, r ≤ i → i < t → O.klt (kk ky p t) (kk ky p i)) →
    Srt ky p t → J s → (∀ l' s', l' ≤ t → (∀ i, i < l' → O.kle (kk ky p i) (kk ky p t)) → (∀ i, l' ≤ i → i < t → O.klt (kk ky p t) (kk ky p i)) → J s' → R l' s') → (kas_place p t f l r).kasWp cmp R s
  | 0, l, r, s, h1, h2, h3, h4, h5, _, hJ, k => k l s (by omega) h4 (fun i a b => h5 i (by omega) b) hJ
  | f + 1, l, r, s, h1, h2, h3, h4, h5, hs, hJ, k => by
    unfold kas_place
    by_cases c : l ≥ r
    · rw [if_pos c]
      exact k l s (by omega) h4 (fun i a b => h5 i (by omega) b) hJ
    · rw [if_neg c]
      refine ac _ _ _ s (hp.lt ht) (hp.lt (by omega)) hJ fun s' hJ' => ?_
      cases e : O.blt (ky (p.getD t 0)) (ky (p.getD ((l + r) / 2) 0)) with
      | true =>
        dsimp only
        rw [if_pos rfl]
        have g : O.klt (kk ky p t) (kk ky p ((l + r) / 2)) := e
        exact place_ok ac hp ht f l ((l + r) / 2) s' (by omega) (by omega) (by omega) h4 (fun i a b => KeyOrd.klt_of_klt_of_kle g (hs _ _ a b)) hs hJ' k
      | false =>
        dsimp only
        rw [if_neg Bool.false_ne_true]
        have g : O.kle (kk ky p ((l + r) / 2)) (kk ky p t) := e
        exact place_ok ac hp ht f ((l + r) / 2 + 1) r s' (by omega) h2 (by omega) (fun i a => KeyOrd.kle_trans (hs i ((l + r) / 2) (by omega) (by omega)) g) h5 hs hJ' k
theorem bin_ok (ac : Asks O ky n cmp J) {R : Array Nat → Shared → Prop} : ∀ (f : Nat) (p : Array Nat) (t : Nat) (s : Shared), Prm n p → t + f = n → Srt ky p t → J s → (∀ p' s', Prm n p' → Srt ky p' n → J s' → R p' s') → (kas_bin f p t).kasWp cmp R s
  | 0, p, t, s, hp, hz, hs, hJ, k => k p s hp (by have : t = n := by omega
                                                  subst this; exact hs) hJ
  | f + 1, p, t, s, hp, hz, hs, hJ, k => by
    have hsz := hp.size
    unfold kas_bin
    rw [KasT.kasWp_bind]
    refine place_ok ac hp (by omega) t 0 t s (Nat.zero_le _) (Nat.le_refl _) (by omega) (fun i h => absurd h (Nat.not_lt_zero _)) (fun i a b => absurd b (by omega)) hs hJ fun l s' a1 a2 a3 hJ' => ?_
    refine bin_ok ac f (bubble p t (t - l)) (t + 1) s' (hp.bub _ _) (by omega) ?_ hJ' k
    intro i j hij hj
    have el : t - (t - l) = l := by omega
    rw [kk_bub (by omega) (by omega), kk_bub (by omega) (by omega), el]
    by_cases ci : i = l
    · rw [if_pos ci]
      by_cases cj : j = l
      · rw [if_pos cj]
        exact KeyOrd.kle_refl _
      · rw [if_neg cj, if_pos ⟨by omega, by omega⟩]
        exact KeyOrd.kle_of_klt (a3 _ (by omega) (by omega))
    · rw [if_neg ci]
      by_cases ci2 : l < i ∧ i ≤ t
      · rw [if_pos ci2, if_neg (by omega), if_pos ⟨by omega, by omega⟩]
        exact hs _ _ (by omega) (by omega)
      · rw [if_neg ci2]
        by_cases cj : j = l
        · rw [if_pos cj]
          exact a2 _ (by omega)
        · rw [if_neg cj]
          by_cases cj2 : l < j ∧ j ≤ t
          · rw [if_pos cj2]
            exact hs _ _ (by omega) (by omega)
          · rw [if_neg cj2]
            exact hs _ _ hij (by omega)
theorem sort_ok (ac : Asks O ky n cmp J) {R : Array Nat → Shared → Prop} {s : Shared} (h1 : 1 ≤ n) (hJ : J s) (k : ∀ p s', Prm n p → Srt ky p n → J s' → R p s') : (kas_sort n).kasWp cmp R s := by
  unfold kas_sort
  rw [KasT.kasWp_bind]
  refine count_ok ac (List.Perm.refl _) h1 hJ fun m p s' a1 a2 a3 a4 a5 => ?_
  dsimp only
  by_cases c : m < n
  · rw [if_pos c]
    have e : max m 1 = m := by omega
    rw [e]
    exact bin_ok ac (n - m) p m s' a3 (by omega) a4 a5 k
  · rw [if_neg c]
    have e : m = n := by omega
    subst e
    exact k p s' a3 a4 a5
end
end L2
namespace L2
open PySem PySem.W PySem.Spec PyProof.Rows
theorem lex_dec : ∀ a b : List Int, HT.lexLt a b = decide (a < b)
  | [], [] => by simp [HT.lexLt]
  | [], _ :: _ => by simp [HT.lexLt]
  | _ :: _, [] => by simp [HT.lexLt]
  | x :: xs, y :: ys => by
    rw [HT.lexLt_cons, lex_dec xs ys]
    by_cases e : x = y
    · subst e
      rw [if_pos rfl]
      simp [List.cons_lt_cons_iff]
    · rw [if_neg e]
      simp [List.cons_lt_cons_iff, e]
def lexO : KeyOrd where
  α := List Int
  blt a b := HT.lexLt a b
  irrefl a := by rw [lex_dec]; simpa using List.lt_irrefl a
  trans a b c h1 h2 := by
    rw [lex_dec] at *
    simp only [decide_eq_true_eq] at *
    exact List.lt_trans h1 h2
  negTrans a b c h := by
    rw [lex_dec] at h
    rw [lex_dec, lex_dec]
    simp only [decide_eq_true_eq] at *
    by_cases hab : a < b
    · exact .inl hab
    · exact .inr (List.lt_of_le_of_lt (List.not_lt.mp hab) h)
  total a b h1 h2 := by
    rw [lex_dec] at *
    simp only [decide_eq_false_iff_not] at *
    exact List.le_antisymm (List.not_lt.mp h2) (List.not_lt.mp h1)
def IsRow (h : Heap) (v : Value) (ns : List Int) : Prop := ∃ a its, v = .ref a ∧ IsTup h a its ∧ IntsAre its.toList ns
section
variable {prog : Program} {w : World} {A : Around} {E : Value → Shared → Prop} {s : Shared} {Q : Bool → Shared → Prop}
theorem row_lex {fin bb : Bool} : ∀ {vs us : List Value} {ns ms : List Int} (i : Nat), IntsAre vs ns → IntsAre us ms → Q (HT.lexLt ns ms) s → fin = decide (vs.length < us.length) → KatLex prog w A bb fin Q (vs.zip us) i s
  | _, _, _, _, i, .nil, .nil, h, e => by
    refine kat_nil ?_
    rw [e]
    exact h
  | _, _, _, _, i, .nil, .cons _ _ _, h, e => by
    refine kat_nil ?_
    rw [e]
    simpa [HT.lexLt] using h
  | _, _, _, _, i, .cons _ _ _, .nil, h, e => by
    refine kat_nil ?_
    rw [e]
    simpa [HT.lexLt] using h
  | _, _, _, _, i, .cons (vs := vs) (ns := ns) x t hv, .cons (vs := us) (ns := ms) y u hu, h, e => by
    refine kat_cons (wpAny_eqBool_int (kat_go (fun c => ?_) (fun c => ?_)))
    · have xy : x = y := by simpa using c
      subst xy
      refine kat_yes (row_lex (i + 1) hv hu ?_ ?_)
      · simpa [HT.lexLt] using h
      · rw [e]
        simp
    · have xy : ¬ x = y := by simpa using c
      refine kat_no ?_
      have h' : Q (decide (x < y)) s := by simpa [HT.lexLt, xy] using h
      cases (bb && i == 0) with
      | true => exact oneLt_int h'
      | false => exact kat_one _ _ (lt_int h')
def RowKind (κ : SortKind) : Prop := (∃ b, κ = tuples' b) ∨ κ = general' ∨ κ = oneType'
theorem row_lt {κ : SortKind} {x y : Value} {ns ms : List Int} (hk : RowKind κ) (hx : IsRow s.heap x ns) (hy : IsRow s.heap y ms) (hu : A.units < cLine) (h : Q (HT.lexLt ns ms) s) : wpAny (model prog w) A (keyLt' κ x y) Q E s := by
  obtain ⟨a, its, rfl, ta, ia⟩ := hx
  obtain ⟨b, jts, rfl, tb, ib⟩ := hy
  rcases hk with ⟨bb, rfl⟩ | rfl | rfl
  · obtain ⟨o, ho, hc, n, hd⟩ := ta
    obtain ⟨o2, ho2, hc2, n2, hd2⟩ := tb
    exact kat_lt ho hd ho2 hd2 (row_lex 0 ia ib h (by simp))
  · exact kat_one _ _ (HT.lt_tupInts ta tb ia ib hu h)
  · rw [keyLt'_oneType, oneLt'_eq]
    simp only [if_true]
    refine wpAny_bind (wpAny_cRoomFor hu ?_)
    obtain ⟨⟨cls, dd, data, sl⟩, ho, hc, n, hd⟩ := id ta
    obtain ⟨⟨cls2, dd2, data2, sl2⟩, ho2, hc2, n2, hd2⟩ := id tb
    simp only at hc hd hc2 hd2
    subst hc hd hc2 hd2
    refine wpAny_bind (wpAny_callSpecialIfBound?_slot (T := "tuple") ⟨_, ho, rfl⟩ PySem.F.slot_tuple_lt (call_meets PySem.F.slot_tuple_lt ⟨_, ho, rfl⟩ PySem.F.entry_tuple_lt (PySem.F.args_tuple_lt_2 _ _) (HT.tuple_lt_ints a b its jts n n2 dd dd2 sl sl2 ns ms ia ib) ⟨ho, ho2, ?_⟩))
    exact wpAny_truthy_bool h
theorem ints_first : ∀ {l : List Value} {ns : List Int}, IntsAre l ns → ∀ {v : Value}, l[0]? = some v → ∃ n t, v = Value.int n t
  | _, _, .nil, v, e => by simp at e
  | _, _, .cons n t _, v, e => ⟨n, t, by simpa using e.symm⟩
theorem mapM_any {α β : Type} {f : α → Sem β} : ∀ (l : List α) {R : List β → Shared → Prop}, (∀ v ∈ l, ∀ (Q' : β → Shared → Prop), (∀ r, Q' r s) → wpAny (model prog w) A (f v) Q' E s) → (∀ rs, R rs s) → wpAny (model prog w) A (l.mapM f) R E s
  | [], _, _, h => by
    rw [List.mapM_nil]
    exact wpAny_pure (h [])
  | x :: l, R, hf, h => by
    rw [List.mapM_cons]
    exact wpAny_bind (hf x (.head _) _ fun r => wpAny_bind (mapM_any l (R := fun bs s' => wpAny (model prog w) A (pure (r :: bs)) R E s') (fun v hv => hf v (.tail _ hv)) fun rs => wpAny_pure (h _)))
theorem one_type {l : List Value} {R : Option Value → Shared → Prop} (hf : ∀ v ∈ l, ∀ (Q' : Value → Shared → Prop), (∀ r, Q' r s) → wpAny (model prog w) A (typeOf v) Q' E s) (h : ∀ r, R r s) : wpAny (model prog w) A (oneTypeOnly' l.toArray) R E s := by
  rw [oneTypeOnly'_eq, List.mapM_toArray, map_eq_pure_bind]
  refine wpAny_bind (wpAny_bind (mapM_any l hf fun rs => wpAny_pure ?_))
  cases rs.toArray[0]? with
  | none => exact wpAny_pure (h _)
  | some t => exact wpAny_pure (h _)
theorem row_firsts {rows : List (List Int)} : ∀ {vs : List Value}, Paired (IsRow s.heap) vs rows → ∀ {R : List (Option Value) → Shared → Prop}, (∀ fs, fs.length = vs.length → (∀ f ∈ fs, ∀ v, f = some v → ∃ n t, v = Value.int n t) → R fs s) →
    wpAny (model prog w) A (vs.mapM firstOfTuple') R E s := by
  intro vs hp
  induction hp with
  | nil =>
    intro R h
    rw [List.mapM_nil]
    exact wpAny_pure (h [] rfl (fun f m => nomatch m))
  | cons hx hr ih =>
    intro R h
    obtain ⟨a, its, rfl, ⟨o, ho, hc, n, hd⟩, ia⟩ := hx
    rw [List.mapM_cons]
    refine wpAny_bind ?_
    rw [kas_first_eq]
    refine wpAny_bind (Looks.here (show Looks (model prog w) s.heap (typeOf (.ref a)) o.cls from (Looks.ld ho).andThen .now) ?_)
    rw [hc, if_neg (by first | decide | simp)]
    refine wpAny_bind (listItems_at ho hd (wpAny_pure ?_))
    refine wpAny_bind (ih fun fs l1 l2 => wpAny_pure (h _ (by rw [List.length_cons, List.length_cons, l1]) fun f m v e => ?_))
    rcases List.mem_cons.mp m with m | m
    · subst m
      have e' : its.toList[0]? = some v := by simpa using e
      exact ints_first ia e'
    · exact l2 f m v e
theorem row_kind {vs : List Value} {rows : List (List Int)} (hp : Paired (IsRow s.heap) vs rows) {R : SortKind → Shared → Prop} (h : ∀ κ, RowKind κ → R κ s) : wpAny (model prog w) A (keyKind' vs.toArray) R E s := by
  rw [kat_kind_eq, List.mapM_toArray, map_eq_pure_bind]
  refine wpAny_bind (wpAny_bind (row_firsts hp fun fs l1 l2 => wpAny_pure ?_))
  by_cases c : (fs.toArray.all fun x => x.isSome) = true
  · rw [if_pos c]
    refine wpAny_bind (wpAny_rule ?_)
    have e : fs.toArray.filterMap id = (fs.filterMap id).toArray := by simp
    rw [e]
    refine wpAny_bind (one_type (fun v hv Q' hq => ?_) fun r => wpAny_pure (h _ (.inl ⟨_, rfl⟩)))
    obtain ⟨f, fm, fe⟩ := List.mem_filterMap.mp hv
    obtain ⟨n, t, rfl⟩ := l2 f fm v fe
    exact wpAny_of_eq (a := Value.type "int") rfl (hq _)
  · rw [if_neg c]
    by_cases c2 : (fs.toArray[0]?.bind id).isSome = true
    · rw [if_pos c2]
      exact wpAny_pure (h _ (.inr (.inl rfl)))
    · rw [if_neg c2]
      refine wpAny_bind (one_type (fun v hv Q' hq => ?_) fun r => ?_)
      · obtain ⟨ns, hr⟩ : ∃ ns, IsRow s.heap v ns := by
          clear l1 l2 c c2
          induction hp with
          | nil => cases hv
          | cons hx _ ih =>
            rcases List.mem_cons.mp hv with m | m
            · exact ⟨_, m ▸ hx⟩
            · exact ih m
        obtain ⟨a, its, rfl, ⟨o, ho, hc, n, hd⟩, ia⟩ := hr
        exact Looks.here (show Looks (model prog w) s.heap (typeOf (.ref a)) o.cls from (Looks.ld ho).andThen .now) (hq _)
      · cases r with
        | none => exact wpAny_pure (h _ (.inr (.inl rfl)))
        | some t => exact wpAny_pure (h _ (.inr (.inr rfl)))
theorem paired_at {α β : Type} {R : α → β → Prop} (d : α) (e : β) : ∀ {xs : List α} {ys : List β}, Paired R xs ys → ∀ i, i < xs.length → R (xs.getD i d) (ys.getD i e)
  | _, _, .nil, i, h => absurd h (Nat.not_lt_zero _)
  | _, _, .cons r _, 0, _ => r
  | _, _, .cons _ t, i + 1, h => paired_at d e t i (by simpa using h)
theorem map_range_getD (vs : List Value) : (List.range vs.length).map (fun i => vs.getD i Value.none) = vs := by
  apply List.ext_getElem
  · simp
  · intro i h1 h2
    simp [h2]
theorem IsRow.keep {h h' : Heap} {v : Value} {ns : List Int} (x : IsRow h v ns) (k : ∀ b o, o.cls = .type "tuple" → h.get? b = some o → h'.get? b = some o) : IsRow h' v ns := by
  obtain ⟨a, its, rfl, ⟨o, ho, hc, n, hd⟩, ia⟩ := x
  exact ⟨a, its, rfl, ⟨o, k a o hc ho, hc, n, hd⟩, ia⟩
theorem row_sort {a : Addr} {vs : List Value} {rows : List (List Int)} {n : Nat} {P : PySem.Fin → Shared → Prop} (ho : s.heap.get? a = some (seqObj "list" vs.toArray n)) (hp : Paired (IsRow s.heap) vs rows) (h64 : vs.length < 64) (hu : A.units < cLine)
    (h : ∀ p : Array Nat, Prm vs.length p → Srt (O := lexO) (fun i => rows.getD i []) p vs.length → P (.done (.ret .none)) { s with heap := sortedHeap s.heap a vs (List.toArray (p.toList.map fun i => vs.getD i Value.none)) }) :
    wpAny (model prog w) A (Builtin.«list.sort» ⟨[.ref a], []⟩) P E s := by
  rw [list_sort_plain]
  have ha : a < s.heap.objs.size := Heap.lt_size ho
  refine wpAny_bind (listItems_at ho rfl ?_)
  refine wpAny_bind (listUpdate_at ho rfl ?_)
  obtain ⟨e1, ho1⟩ : ∃ e1, (s.heap.update a (Obj.mapSeq fun _ => #[])).get? a = some (seqObj "list" #[] e1) := ⟨_, get?_update_seq ho (fun _ => #[])⟩
  refine wpAny_bind (seqEpoch_at ho1 rfl ?_)
  refine wpAny_bind (wpAny_newTuple ?_)
  refine wpAny_bind (wpAny_newList ?_)
  refine wpAny_holding ?_
  have ho6 : (((s.heap.update a (Obj.mapSeq fun _ => #[])).push (seqObj "tuple" vs.toArray 0)).push (seqObj "list" #[] 0)).get? a = some (seqObj "list" #[] e1) := by
    rw [Heap.get?_push_ne _ _ _ (by rw [size_push', Heap.size_update]; exact Nat.ne_of_lt (Nat.lt_succ_of_lt ha)), Heap.get?_push_ne _ _ _ (by rw [Heap.size_update]; exact Nat.ne_of_lt ha)]
    exact ho1
  have hp6 : Paired (IsRow (((s.heap.update a (Obj.mapSeq fun _ => #[])).push (seqObj "tuple" vs.toArray 0)).push (seqObj "list" #[] 0))) vs rows := Paired.mapP hp fun v ns x => x.keep fun b o hc e => by
    have hb : b ≠ a := fun z => by
      rw [z, ho] at e
      cases e
      exact absurd (show Value.type "list" = Value.type "tuple" from hc) (by decide)
    exact Heap.get?_push_of_some _ (Heap.get?_push_of_some _ ((Heap.get?_update_other _ _ (Ne.symm hb)).trans e))
  show wpAny (model prog w) A _ P E { s with heap := ((s.heap.update a (Obj.mapSeq fun _ => #[])).push (seqObj "tuple" vs.toArray 0)).push (seqObj "list" #[] 0) }
  dsimp only
  have hsz : vs.toArray.size = vs.length := by simp
  by_cases h2 : vs.toArray.size < 2
  · rw [if_pos h2, if_pos h2]
    refine wpAny_bind (wpAny_pure ?_)
    rw [StateT.run_pure]
    refine wpAny_bind (wpAny_pure ?_)
    dsimp only
    refine wpAny_bind (seqEpoch_at ho6 rfl ?_)
    refine wpAny_bind (listUpdate_at ho6 rfl ?_ (hsz2 := by rw [Array.size_map]; show (pairsOf vs).size ≤ _; rw [pairsOf_size, sizeLine_eq]; omega))
    simp only [bne_self_eq_false, Bool.false_eq_true, if_false]
    have hh := h (List.range vs.length).toArray (List.Perm.refl _) (fun i j hij hj => by
      have : i = j := by omega
      subst this
      exact KeyOrd.kle_refl _)
    rw [show (List.range vs.length).toArray.toList.map (fun i => vs.getD i Value.none) = vs from map_range_getD vs] at hh
    have e : (arrOf (SortSt.mk' general' (vs.toArray.zip vs.toArray) #[] 7 none)).map (·.2) = vs.toArray := by
      show (vs.toArray.zip vs.toArray).map (·.2) = vs.toArray
      apply Array.ext
      · simp
      · intro i h1 h2
        simp
    refine wpAny_pure ?_
    have hh' := hh
    rw [← e] at hh'
    exact hh'
  · rw [if_neg h2, if_neg h2]
    refine wpAny_bind (row_kind hp6 fun κ hκ => ?_)
    have ac : Asks lexO (fun i => rows.getD i []) vs.length (kas_ask prog w A κ vs) (fun s' => s' = { s with heap := ((s.heap.update a (Obj.mapSeq fun _ => #[])).push (seqObj "tuple" vs.toArray 0)).push (seqObj "list" #[] 0) }) := by
      intro i j C s' hi hj e k
      subst e
      exact row_lt hκ (paired_at Value.none [] hp6 i hi) (paired_at Value.none [] hp6 j hj) hu (k _ rfl)
    refine wpAny_bind (wpAny_mono (kat_run (ks := vs) (vs := vs) (Q := fun st' s' => ∃ p : Array Nat, arrOf st' = p.map (kas_item (vs.toArray.zip vs.toArray)) ∧ failedOf st' = none ∧ s' = { s with heap := ((s.heap.update a (Obj.mapSeq fun _ => #[])).push (seqObj "tuple" vs.toArray 0)).push (seqObj "list" #[] 0) } ∧ Prm vs.length p ∧ Srt (O := lexO) (fun i => rows.getD i []) p vs.length)
      (G := fun p s' => s' = { s with heap := ((s.heap.update a (Obj.mapSeq fun _ => #[])).push (seqObj "tuple" vs.toArray 0)).push (seqObj "list" #[] 0) } ∧ Prm vs.length p ∧ Srt (O := lexO) (fun i => rows.getD i []) p vs.length)
      rfl (by omega) h64 (fun p st' s' _ a2 a3 g => ⟨p, a2, a3, g⟩) (sort_ok ac (by omega) rfl fun p s' q1 q2 e => ⟨e, q1, q2⟩)) ?_ fun _ _ e => e)
    rintro ⟨⟨⟩, st'⟩ s' ⟨p, har, hf, rfl, q1, q2⟩
    dsimp only
    have hout := kat_snds rfl har
    refine wpAny_bind (seqEpoch_at ho6 rfl ?_)
    rw [hout]
    refine wpAny_bind (listUpdate_at ho6 rfl ?_ (hsz2 := by rw [List.size_toArray, List.length_map, Array.length_toList, q1.size, sizeLine_eq]; omega))
    rw [hf]
    simp only [bne_self_eq_false, Bool.false_eq_true, if_false]
    exact wpAny_pure (h p q1 q2)
end
section
variable {X : Cx}
theorem vals_refs : ∀ as : List Addr, Vals (as.map V.ref) (as.map Value.ref)
  | [] => .nil
  | a :: as => .cons rfl (vals_refs as)
end
end L2
namespace L2
open PySem PySem.W PySem.Spec PyProof.Rows
def RawAt (h : Heap) (d : Addr) (es : Array DictEntry) (ep : Nat) : Prop := ∃ o, h.get? d = some o ∧ o.ExactDict ∧ o.data = .dict es ep
theorem RawAt.at {h h' : Heap} {d : Addr} {es : Array DictEntry} {ep : Nat} (x : RawAt h d es ep) (e : ∀ o, h.get? d = some o → h'.get? d = some o) : RawAt h' d es ep := let ⟨o, ho, r⟩ := x; ⟨o, e _ ho, r⟩
theorem RawAt.lt {h : Heap} {d : Addr} {es : Array DictEntry} {ep : Nat} (x : RawAt h d es ep) : d < h.objs.size := let ⟨_, ho, _⟩ := x; Heap.lt_size ho
theorem RawAt.typeIs {s : Shared} {d : Addr} {es : Array DictEntry} {ep : Nat} (x : RawAt s.heap d es ep) : s.TypeIs (.ref d) "dict" := let ⟨o, ho, hc, _⟩ := x; ⟨o, ho, hc.1⟩
section
variable {prog : Program} {w : World} {A : Around} {E : Value → Shared → Prop} {s : Shared} {d : Addr} {es : Array DictEntry} {ep : Nat}
theorem raw_iter {Q : Value → Shared → Prop} (hd : (d == sysModules) = false) (hm : RawAt s.heap d es ep)
    (hQ : Q (.ref s.heap.objs.size) { s with heap := s.heap.push { cls := .type "dict_keyiterator", data := .fields #[.ref d, .int 0 0, .int es.size 0, .int ep 0] } }) : wpAny (model prog w) A (pyIter (.ref d)) Q E s := by
  have hT := hm.typeIs
  obtain ⟨o, ho, hc, hdat⟩ := id hm
  refine wpAny_pyIter_slot hT F.slot_dict_iter (wpAny_call_entry F.slot_dict_iter hT F.entry_dict_iter ?_ (F.args_dict_iter_1 _))
  unfold Builtin.«dict.__iter__»
  refine wpAny_bind ?_
  unfold Builtin.Dict.dictSlotNone
  refine wpAny_bind (wpAny_notOrdered_dict hT ?_)
  show wpAny _ _ (pure (Value.ref d)) _ _ s
  refine wpAny_pure ?_
  show wpAny _ _ (Builtin.Dict.showsAll d >>= _) _ _ s
  unfold Builtin.Dict.showsAll
  rw [if_neg (by rw [hd]; exact Bool.false_ne_true)]
  refine wpAny_bind (wpAny_pure ?_)
  refine wpAny_bind (wpAny_dictEntries ho hdat ?_)
  refine wpAny_bind (wpAny_dictEpoch ho hdat ?_)
  refine wpAny_bind (wpAny_newObj_type (wpAny_pure ⟨_, rfl, "dict_keyiterator", _, ⟨_, Heap.get?_push_size _ rfl, rfl⟩, F.slot_dict_keyiterator_next.lookup, ?_⟩))
  simpa [rawInt] using hQ
theorem raw_next {it : Addr} {i : Nat} {e : DictEntry} {Q : Option Value → Shared → Prop} (hit : s.heap.IsKeyIter it d i es.size ep) (hm : RawAt s.heap d es ep) (hx : es[i]? = some e)
    (hQ : ∀ h', h'.IsKeyIter it d (i + 1) es.size ep → Heap.SameBut it s.heap h' → Q (some e.key) { s with heap := h' }) : wpAny (model prog w) A (pyNext (.ref it)) Q E s := by
  obtain ⟨o, ho, hc, hd⟩ := id hit
  obtain ⟨od, hod, hcd, hdd⟩ := id hm
  unfold pyNext
  refine wpAny_bind (wpAny_attempt (wpAny_callSpecial?_slot (name := Str.ofString "__next__") hit.typeIs F.slot_dict_keyiterator_next
    (wpAny_call_entry F.slot_dict_keyiterator_next hit.typeIs F.entry_dict_keyiterator_next ?_ (F.args_dict_keyiterator_next_1 _))))
  refine wpAny_bind (wpAny_pure ?_)
  refine wpAny_bind ?_
  refine wpAny_bind ?_
  first | refine wpAny_bind (wpAny_typeNameOfWhole_keyiter hit.typeIs (wpAny_pure ?_)) | refine wpAny_bind (wpAny_typeNameOf_keyiter hit.typeIs (wpAny_pure ?_))
  refine wpAny_bind (wpAny_fieldsOf ho hd ?_)
  have hown : Builtin.Dict_items.ownsTuple "dict_keyiterator" = false := by decide
  simp only [hown, Bool.false_eq_true, if_false]
  show wpAny _ _ (if (Value.ref d == Value.none) = true then _ else _) _ _ s
  rw [if_neg (show ¬ ((Value.ref d == Value.none) = true) from Bool.false_ne_true)]
  refine wpAny_bind (wpAny_pure ?_)
  refine wpAny_bind (wpAny_dictEntries hod hdd ?_)
  rw [if_neg (by simp)]
  refine wpAny_bind (wpAny_pure ?_)
  refine wpAny_bind (wpAny_dictEpoch hod hdd ?_)
  rw [if_neg (by simp)]
  refine wpAny_pure ?_
  simp only [show ¬ ((i : Int) < 0) from by omega, if_false, Int.toNat_natCast, hx]
  refine wpAny_bind ?_
  first | refine wpAny_bind (wpAny_typeNameOfWhole_keyiter hit.typeIs (wpAny_pure ?_)) | refine wpAny_bind (wpAny_typeNameOf_keyiter hit.typeIs (wpAny_pure ?_))
  refine wpAny_bind (wpAny_isOneOf_keyiter hit.typeIs ?_)
  show wpAny _ _ (setField (.ref it) 1 (rawInt ((i : Int) + 1)) >>= _) _ _ s
  refine wpAny_bind (wpAny_setField ho hd (by simp) ?_)
  have hit' : (s.heap.update it (Obj.mapFields (·.setIfInBounds 1 (rawInt ((i : Int) + 1))))).IsKeyIter it d (i + 1) es.size ep :=
    ⟨_, Heap.get?_update_self _ ho (Obj.isFreed_of_fields (Obj.data_mapFields hd _)), (Obj.cls_mapFields ..).trans hc, by rw [Obj.data_mapFields hd]; simp [rawInt]⟩
  refine wpAny_bind (wpAny_holding ?_)
  refine wpAny_bind (wpAny_isOneOf_keyiter (s := { s with heap := s.heap.update it (Obj.mapFields (·.setIfInBounds 1 (rawInt ((i : Int) + 1)))) }) hit'.typeIs ?_)
  show wpAny _ _ (pure e.key) _ _ _
  exact wpAny_pure (wpAny_pure ⟨_, rfl, wpAny_pure (hQ _ hit' (Heap.SameBut.update ..))⟩)
theorem raw_end {it : Addr} {i : Nat} {Q : Option Value → Shared → Prop} (hh : A.handled = none) (hit : s.heap.IsKeyIter it d i es.size ep) (hm : RawAt s.heap d es ep) (hx : es.size ≤ i)
    (hQ : ∀ h', Heap.ExtBut it s.heap h' → Q none { s with heap := h' }) : wpAny (model prog w) A (pyNext (.ref it)) Q E s := by
  obtain ⟨o, ho, hc, hd⟩ := id hit
  obtain ⟨od, hod, hcd, hdd⟩ := id hm
  unfold pyNext
  refine wpAny_bind (wpAny_attempt (wpAny_callSpecial?_slot (name := Str.ofString "__next__") hit.typeIs F.slot_dict_keyiterator_next
    (wpAny_call_entry F.slot_dict_keyiterator_next hit.typeIs F.entry_dict_keyiterator_next ?_ (F.args_dict_keyiterator_next_1 _))))
  refine wpAny_bind (wpAny_pure ?_)
  refine wpAny_bind ?_
  refine wpAny_bind ?_
  first | refine wpAny_bind (wpAny_typeNameOfWhole_keyiter hit.typeIs (wpAny_pure ?_)) | refine wpAny_bind (wpAny_typeNameOf_keyiter hit.typeIs (wpAny_pure ?_))
  refine wpAny_bind (wpAny_fieldsOf ho hd ?_)
  have hown : Builtin.Dict_items.ownsTuple "dict_keyiterator" = false := by decide
  simp only [hown, Bool.false_eq_true, if_false]
  show wpAny _ _ (if (Value.ref d == Value.none) = true then _ else _) _ _ s
  rw [if_neg (show ¬ ((Value.ref d == Value.none) = true) from Bool.false_ne_true)]
  refine wpAny_bind (wpAny_pure ?_)
  refine wpAny_bind (wpAny_dictEntries hod hdd ?_)
  rw [if_neg (by simp)]
  refine wpAny_bind (wpAny_pure ?_)
  refine wpAny_bind (wpAny_dictEpoch hod hdd ?_)
  rw [if_neg (by simp)]
  refine wpAny_pure ?_
  simp only [show ¬ ((i : Int) < 0) from by omega, if_false, Int.toNat_natCast, Array.getElem?_eq_none hx]
  refine wpAny_bind ?_
  first | refine wpAny_bind (wpAny_typeNameOfWhole_keyiter hit.typeIs (wpAny_pure ?_)) | refine wpAny_bind (wpAny_typeNameOf_keyiter hit.typeIs (wpAny_pure ?_))
  show wpAny _ _ (setField (.ref it) 0 .none >>= _) _ _ s
  refine wpAny_bind (wpAny_setField ho hd (by simp) ?_)
  show wpAny _ _ (newExc (.type "StopIteration") [] >>= _) _ _ _
  refine wpAny_bind ?_
  simp only [newExc, newTuple]
  refine wpAny_bind (wpAny_newObj_type ?_ (by size_fits))
  refine wpAny_bind (m := firstArgMember _ _) (wpAny_of_eq (a := Value.none) (by first | rfl | (simp only [firstArgMember]; rfl)) ?_)
  refine wpAny_newObj_type ?_ (by size_fits)
  simp only [raiseNew]
  refine wpAny_bind (wpAny_handled ?_)
  rw [show A.in1.handled = none from hh]
  refine wpAny_bind (wpAny_pure (wpAny_throw ?_))
  refine wpAny_bind (wpAny_isInstance (T := "StopIteration") (b := true) ⟨_, Heap.get?_push_size _ rfl, rfl⟩ isSubtype_stop ?_)
  exact wpAny_pure (hQ _ (((Heap.SameBut.update ..).extBut.push _).push _))
theorem raw_walks (hh : A.handled = none) (I : Addr) (hne : d ≠ I) : Walks prog w A I [I, d] [I] es.size (fun i v => ∃ e, es[i]? = some e ∧ v = e.key) (fun i h => h.IsKeyIter I d i es.size ep ∧ RawAt h d es ep) where
  sub := fun b hb => by simp at hb; simp [hb]
  frame := fun _ _ _ st hk => ⟨st.1.at fun o e => hk I (by simp) o e, st.2.at fun o e => hk d (by simp) o e⟩
  item := fun i s Q E hi st hQ => by
    obtain ⟨e, hx⟩ : ∃ e, es[i]? = some e := ⟨es[i], by simp [hi]⟩
    refine raw_next st.1 st.2 hx fun h' hit' hs' => ?_
    exact hQ e.key h' s.toks ⟨e, hx, rfl⟩ ⟨hit', st.2.at fun o q => hs'.extBut d o hne q⟩ fun b o hb q => hs'.extBut b o (fun h => hb (by simp [h])) q
  done := fun s Q E st hQ => raw_end hh st.1 st.2 (Nat.le_refl _) fun h' he' => hQ h' s.toks fun b o hb q => he' b o (fun h => hb (by simp [h])) q
  self := fun _ _ _ _ st hQ => wpAny_pyIter_keyiter st.1 hQ
theorem raw_src (lo : (d == sysModules) = false) : KdlSrc prog w "dict" d d es.size (fun i v => ∃ e, es[i]? = some e ∧ v = e.key) (fun h => RawAt h d es ep) where
  type := fun _ hm => hm.typeIs
  there := fun _ hm => ⟨hm.lt, hm.lt⟩
  keep := fun _ _ hm hk => hm.at fun o e => hk d (.inl rfl) o e
  notList := by decide
  notTuple := by decide
  hint := fun _ _ _ _ hm hq => kdl_hint_dict hm.typeIs hq
  iter := fun _ s hh hm => ⟨_, _, (fun _ _ hq => raw_iter lo hm hq), raw_walks hh _ (Nat.ne_of_lt hm.lt), ⟨⟨_, Heap.get?_push_size _ rfl, rfl, rfl⟩, hm.at fun o e => Heap.get?_push_of_some _ e⟩⟩
theorem raw_keys {acc : Array Value} (h : ItemsOf (fun i v => ∃ e, es[i]? = some e ∧ v = e.key) acc es.size) : acc = es.map (·.key) := by
  obtain ⟨h1, h2⟩ := h
  apply Array.ext
  · simpa using h1
  · intro i hi hj
    obtain ⟨e, he, hk⟩ := h2 i acc[i] (by simp [hi])
    have hi' : i < es.size := by omega
    rw [Array.getElem?_eq_getElem hi'] at he
    rw [hk, Array.getElem_map, Option.some.inj he]
theorem raw_collect {R : List Value → Shared → Prop} (lo : (d == sysModules) = false) (hm : RawAt s.heap d es ep) (hh : A.handled = none) (hn : es.size ≤ sizeLine)
    (h : ∀ (h' : Heap) (tk : Nat), (∀ b o, s.heap.get? b = some o → h'.get? b = some o) → s.heap.objs.size < h'.objs.size → R (es.toList.map (·.key)) { s with heap := h', toks := tk }) :
    wpAny (model prog w) A (collect (.ref d)) R E s := by
  have hlt := hm.lt
  unfold collect
  refine wpAny_bind (wpAny_runValue (codeAny_builtin entry_proto_collect' ?_))
  rw [Around.under_plainId PySem.F.plain_proto_collect _]
  show wpAny _ A.in1 (newList [] >>= fun l => again (.builtin "list.__iadd__" ⟨[l, .ref d], []⟩)) _ _ s
  refine wpAny_bind (wpAny_newObj_type ?_)
  refine wpAny_pure ⟨plainId_quiet PySem.F.plain_list_iadd _, codeAny_builtin entry_list_iadd' ?_⟩
  rw [Around.under_plainId PySem.F.plain_list_iadd _]
  have hS₁ : (s.heap.push { cls := .type "list", data := .seq ([] : List Value).toArray }).get? s.heap.objs.size = some { cls := .type "list", data := .seq #[] } := Heap.get?_push_size _ rfl
  show wpAny _ A.in1 (Builtin.List.listExtendWith (.ref s.heap.objs.size) (.ref d) (.ref s.heap.objs.size)) _ _ _
  have key := kdl_extend (A := A) (s := { s with heap := s.heap.push { cls := .type "list", data := .seq ([] : List Value).toArray } })
    (R := fun (q : Result) (s' : Shared) => ∃ (h' : Heap) (tk c' : Nat), q = .ok (.ret (.ref s.heap.objs.size)) ∧ s' = { s with heap := h', toks := tk } ∧
      (∀ b o, s.heap.get? b = some o → h'.get? b = some o) ∧ h'.get? s.heap.objs.size = some { cls := .type "list", dict := none, data := .seq (es.map (·.key)) c', slots := #[] })
    (raw_src (prog := prog) (w := w) (es := es) (ep := ep) lo) hh (hm.at fun o e => Heap.get?_push_of_some _ e) s.heap.objs.size (Nat.ne_of_gt hlt) (Nat.ne_of_gt hlt) (.ref s.heap.objs.size) 0 hS₁
    (fun h' tk acc' c' hk hS' hacc => ⟨h', tk, c', rfl, rfl, fun b o e => hk b o (Nat.ne_of_lt (Heap.lt_size e)) (Heap.get?_push_of_some _ e), by rw [← raw_keys hacc]; exact hS'⟩) hn
  refine wpAny_mono key (fun fin s' x => ?_) fun e s' x => ?_
  · cases fin with
    | done f =>
      obtain ⟨h', tk, c', e, rfl, hk, hS'⟩ := x
      cases e
      show wpAny _ A (load s.heap.objs.size >>= _) _ _ _
      refine wpAny_bind (wpAny_load hS' ?_)
      have := h h' tk hk (Heap.lt_size hS')
      rw [← Array.toList_map] at this
      exact wpAny_pure this
    | again c₁ =>
      refine ⟨x.1, codeAny_mono x.2 fun q s₂ y => ?_⟩
      obtain ⟨h', tk, c', rfl, rfl, hk, hS'⟩ := y
      show wpAny _ A (load s.heap.objs.size >>= _) _ _ _
      refine wpAny_bind (wpAny_load hS' ?_)
      have := h h' tk hk (Heap.lt_size hS')
      rw [← Array.toList_map] at this
      exact wpAny_pure this
  · obtain ⟨_, _, _, e', _⟩ := x
    cases e'
theorem sorted_keys {vs : List Value} (lo : (d == sysModules) = false) (hm : RawAt s.heap d es ep) (hz : es.size < 64) (hh : A.handled = none) (hv : es.toList.map (·.key) = vs) {R : Value → Shared → Prop}
    (h : ∀ (h' : Heap) (tk : Nat) (a : Addr), (∀ b o, s.heap.get? b = some o → h'.get? b = some o ∧ b ≠ a) → s.heap.objs.size ≤ a → h'.get? a = some (seqObj "list" vs.toArray 0) →
      wpAny (model prog w) A.in1.in1 (Builtin.«list.sort» ⟨[.ref a], []⟩) (fun fin s' => ∃ v, fin = .done (.ret v) ∧ R (.ref a) s') E { s with heap := h', toks := tk }) :
    wpAny (model prog w) A (call (.builtin "sorted") [.ref d]) R E s := by
  refine Calls.call_function_entry kind_sorted plain_sorted entry_sorted (args_sorted1 _) ?_
  unfold Builtin.«sorted»
  refine wpAny_bind (m := checkCount "sorted" 1 1 _) (wpAny_pure ?_)
  refine wpAny_bind (raw_collect (A := A.in1) lo hm hh (by rw [sizeLine_eq]; omega) fun h' tk hk ge => ?_)
  rw [hv]
  have hl : vs.length < 64 := by rw [← hv, List.length_map, Array.length_toList]; exact hz
  refine wpAny_bind (wpAny_newList ?_ (by rw [sizeLine_eq]; omega))
  have ho : (h'.push (seqObj "list" vs.toArray 0)).get? h'.objs.size = some (seqObj "list" vs.toArray 0) := Heap.get?_push_size _ rfl
  refine wpAny_bind (wpAny_holding (wpAny_call_entry slot_list_sort ⟨_, ho, rfl⟩ entry_list_sort ?_ (args_list_sort _)))
  refine wpAny_mono (h _ tk h'.objs.size (fun b o e => ⟨Heap.get?_push_of_some _ (hk b o e), Nat.ne_of_lt (Heap.lt_size (hk b o e))⟩) (Nat.le_of_lt ge) ho) (fun fin s' x => ?_) fun _ _ x => x
  obtain ⟨v, rfl, q⟩ := x
  exact ⟨_, rfl, wpAny_pure ⟨_, rfl, q⟩⟩
end
section
variable {X : Cx}
theorem kt_rows {H : Hp} : ∀ {kvs : List (List Key × V)} {xs : List (List Key × Addr × Value)} {ks : List (List Int)}, KT H kvs xs → kvs.map (·.1) = ks.map (List.map Sum.inl) →
    ∃ qs : List (Addr × List Int), xs.map (fun x => Value.ref x.2.1) = (qs.map (·.1)).map Value.ref ∧ qs.map (·.2) = ks ∧ ∀ q ∈ qs, H q.1 = some (.tup (q.2.map V.int)) := by
  intro kvs xs ks r
  induction r generalizing ks with
  | nil =>
    intro e
    cases ks with
    | nil => exact ⟨[], rfl, rfl, fun _ m => nomatch m⟩
    | cons _ _ => cases e
  | @cons p q ps qr hq t ih =>
    intro e
    cases ks with
    | nil => cases e
    | cons k ks =>
      injection e with e1 e2
      obtain ⟨qs, a1, a2, a3⟩ := ih e2
      refine ⟨(q.2.1, k) :: qs, ?_, ?_, fun x m => ?_⟩
      · rw [List.map_cons, a1]
        rfl
      · rw [List.map_cons, a2]
      · rcases List.mem_cons.mp m with m | m
        · subst m
          have h := hq.2.1
          have e1' : p.1 = k.map Sum.inl := e1
          rw [e1', List.map_map] at h
          exact h
        · exact a3 x m
theorem call_sortedDT (hc : X.calm = true) (hu : X.A.units + 64 < cLine) : CallR X (.builtin "sorted") (fun xs H Q => ∃ (d : Addr) (kvs : List (List Key × V)) (ks : List (List Int)), xs = [.ref d] ∧ Rd H d (.dT kvs) ∧ kvs.map (·.1) = ks.map (List.map Sum.inl) ∧ ks.length < 64 ∧
    ∀ (l : Addr) (rs : List (Addr × List Int)), (∀ q ∈ rs, H q.1 = some (.tup (q.2.map V.int))) → (rs.map (·.2)).Perm ks → rs.Pairwise (fun x y => HT.lexLt y.2 x.2 = false) → H l = none → Q (.ref l) (upd H l (.lst (rs.map fun q => V.ref q.1)))) := by
  intro pins s σ H xs us Q I r h
  obtain ⟨d, kvs, ks, rfl, hd, hks, h64, q⟩ := h
  obtain ⟨u, rfl, rx⟩ := vals1 r
  cases rx
  obtain ⟨_, lo, xs, kt, o, es, ep, h1, h2, h3, h4, _, _⟩ := dt_rd I.hok hd
  obtain ⟨qs, b1, b2, b3⟩ := kt_rows kt hks
  have hv : es.toList.map (·.key) = (qs.map (·.1)).map Value.ref := by
    rw [h4, List.map_map, ← b1]
    rfl
  have hql : qs.length = ks.length := by rw [← b2, List.length_map]
  have hes : es.size = qs.length := by
    have := congrArg List.length hv
    simpa using this
  have hp : Paired (IsRow s.heap) ((qs.map (·.1)).map Value.ref) (qs.map (·.2)) := by
    clear hv hql hes b1 b2
    induction qs with
    | nil => exact .nil
    | cons q0 qr ih =>
      refine .cons ?_ (ih fun q m => b3 q (List.mem_cons_of_mem _ m))
      obtain ⟨jts, rj, tj, _⟩ := I.tuple (SqT.of (b3 q0 (List.mem_cons_self ..)))
      exact ⟨q0.1, jts.toArray, rfl, tj, by simpa using intsAre_of rj⟩
  refine sorted_keys lo ⟨o, h1, h2, h3⟩ (by omega) (I.ok.hd hc) hv fun h' tk a kp ge ho => ?_
  have hp' : Paired (IsRow h') ((qs.map (·.1)).map Value.ref) (qs.map (·.2)) := Paired.mapP hp fun v ns x => x.keep fun b o _ e => (kp b o e).1
  have ll : ((qs.map (·.1)).map Value.ref).length = qs.length := by rw [List.length_map, List.length_map]
  refine row_sort (s := { s with heap := h', toks := tk }) ho hp' (by omega) (by show X.A.units + 1 + 1 < cLine; omega) fun p a1 a2 => ⟨_, rfl, ?_⟩
  obtain ⟨e, he⟩ := sortedHeap_at (out := List.toArray (p.toList.map fun i => ((qs.map (·.1)).map Value.ref).getD i Value.none)) ho
  have hfr : H a = none := I.hok.fresh ge
  have hps := a1.size
  have lt : ∀ i ∈ p.toList, i < qs.length := fun i m => by
    have := List.mem_range.mp (a1.mem_iff.mp m)
    omega
  let rs := p.toList.map fun i => qs.getD i (0, [])
  have eo : (p.toList.map fun i => ((qs.map (·.1)).map Value.ref).getD i Value.none) = (rs.map (·.1)).map Value.ref := by
    show _ = ((p.toList.map fun i => qs.getD i (0, [])).map (·.1)).map Value.ref
    simp only [List.map_map]
    refine List.map_congr_left fun i m => ?_
    have hi := lt i m
    simp [hi]
  rw [eo] at he ⊢
  have pm : rs.Perm qs := by
    have e1 : (List.range ((qs.map (·.1)).map Value.ref).length).map (fun i => qs.getD i ((0 : Addr), ([] : List Int))) = qs := by
      rw [ll]
      apply List.ext_getElem
      · simp
      · intro i h1 h2
        simp [h2]
    have := List.Perm.map (fun i => qs.getD i ((0 : Addr), ([] : List Int))) a1
    rw [e1] at this
    exact this
  refine ⟨.ref _, _, I.laid (t' := tk) (fun b o hb => ?_) ge (show ObjOk X.prog X.w _ _ _ (.lst (rs.map fun q => V.ref q.1)) from ⟨?_, (rs.map (·.1)).map Value.ref, e, ?_, he⟩), rfl, q _ rs (fun q m => b3 q (pm.mem_iff.mp m)) (by rw [← b2]; exact pm.map _) ?_ hfr⟩
  · obtain ⟨k1, k2⟩ := kp b o hb
    rw [sortedHeap_old k2 (Heap.lt_size k1)]
    exact k1
  · rw [List.length_map, pm.length_eq, sizeLine_eq]
    omega
  · have := vals_refs (rs.map (·.1))
    rw [List.map_map] at this
    exact this
  · rw [List.pairwise_iff_getElem]
    intro i j hi hj hij
    have hi' : i < p.size := by simpa [rs] using hi
    have hj' : j < p.size := by simpa [rs] using hj
    have g := a2 i j (by omega) (by omega)
    have gi : (qs.map (·.2)).getD (p.getD i 0) [] = (rs[i]).2 := by
      have l1 := lt p[i] (by simp)
      simp [rs, Array.getD, hi', l1]
    have gj : (qs.map (·.2)).getD (p.getD j 0) [] = (rs[j]).2 := by
      have l1 := lt p[j] (by simp)
      simp [rs, Array.getD, hj', l1]
    have g2 : HT.lexLt ((qs.map (·.2)).getD (p.getD j 0) []) ((qs.map (·.2)).getD (p.getD i 0) []) = false := g
    rw [gi, gj] at g2
    exact g2
theorem int_keys {P : Program} {w : World} {kvs : List (Key × V)} {vs : List (Key × Value)} (r : KV kvs vs) : ∀ {es : List DictEntry} {ns : List Int}, Pairs (mixKind P w) es vs → kvs.map (·.1) = ns.map Sum.inl → IntsAre (es.map (·.key)) ns := by
  intro es ns hp e
  rw [r.keys] at e
  clear r
  induction hp generalizing ns with
  | nil =>
    cases ns with
    | nil => exact .nil
    | cons _ _ => cases e
  | @cons ent kv es' vs' h _ t ih =>
    cases ns with
    | nil => cases e
    | cons n ns =>
      injection e with e1 e2
      have e1' : kv.1 = Sum.inl n := e1
      have hk := h
      rw [e1'] at hk
      rcases keyIs_shape (show keyIs (Sum.inl n) ent.key = true from hk) with ⟨i, t', a, b⟩ | ⟨x, t', a, _⟩
      · cases a
        rw [List.map_cons, b]
        exact .cons n t' (ih e2)
      · cases a
theorem call_sortedDI (hc : X.calm = true) : CallR X (.builtin "sorted") (fun xs H Q => ∃ (d : Addr) (kvs : List (Key × V)) (ns : List Int), xs = [.ref d] ∧ Rd H d (.dK kvs) ∧ kvs.map (·.1) = ns.map Sum.inl ∧ ns.length < 64 ∧
    ∀ (l : Addr) (ms : List Int), ms.Perm ns → ms.Pairwise (· ≤ ·) → H l = none → Q (.ref l) (upd H l (.lst (ms.map V.int)))) := by
  intro pins s σ H xs us Q I r h
  obtain ⟨d, kvs, ns, rfl, hd, hks, h64, q⟩ := h
  obtain ⟨u, rfl, rx⟩ := vals1 r
  cases rx
  obtain ⟨_, lo, vs, kv, o, es, ep, h1, h2, h3, h4, h5, _⟩ := dk_rd I.hok hd
  have hi := int_keys kv h5 hks
  have hl := hi.length
  have hes : es.size = ns.length := by simpa using hl
  refine sorted_keys lo ⟨o, h1, h2, h3⟩ (by omega) (I.ok.hd hc) rfl fun h' tk a kp ge ho => ?_
  refine list_sort_tree (s := { s with heap := h', toks := tk }) ho hi (by rw [hl]; exact h64) fun out ms i1 i2 i3 => ⟨_, rfl, ?_⟩
  obtain ⟨e, he⟩ := sortedHeap_at (out := out) ho
  have hfr : H a = none := I.hok.fresh ge
  refine ⟨.ref _, _, I.laid (t' := tk) (fun b o hb => ?_) ge (show ObjOk X.prog X.w _ _ _ (.lst (ms.map V.int)) from ⟨?_, out.toList, e, vals_ints i1, he⟩), rfl, q _ ms i2 i3 hfr⟩
  · obtain ⟨k1, k2⟩ := kp b o hb
    rw [sortedHeap_old k2 (Heap.lt_size k1)]
    exact k1
  · rw [List.length_map, i2.length_eq, sizeLine_eq]
    omega
end
end L2
namespace L2
open PySem
end L2
namespace L2
open PySem PySem.W PySem.Spec PyProof.Rows
section
variable {prog : Program} {w : World} {A : Around} {E : Value → Shared → Prop} {s : Shared}
end
section
variable {prog : Program} {w : World} {A : Around} {R : Result → Shared → Prop} {I : Addr} {fp wr : List Addr} {G : Array GenState → Array GenState → Prop} {n : Nat} {P : Nat → Value → Prop} {St : Nat → Shared → Prop}
end
section
variable {prog : Program} {w : World} {A : Around} {E : Value → Shared → Prop} {s : Shared}
set_option maxRecDepth 100000 in
set_option maxHeartbeats 3200000 in
end
end L2
namespace L2
open PySem PySem.W PySem.Spec PyProof.Rows
section
variable {prog : Program} {w : World} {A : Around} {E : Value → Shared → Prop} {s : Shared}
end
section
variable {prog : Program} {w : World} {A : Around} {E : Value → Shared → Prop} {s : Shared} {a : Addr} {es : Array (Int × Value)} {ep : Nat} {t : SetTable}
end
end L2
namespace L2
open PySem PySem.W PySem.Spec PyProof.Rows
section
variable {X : Cx} {e : Expr} {te : TE} {p p2 pos pos2 : Pos}
end
end L2
namespace L2
open PySem PySem.Spec PyProof.Rows
section
variable {X : Cx} {pins : List (Addr × Obj)} {σ : St} {H : Hp} {s : Shared} {h' : Heap}
end
section
variable {X : Cx}
end
section
variable {X : Cx}
end
end L2
namespace L2
open PySem PySem.Spec PyProof.Rows
def tCompT (n : Nat) (wi : TI) (g : TG) (tt : TT) (te : TE) : TE := fun σ H Q => wi σ H fun J H1 => ∀ D, H1 D = none → ∃ W : Nat → Nat → List V → Hp → Prop, (∃ m, W 0 m [] (upd H1 D (.lst []))) ∧ ∀ i m ys H2, W i m ys H2 →
  H2 D = some (.lst ys) ∧ ((J.stop i H2 ∧ Q (.ref D) H2) ∨ (J.go i H2 ∧ ys.length < sizeLine ∧ ∀ x H3, J.yld i H2 x H3 → ∀ os : St, os.length = n → g x (σ ++ os) H3 fun σ4 H4 => (∃ os' : St, σ4 = σ ++ os' ∧ os'.length = n) ∧ tt σ4 H4 fun b H5 => if b = true then te σ4 H5 fun y H6 => H6 D = some (.lst ys) ∧ ∃ m', m' < m ∧ W (i + 1) m' (ys ++ [y]) (upd H6 D (.lst (ys ++ [y])))
    else ∃ m', m' < m ∧ W (i + 1) m' ys H5))
structure CompNs (N Nc : List Str) (xs : List Str) (sc fsc : Scope) : Prop where
  kind : sc.kind = .function
  cell : ∀ y ∈ sc.names, y.2 ≠ .cell
  nm : ∀ y ∈ sc.names, y.2 = .local → sc.names.lookup y.1 = some .local
  own : ∀ x ∈ xs, sc.names.lookup x = some .local
  fr : ∀ y ∈ sc.names, y.2 = .free → fsc.names.lookup y.1 = some .cell ∨ fsc.names.lookup y.1 = some .free
  len : Nc.length = N.length + xs.length
  nd : Nc.Nodup
  last : Nc.drop N.length = xs
  slot : ((List.range N.length).all fun i => match Nc[i]? with
    | some y => (match sc.names.lookup y with | some .free => N[i]? == some y | some .local => false | some .cell => false | _ => true)
    | none => true) = true
theorem CompNs.at {N Nc : List Str} {xs : List Str} {sc fsc : Scope} (C : CompNs N Nc xs sc fsc) {i : Nat} {y : Str} (hi : i < N.length) (h : Nc[i]? = some y) : sc.names.lookup y ≠ some .local ∧ sc.names.lookup y ≠ some .cell ∧ (sc.names.lookup y = some .free → N[i]? = some y) := by
  have q := List.all_eq_true.mp C.slot i (List.mem_range.mpr hi)
  rw [h] at q
  dsimp only at q
  cases e : sc.names.lookup y with
  | none => exact ⟨fun z => (nomatch z), fun z => (nomatch z), fun z => (nomatch z)⟩
  | some k =>
    rw [e] at q
    cases k with
    | «local» => exact absurd (show false = true from q) Bool.false_ne_true
    | cell => exact absurd (show false = true from q) Bool.false_ne_true
    | free => exact ⟨fun z => (nomatch z), fun z => (nomatch z), fun _ => by simpa using q⟩
    | _ => exact ⟨fun z => (nomatch z), fun z => (nomatch z), fun z => (nomatch z)⟩
theorem pgc_name {X : Cx} {N Nc xs : List Str} {sc fsc : Scope} {cl : List (Str × Addr)} {s : Shared} {H : Hp} {ex : List Addr} {x : Str} {px : Pos} {j n : Nat} (cn : CompNs N Nc xs sc fsc) (hj : xs[j]? = some x) (hn : n = N.length + j) : PG (X.inComp Nc sc cl s H ex) (.Name x px) (gName n) := by
  have own : (relabel sc X.env).names.lookup x = some .local := by
    have e := lookup_relabel X.env sc.names x
    rw [cn.own x (List.mem_of_getElem? hj)] at e
    exact e
  refine pg_name (X := X.inComp Nc sc cl s H ex) cn.nd ?_ (.inl own) (.inr own)
  show Nc[n]? = some x
  rw [hn, ← List.getElem?_drop, cn.last]
  exact hj
theorem loopT {prog : Program} {w : World} {A : Around} {R : Result → Shared → Prop} {s : Shared} {elt tg iter : Expr} {ifs : List Expr} {scope : Scope} {pos : Pos} {it acc : Value} {env : Env} (I : Nat → Shared → Prop)
    (turn : ∀ n s, I n s → wpAny (model prog w) A (pyNext it) (fun r s₁ => match r with
      | none => R (.ok .next) s₁
      | some v => wpAny (model prog w) A (letOwnedTupleGo tg it v) (fun _ z => wpAny (model prog w) A (assign tg env v) (fun _ s₂ =>
          wpAny (model prog w) A (forIn ifs true fun c r => if r = true then do let ok ← isTrue c env (eval c env); pure (ForInStep.yield ok) else pure (ForInStep.yield r)) (fun ok s₃ =>
            if ok = true then wpAny (model prog w) A (eval elt env) (fun x s₄ => wpAny (model prog w) A (call (.builtin "list.append") [acc, x]) (fun _ s₅ => ∃ m, m < n ∧ I m s₅) (fun _ _ => False) s₄) (fun _ _ => False) s₃
            else ∃ m, m < n ∧ I m s₃) (fun _ _ => False) s₂) (fun _ _ => False) z) (fun _ _ => False) s₁) (fun _ _ => False) s)
    (n : Nat) (h : I n s) : codeAny (model prog w) A (.compLoop (.ListComp elt [⟨tg, iter, ifs, 0⟩] scope pos) 0 it acc env) R s := by
  refine codeAny_loop rfl I (fun k z y => ?_) n h
  show wpAny _ A ((compTurn (.ListComp elt [⟨tg, iter, ifs, 0⟩] scope pos) 0 it acc env).onRaise fun x => do noteFrame x env; theTreesLotGoes x) _ _ z
  refine wpAny_noted ?_
  rw [compTurn_list]
  refine wpAny_bind (wpAny_standAt (wpAny_bind (thnF (turn k z y) fun r s₁ q1 => ?_)))
  cases r with
  | none => exact wpAny_pure q1
  | some v =>
    refine wpAny_bind (thnF q1 fun _ z q2 => wpAny_bind (thnF q2 fun _ s₂ q3 => wpAny_bind (thnF q3 fun ok s₃ q4 => ?_)))
    cases ok with
    | false => exact wpAny_pure ⟨rfl, q4⟩
    | true => exact wpAny_bind (wpAny_bind (thnF q4 fun x s₄ q5 => wpAny_bind (thnF q5 fun _ s₅ q6 => wpAny_pure (wpAny_pure ⟨rfl, q6⟩))))
section
variable {X : Cx} {elt iter : Expr} {xs : List Str} {tg : Expr} {g : TG} {pos : Pos} {ifs : List Expr} {sc fsc : Scope} {N Nc : List Str} {wi : TI} {tt : TT} {te : TE}
theorem comp_coreT (hE : X.env.scope = fsc) (hXN : X.N = N) (cn : CompNs N Nc xs sc fsc) (hc : X.calm = true)
    (hg : ∀ cl s H ex, PG (X.inComp Nc sc cl s H ex) tg g) (ht : ∀ cl s H ex, PIfs (X.inComp Nc sc cl s H ex) ifs tt) (he : ∀ cl s H ex, PE (X.inComp Nc sc cl s H ex) elt te)
    {cl : List (Str × Addr)} (clS : ∀ y c, cl.lookup y = some c → X.env.cells.lookup y = some c) (clH : ∀ y ∈ sc.names, y.2 = .free → ∃ c, cl.lookup y.1 = some c)
    {pins : List (Addr × Obj)} {σ : St} {H2 : Hp} {s2 : Shared} {it : Addr} {fp : List Addr} {tn : Nat → Heap → Prop} {J : It} {Q : VK} {E : Value → Shared → Prop}
    (I2 : Inv X pins σ H2 s2) (T : Turn X.prog X.w X.K tg J fp it tn) (st2 : tn 0 s2.heap) (f2 : ∀ b ∈ fp, FpOk X pins H2 b)
    (h2 : ∀ D, H2 D = none → ∃ W : Nat → Nat → List V → Hp → Prop, (∃ m, W 0 m [] (upd H2 D (.lst []))) ∧ ∀ i m ys H2, W i m ys H2 →
      H2 D = some (.lst ys) ∧ ((J.stop i H2 ∧ Q (.ref D) H2) ∨ (J.go i H2 ∧ ys.length < sizeLine ∧ ∀ x H3, J.yld i H2 x H3 → ∀ os : St, os.length = xs.length → g x (σ ++ os) H3 fun σ4 H4 => (∃ os' : St, σ4 = σ ++ os' ∧ os'.length = xs.length) ∧ tt σ4 H4 fun b H5 => if b = true then te σ4 H5 fun y H6 => H6 D = some (.lst ys) ∧ ∃ m', m' < m ∧ W (i + 1) m' (ys ++ [y]) (upd H6 D (.lst (ys ++ [y])))
        else ∃ m', m' < m ∧ W (i + 1) m' ys H5))) :
    wpAny (model X.prog X.w) X.A (newList []) (fun acc s₃ => wpAny (model X.prog X.w) X.A (newFunctionEnv sc X.env.globals cl [] X.env.qual none .none (some X.env)) (fun cenv s₄ =>
      codeAny (model X.prog X.w) X.A (.compStart (.ListComp elt [⟨tg, iter, ifs, 0⟩] sc pos) 0 (.ref it) acc { cenv with scope := relabel sc X.env })
        (fun r s' => r = .ok .next ∧ ∃ D H', acc = .ref D ∧ Inv X pins σ H' s' ∧ Q (.ref D) H' ∧ CLoc X pins H' cenv.locals ∧ ∃ m, s'.heap.Ns cenv.locals m) s₄) E s₃) E s2 := by
  refine wpAny_newObj_type (wpAny_newFunctionEnv cn.cell (by intro y hy; simp at hy) (fun h₁ hns₁ hsb₁ => ?_) cn.kind)
  dsimp only at hns₁ hsb₁ ⊢
  have hD : H2 s2.heap.objs.size = none := I2.hok.fresh (Nat.le_refl _)
  obtain ⟨W, ⟨m0, w0⟩, turn⟩ := h2 s2.heap.objs.size hD
  have I3 : Inv X pins σ (upd H2 s2.heap.objs.size (.lst [])) { s2 with heap := s2.heap.push { cls := .type "list", dict := none, data := .seq ([] : List Value).toArray } } :=
    I2.laid (t' := s2.toks) (fun b u e => Heap.get?_push_of_some _ e) (Nat.le_refl _) ⟨Nat.zero_le _, [], 0, .nil, Heap.get?_push_size _ rfl⟩
  generalize hs3 : ({ s2 with heap := s2.heap.push { cls := .type "list", dict := none, data := .seq ([] : List Value).toArray } } : Shared) = s3 at I3
  have eh : s3.heap = s2.heap.push { cls := .type "list", dict := none, data := .seq ([] : List Value).toArray } := by rw [← hs3]
  have e2 : ({ s2 with heap := h₁, toks := s2.toks + ([] : List (Str × Value)).length } : Shared) = { s3 with heap := h₁, toks := s3.toks } := by rw [← hs3]; rfl
  generalize hH3 : upd H2 s2.heap.objs.size (.lst []) = H3 at I3 w0
  rw [← eh] at hns₁ hsb₁ ⊢
  rw [e2]
  have below2 : ∀ b, b ∈ fp → b < s3.heap.objs.size := fun b hb => by
    obtain ⟨o, e, _⟩ := T.obj _ _ st2 b hb
    have : s2.heap.objs.size ≤ s3.heap.objs.size := by rw [eh, Heap.size_push]; exact Nat.le_succ _
    exact Nat.lt_of_lt_of_le (Heap.lt_size e) this
  have old : ∀ b o, s3.heap.get? b = some o → h₁.get? b = some o := fun b o e => (hsb₁.2 b (Nat.ne_of_lt (Heap.lt_size e))).trans (Heap.get?_push_of_some _ e)
  have old2 : ∀ b o, s2.heap.get? b = some o → s3.heap.get? b = some o := fun b o e => by rw [eh]; exact Heap.get?_push_of_some _ e
  have hsz3 : s2.heap.objs.size < s3.heap.objs.size := by rw [eh, Heap.size_push]; exact Nat.lt_succ_self _
  have fpFree : ∀ b ∈ fp, H3 b = none := fun b hb => by
    rw [← hH3, upd_ne (fun z => ?_)]
    · exact (f2 b hb).1
    · obtain ⟨o, e, _⟩ := T.obj _ _ st2 b hb
      have := Heap.lt_size e
      rw [z] at this
      exact Nat.lt_irrefl _ this
  have rl : ∀ y, (relabel sc X.env).names.lookup y = (sc.names.lookup y).map fun k => if (k == NameKind.free && X.env.scope.kind == .function && X.env.kindOf y == some .cell) then NameKind.cell else k := fun y => lookup_relabel X.env sc.names y
  have freeOf : ∀ y, sc.names.lookup y = some .free → ∃ c, cl.lookup y = some c := fun y e => clH (y, .free) (PySem.mem_of_lookup e) rfl
  have noCell : ∀ y, sc.names.lookup y ≠ some .cell := fun y e => cn.cell (y, .cell) (PySem.mem_of_lookup e) rfl
  have isFree : ∀ y, ((relabel sc X.env).names.lookup y = some .cell ∨ (relabel sc X.env).names.lookup y = some .free) → sc.names.lookup y = some .free := fun y h => by
    rw [rl y] at h
    cases e : sc.names.lookup y with
    | none => rw [e] at h; rcases h with z | z <;> exact absurd z (by simp)
    | some k =>
      rw [e] at h
      cases k with
      | free => rfl
      | cell => exact absurd e (noCell y)
      | «local» => rcases h with z | z <;> exact absurd z (by simp)
      | _ => rcases h with z | z <;> exact absurd z (by simp)
  have exOk : ∀ b ∈ fp, b ≠ s3.heap.objs.size ∧ (∀ y c, X.env.cells.lookup y = some c → c ≠ b) ∧ b ∉ frs X.stack := fun b hb => by
    obtain ⟨g0, g1, g2, g3, g4, g5⟩ := f2 b hb
    refine ⟨Nat.ne_of_lt (below2 b hb), g4, fun z => ?_⟩
    rcases List.mem_cons.mp (I2.stkSub b z) with z | z
    · exact g1 z
    · exact g2 z
  have hCnew : X.s₀.heap.objs.size ≤ s3.heap.objs.size := I3.sz
  have hCcell : ∀ y c, X.env.cells.lookup y = some c → c ≠ s3.heap.objs.size := fun y c e z => by
    obtain ⟨v, q⟩ := I3.cell y c e
    have := q.lt
    rw [z] at this
    exact Nat.lt_irrefl _ this
  have hCpin : ∀ p ∈ X.pn ++ pins, p.1 ≠ s3.heap.objs.size := fun p hp z => by
    have := Heap.lt_size (I3.pin p hp).1
    rw [z] at this
    exact Nat.lt_irrefl _ this
  have okc : (X.inComp Nc sc cl s3 H3 fp).Ok := by
    refine ⟨I3.ok.mod, cn.kind, I3.ok.glob, I3.ok.blt, Nat.le_refl _, fun y z c h1 h2 => I3.ok.inj y z c (clS y c h1) (clS z c h2), fun y hy => freeOf y (isFree y hy), fun y c hf => absurd (show false = true from hf) Bool.false_ne_true, I3.ok.hd, I3.ok.frames, .inl rfl,
      fun b hb => ⟨(exOk b hb).1, fun y c e => (exOk b hb).2.1 y c (clS y c e)⟩, fun b o e => I3.bs b o e, Nat.le_trans I3.ok.bsz I3.sz, fun b o e hb => ?_, fun b hb => (exOk b hb).2.2, I3.stack, I3.stkFree⟩
    obtain ⟨g0, g1, g2, g3, g4, g5⟩ := f2 b hb
    rcases g3 with z | z
    · exact I3.ok.noex b o e z
    · exact absurd (Heap.lt_size (I3.ok.bs b o e).1) (Nat.not_lt.mpr z)
  have hlen : σ.length = N.length := by rw [I3.len, hXN]
  have Ic : Inv (X.inComp Nc sc cl s3 H3 fp) [] (σ ++ List.replicate xs.length none) H3 { s3 with heap := h₁, toks := s3.toks } := by
    refine ⟨okc, rfl, I3.bare, Un.kept old, ⟨_, hns₁, fun i y v h1 h2 h3 => ?_⟩, fun y c e => ?_, I3.hok.fresh (Nat.le_refl _), fun y c e => I3.freeC y c (clS y c e), fun p hp => absurd (show p ∈ ([] : List (Addr × Obj)) from hp) (by simp), I3.hok.kept old, ?_⟩
    · have hi : i < σ.length := by
        by_cases hi : i < σ.length
        · exact hi
        · rw [List.getElem?_append_right (Nat.not_lt.mp hi)] at h2
          rw [List.getElem?_replicate] at h2
          split at h2 <;> cases h2
      rw [List.getElem?_append_left hi] at h2
      have hi' : i < N.length := by rw [← hlen]; exact hi
      obtain ⟨n1, n2, n3⟩ := cn.at hi' h1
      have hf : sc.names.lookup y = some .free := by
        rcases h3 with z | z
        · exfalso
          have z' : (relabel sc X.env).names.lookup y = some .local := z
          rw [rl y] at z'
          cases e : sc.names.lookup y with
          | none => rw [e] at z'; simp at z'
          | some k =>
            rw [e] at z'
            cases k with
            | «local» => exact n1 e
            | cell => exact n2 e
            | free =>
              simp only [Option.map_some, Option.some.injEq] at z'
              split at z' <;> cases z'
            | _ => simp at z'
        · exact isFree y z
      have hN : X.N[i]? = some y := by rw [hXN]; exact n3 hf
      obtain ⟨m, hn, hl⟩ := I3.loc
      have hv : fsc.names.lookup y = some .cell ∨ fsc.names.lookup y = some .free := cn.fr (y, .free) (PySem.mem_of_lookup hf) rfl
      have hv' : X.env.scope.names.lookup y = some .cell ∨ X.env.scope.names.lookup y = some .free := by rw [hE]; exact hv
      obtain ⟨u, ru, lk⟩ := hl i y v hN h2 (.inr hv')
      refine ⟨u, ru, .inr ⟨?_, ?_⟩⟩
      · show (relabel sc X.env).names.lookup y = some .cell ∨ (relabel sc X.env).names.lookup y = some .free
        rw [rl y, hf]
        simp only [Option.map_some, Option.some.injEq]
        split
        · exact .inl rfl
        · exact .inr rfl
      · rcases lk with ⟨kl, _⟩ | ⟨_, c, hc, hcell⟩
        · exfalso
          have kl' : X.env.scope.names.lookup y = some .local := kl
          rw [kl'] at hv'
          rcases hv' with z | z <;> cases z
        · obtain ⟨d, hd⟩ := freeOf y hf
          have ed := clS y d hd
          rw [hc] at ed
          cases ed
          exact ⟨c, hd, hcell.keeps old⟩
    · obtain ⟨v, q⟩ := I3.cell y c (clS y c e)
      exact ⟨v, q.keeps old⟩
    · show (σ ++ List.replicate xs.length none).length = Nc.length
      rw [List.length_append, hlen, cn.len, List.length_replicate]
  have stc : tn 0 ({ s3 with heap := h₁, toks := s3.toks } : Shared).heap := T.keep _ _ _ st2 fun b _ o e => old b o (old2 b o e)
  have hDf : s2.heap.objs.size ∉ fp := fun hm => by
    obtain ⟨o, e, _⟩ := T.obj _ _ st2 _ hm
    exact Nat.lt_irrefl _ (Heap.lt_size e)
  have fpc : ∀ {pins' : List (Addr × Obj)} {H' : Hp}, pins' = [] → (∀ b ∈ fp, H' b = none) → ∀ b ∈ fp, FpOk (X.inComp Nc sc cl s3 H3 fp) pins' H' b := fun {pins' H'} hp hn b hb => by
    subst hp
    exact ⟨hn b hb, (exOk b hb).1, (exOk b hb).2.2, .inl hb, fun y c e => (exOk b hb).2.1 y c (clS y c e), fun p hp => absurd (show p ∈ ([] : List (Addr × Obj)) from hp) (by simp)⟩
  have loop : ∀ s₄ : Shared, s₄ = { s3 with heap := h₁, toks := s3.toks } →
      codeAny (model X.prog X.w) X.A (.compLoop (.ListComp elt [⟨tg, iter, ifs, 0⟩] sc pos) 0 (.ref it) (.ref s2.heap.objs.size) (compEnvC sc cl s3.heap.objs.size X.env))
        (fun r s' => r = .ok .next ∧ ∃ D H', (Value.ref s2.heap.objs.size) = .ref D ∧ Inv X pins σ H' s' ∧ Q (.ref D) H' ∧ CLoc X pins H' s3.heap.objs.size ∧ ∃ m, s'.heap.Ns s3.heap.objs.size m) s₄ := by
    rintro s₄ rfl
    refine loopT (fun n s' => ∃ (i : Nat) (o : St) (H' : Hp) (ys : List V), o.length = xs.length ∧ Inv (X.inComp Nc sc cl s3 H3 fp) [] (σ ++ o) H' s' ∧ tn i s'.heap ∧ (∀ b ∈ fp, H' b = none) ∧ W i n ys H') ?_ m0 ⟨0, _, H3, [], List.length_replicate .., Ic, stc, fpFree, w0⟩
    rintro n s' ⟨i, o, H', ys, lo, I', st', fr', w'⟩
    obtain ⟨hDl, tw⟩ := turn i n ys H' w'
    rcases tw with ⟨stop, q⟩ | ⟨go, hz, step⟩
    ·
      refine thn (T.done (X.inComp Nc sc cl s3 H3 fp) rfl rfl rfl hc i [] s' _ H' _ I' (fpc rfl fr') st' stop) fun r s5 ⟨hr, I5⟩ => ?_
      subst hr
      have Ix : Inv X pins σ H' s5 := I3.call' (ch := fp) I5.os I5.base I5.hok I5.bare fun b hb => by
        obtain ⟨g0, g1, g2, g3, g4, g5⟩ := f2 b hb
        exact ⟨g3, g1, g4, g5⟩
      have hCf : H' s3.heap.objs.size = none := I5.free
      obtain ⟨m, hn, _⟩ := I5.loc
      exact ⟨rfl, s2.heap.objs.size, H', rfl, Ix, q, ⟨hCf, fun z => Nat.lt_irrefl _ (by have := I3.lt; rw [← z] at this; exact this), hCnew, hCcell, hCpin⟩, m, hn⟩
    ·
      refine thn (T.item (X.inComp Nc sc cl s3 H3 fp) rfl rfl rfl hc i [] s' _ H' _ I' (fpc rfl fr') st' go) fun r s5 ⟨u, hr, h4⟩ => ?_
      subst hr
      dsimp only
      refine thnF h4 fun _ s6 ⟨xv, H5, I5, r5, y5, st5, fr5⟩ => ?_
      have I5' := I5.pinned (fpc rfl fr5) (T.obj _ _ st5)
      have again : ∀ {o' : St} {H7 : Hp} {s7 : Shared} {m' : Nat} {ys' : List V}, o'.length = xs.length → Inv (X.inComp Nc sc cl s3 H3 fp) ([] ++ pinsAt fp s6.heap) (σ ++ o') H7 s7 → m' < n → W (i + 1) m' ys' H7 →
          ∃ m, m < n ∧ ∃ (i : Nat) (o : St) (H' : Hp) (ys : List V), o.length = xs.length ∧ Inv (X.inComp Nc sc cl s3 H3 fp) [] (σ ++ o) H' s7 ∧ tn i s7.heap ∧ (∀ b ∈ fp, H' b = none) ∧ W i m ys H' := fun {o' H7 s7 m' ys'} lo' I7 hm w7 => by
        refine ⟨m', hm, i + 1, o', H7, ys', lo', I7.unpinned, T.keep _ _ _ st5 fun b hb o e => (I7.pin (b, o) (List.mem_append_right _ (List.mem_append_right _ (mem_pinsAt hb e)))).1, fun b hb => ?_, w7⟩
        obtain ⟨o', e, d⟩ := T.obj _ _ st5 b hb
        exact (I7.pin (b, o') (List.mem_append_right _ (List.mem_append_right _ (mem_pinsAt hb e)))).2.1
      refine thnF (hg cl s3 H3 fp _ s6 _ H5 xv u _ I5' r5 (step xv _ y5 o lo)) fun _ s7 ⟨σ7, H7, I7, ⟨o7, e7, lo7⟩, q7⟩ => ?_
      subst e7
      refine thnF (ht cl s3 H3 fp _ s7 _ _ _ I7 q7) fun b s8 ⟨H8, I8, q8⟩ => ?_
      cases b with
      | false =>
        rw [if_neg Bool.false_ne_true] at q8 ⊢
        obtain ⟨m', hm, w8⟩ := q8
        exact again lo7 I8 hm w8
      | true =>
        rw [if_pos rfl] at q8 ⊢
        refine thnF (he cl s3 H3 fp _ s8 _ H8 _ I8 q8) fun y s9 ⟨yv, H9, I9, r9, hD9, m', hm, w9⟩ => ?_
        refine thnF (mt_append _ s9 _ H9 (.ref s2.heap.objs.size) [yv] (.ref s2.heap.objs.size) [y] (fun v H => v = .non ∧ H = upd H9 s2.heap.objs.size (.lst (ys ++ [yv]))) I9 rfl (.cons r9 .nil) ⟨_, ys, yv, rfl, rfl, hD9, hz, rfl, rfl⟩) fun _ s10 ⟨v10, H10, I10, r10, e10, e11⟩ => ?_
        subst e11
        exact again lo7 I10 hm w9
  exact codeAny_compStart_list (loop _ rfl) (T.self _ 0 _ _ _ stc (loop _ rfl))
theorem comp_hasT (I : ∀ y, (X.env.kindOf y = some .cell ∨ X.env.kindOf y = some .free) → ∃ c, X.env.cells.lookup y = some c) (hE : X.env.scope = fsc) (cn : CompNs N Nc xs sc fsc) : ∀ y ∈ sc.names, y.2 = .free → ∃ c, X.env.cells.lookup y.1 = some c := fun y hy hf => by
  refine I y.1 ?_
  show X.env.scope.names.lookup y.1 = some .cell ∨ X.env.scope.names.lookup y.1 = some .free
  rw [hE]
  exact cn.fr y hy hf
theorem pe_compT (hE : X.env.scope = fsc) (hXN : X.N = N) (cn : CompNs N Nc xs sc fsc) (hc : X.calm = true) (hi : PI X tg iter wi)
    (hg : ∀ cl s H ex, PG (X.inComp Nc sc cl s H ex) tg g) (ht : ∀ cl s H ex, PIfs (X.inComp Nc sc cl s H ex) ifs tt) (he : ∀ cl s H ex, PE (X.inComp Nc sc cl s H ex) elt te)
    (hs : ∀ v, foldedSetIterable iter X.env v = pure v := by intro _; rfl) : PE X (.ListComp elt [⟨tg, iter, ifs, 0⟩] sc pos) (tCompT xs.length wi g tt te) := by
  intro pins s σ H Q I h
  obtain ⟨cl, hcl, clS, clH⟩ := closure_ok (env := X.env) (sc := sc) (comp_hasT I.ok.has hE cn)
  rw [eval_ListComp]
  refine wpAny_comprehension_free (use := none) rfl hs hcl cn.kind cn.nm (thn (hi pins s σ H _ I h) fun v s1 h1 => thn h1 fun itv s2 h2 => ?_)
  obtain ⟨it, fp, tn, J, H2, rfl, I2, T, st2, f2, h2⟩ := h2
  refine thn (comp_coreT (pos := pos) (iter := iter) hE hXN cn hc hg ht he clS clH I2 T st2 f2 h2) fun acc s3 h3 => thn h3 fun cenv s4 h4 => codeAny_mono h4 fun r s' h5 => ?_
  obtain ⟨rfl, D, H', rfl, I', q, cloc, m, hn⟩ := h5
  exact ⟨m, hn, fun h' k => ⟨.ref D, H', I'.sameBut cloc k, rfl, q⟩⟩
theorem ps_setCT {j : Nat} {y : Str} {py spos : Pos} (hE : X.env.scope = fsc) (hXN : X.N = N) (cn : CompNs N Nc xs sc fsc) (hc : X.calm = true) (hnd : X.N.Nodup) (hj : X.N[j]? = some y) (hy : X.env.scope.names.lookup y = some .local) (hi : PI X tg iter wi)
    (hg : ∀ cl s H ex, PG (X.inComp Nc sc cl s H ex) tg g) (ht : ∀ cl s H ex, PIfs (X.inComp Nc sc cl s H ex) ifs tt) (he : ∀ cl s H ex, PE (X.inComp Nc sc cl s H ex) elt te)
    (hsw : swapsWith (.ListComp elt [⟨tg, iter, ifs, 0⟩] sc pos) (some (.Name y py)) spos.line X.env = pure true)
    (hs : ∀ v, foldedSetIterable iter X.env v = pure v := by intro _; rfl) : PS X (.Assign [.Name y py] (.ListComp elt [⟨tg, iter, ifs, 0⟩] sc pos) spos) (tAsg (tCompT xs.length wi g tt te) (gName j)) := by
  intro pins s σ H D I h
  obtain ⟨cl, hcl, clS, clH⟩ := closure_ok (env := X.env) (sc := sc) (comp_hasT I.ok.has hE cn)
  rw [exec_Assign_Name_used _ _ _ _ hsw]
  refine wpAny_bind (wpAny_standAt (wpAny_bind ?_))
  show wpAny _ X.A (do let _ ← comprehension (.ListComp elt [⟨tg, iter, ifs, 0⟩] sc pos) sc X.env _ (newList []) false (eval iter X.env) (some (assign (.Name y py) X.env))) _ _ s
  refine wpAny_bind (thn (wpAny_comprehension_free (Q := fun _ s' => SP X pins D .next s') rfl hs hcl cn.kind cn.nm (thn (hi pins s σ H _ I h) fun v s1 h1 => thn h1 fun itv s2 h2 => ?_)) fun _ s' hq => wpAny_pure (wpAny_pure hq))
  obtain ⟨it, fp, tn, J, H2, rfl, I2, T, st2, f2, h2⟩ := h2
  refine thn (comp_coreT (pos := pos) (iter := iter) (Q := fun x H1 => gName j x σ H1 D.nx) hE hXN cn hc hg ht he clS clH I2 T st2 f2 h2) fun acc s3 h3 => thn h3 fun cenv s4 h4 => codeAny_mono h4 fun r s' h5 => ?_
  obtain ⟨rfl, D', H', rfl, I', q, cloc, m, hn⟩ := h5
  refine wpAny_assign_Name (store_ok2 (v := .ref D') I' hnd hj (.inl hy) rfl (fun s6 I6 sb => ?_) (.inr hy))
  obtain ⟨a, k, ha⟩ := sb
  refine ⟨m, hn.sameBut k (fun z => ?_), fun h' k' => ⟨_, H', I6.sameBut cloc k', q⟩⟩
  rcases ha with ha | ha
  · exact cloc.ne (z.trans ha)
  · exact cloc.cells _ _ ha z.symm
end
theorem comp_pairs {K : PySem.W.Frag} {a : Addr} {zs : List V} {tt : TT} {te : TE} {σ : St} {H1 : Hp} {Q : Addr → Hp → Prop} {n m : Nat} (hn : n = σ.length) (hm : m = σ.length + 1) (hz : zs.length ≤ sizeLine) (Pv : Addr → Nat → List V → Hp → Prop)
    (h0 : ∀ D, H1 D = none → Pv D 0 [] (upd H1 D (.lst []))) (hD : ∀ D i ys H, Pv D i ys H → H D = some (.lst ys) ∧ ys.length ≤ i) (hl : ∀ D i ys H, H1 D = none → Pv D i ys H → SqL K H a zs)
    (hs : ∀ D i x ys H (K1 : VK) (K2 : Hp → Prop), H1 D = none → zs[i]? = some x → Pv D i ys H → (∀ y H5, H5 D = some (.lst ys) → Pv D (i + 1) (ys ++ [y]) (upd H5 D (.lst (ys ++ [y]))) → K1 y H5) → (∀ H4, Pv D (i + 1) ys H4 → K2 H4) →
      ∃ t v w, x = .ref t ∧ SqT K H t [v, w] ∧ tt (σ ++ [some v, some w]) H fun b H4 => if b = true then te (σ ++ [some v, some w]) H4 K1 else K2 H4)
    (hd : ∀ D ys H, H1 D = none → Pv D zs.length ys H → Q D H) :
    ∀ D, H1 D = none → ∃ W : Nat → Nat → List V → Hp → Prop, (∃ m, W 0 m [] (upd H1 D (.lst []))) ∧ ∀ i k ys H2, W i k ys H2 →
      H2 D = some (.lst ys) ∧ (((Itl K a).stop i H2 ∧ Q D H2) ∨ ((Itl K a).go i H2 ∧ ys.length < sizeLine ∧ ∀ x H3, (Itl K a).yld i H2 x H3 → ∀ os : St, os.length = 2 → gTup K 2 (gCons (gName n) (gCons (gName m) gNil)) x (σ ++ os) H3 fun σ4 H4 => (∃ os' : St, σ4 = σ ++ os' ∧ os'.length = 2) ∧ tt σ4 H4 fun b H5 => if b = true then te σ4 H5 fun y H6 => H6 D = some (.lst ys) ∧ ∃ m', m' < k ∧ W (i + 1) m' (ys ++ [y]) (upd H6 D (.lst (ys ++ [y])))
        else ∃ m', m' < k ∧ W (i + 1) m' ys H5)) := by
  intro D hDn
  subst hn hm
  refine ⟨fun i m ys H => m = zs.length - i ∧ i ≤ zs.length ∧ Pv D i ys H, ⟨zs.length, rfl, Nat.zero_le _, h0 D hDn⟩, ?_⟩
  rintro i m ys H2 ⟨rfl, hi, p⟩
  obtain ⟨e, l⟩ := hD D i ys H2 p
  have q := hl D i ys H2 hDn p
  refine ⟨e, ?_⟩
  by_cases hlt : i < zs.length
  · refine .inr ⟨⟨zs, zs[i], q, by simp [hlt]⟩, Nat.lt_of_le_of_lt l (Nat.lt_of_lt_of_le hlt hz), fun x H3 y os ho => ?_⟩
    obtain ⟨e1, y⟩ := y
    subst e1
    obtain ⟨t, v, w, rfl, ht, q5⟩ := hs D i x ys _ (fun y H6 => H6 D = some (.lst ys) ∧ ∃ m', m' < zs.length - i ∧ m' = zs.length - (i + 1) ∧ i + 1 ≤ zs.length ∧ Pv D (i + 1) (ys ++ [y]) (upd H6 D (.lst (ys ++ [y])))) (fun H5 => ∃ m', m' < zs.length - i ∧ m' = zs.length - (i + 1) ∧ i + 1 ≤ zs.length ∧ Pv D (i + 1) ys H5) hDn (y zs q) p (fun y H5 h5 p5 => ⟨h5, zs.length - (i + 1), by omega, rfl, hlt, p5⟩) fun H4 p4 => ⟨zs.length - (i + 1), by omega, rfl, hlt, p4⟩
    match os, ho with
    | [o1, o2], _ =>
      have e2 : ((σ ++ [o1, o2]).set σ.length (some v)).set (σ.length + 1) (some w) = σ ++ [some v, some w] := by
        rw [List.set_append_right _ _ (Nat.le_refl _), Nat.sub_self, List.set_append_right _ _ (Nat.le_succ _)]
        rw [show (List.length σ + 1) - List.length σ = 1 by omega]
        rfl
      refine ⟨t, [v, w], rfl, ht, rfl, v, [w], rfl, w, [], rfl, rfl, ?_⟩
      refine ⟨⟨[some v, some w], e2, rfl⟩, ?_⟩
      rw [e2]
      exact q5
  · have ei : i = zs.length := by omega
    subst ei
    exact .inl ⟨⟨zs, q, Nat.le_refl _⟩, hd D ys H2 hDn p⟩
section
variable {X : Cx} {elt iter : Expr} {x1 x2 x3 : Str} {p1 p2 p3 pt pos : Pos} {k : Nat} {ifs : List Expr} {sc fsc : Scope} {N Nc : List Str} {wi : TI} {tt : TT} {te : TE}
theorem pe_comp2 (hE : X.env.scope = fsc) (hXN : X.N = N) (cn : CompNs N Nc [x1, x2] sc fsc) (hc : X.calm = true) (hi : PI X (.Tuple [.Name x1 p1, .Name x2 p2] k pt) iter wi)
    (ht : ∀ cl s H ex, PIfs (X.inComp Nc sc cl s H ex) ifs tt) (he : ∀ cl s H ex, PE (X.inComp Nc sc cl s H ex) elt te) (hs : ∀ v, foldedSetIterable iter X.env v = pure v := by intro _; rfl) :
    PE X (.ListComp elt [⟨.Tuple [.Name x1 p1, .Name x2 p2] k pt, iter, ifs, 0⟩] sc pos) (tCompT 2 wi (gTup X.K 2 (gCons (gName N.length) (gCons (gName (N.length + 1)) gNil))) tt te) :=
  pe_compT hE hXN cn hc hi (fun cl s H ex => pg_tup (X := X.inComp Nc sc cl s H ex) hc (pgs_cons (pgc_name (j := 0) cn rfl rfl) (pgs_cons (pgc_name (j := 1) cn rfl rfl) pgs_nil))) ht he hs
theorem ps_setC2 {j : Nat} {y : Str} {py spos : Pos} (hE : X.env.scope = fsc) (hXN : X.N = N) (cn : CompNs N Nc [x1, x2] sc fsc) (hc : X.calm = true) (hnd : X.N.Nodup) (hj : X.N[j]? = some y) (hy : X.env.scope.names.lookup y = some .local) (hi : PI X (.Tuple [.Name x1 p1, .Name x2 p2] k pt) iter wi)
    (ht : ∀ cl s H ex, PIfs (X.inComp Nc sc cl s H ex) ifs tt) (he : ∀ cl s H ex, PE (X.inComp Nc sc cl s H ex) elt te)
    (hsw : swapsWith (.ListComp elt [⟨.Tuple [.Name x1 p1, .Name x2 p2] k pt, iter, ifs, 0⟩] sc pos) (some (.Name y py)) spos.line X.env = pure true)
    (hs : ∀ v, foldedSetIterable iter X.env v = pure v := by intro _; rfl) :
    PS X (.Assign [.Name y py] (.ListComp elt [⟨.Tuple [.Name x1 p1, .Name x2 p2] k pt, iter, ifs, 0⟩] sc pos) spos) (tAsg (tCompT 2 wi (gTup X.K 2 (gCons (gName N.length) (gCons (gName (N.length + 1)) gNil))) tt te) (gName j)) :=
  ps_setCT hE hXN cn hc hnd hj hy hi (fun cl s H ex => pg_tup (X := X.inComp Nc sc cl s H ex) hc (pgs_cons (pgc_name (j := 0) cn rfl rfl) (pgs_cons (pgc_name (j := 1) cn rfl rfl) pgs_nil))) ht he hsw hs
end
end L2
namespace L2
open PySem PySem.Spec PyProof.Rows
section
variable {X : Cx}
end
section
variable {X : Cx}
end
theorem eqv_ints : ∀ ns ms : List Int, PyData.eqvAll (ns.map .int) (ms.map .int) = decide (ns = ms)
  | [], [] => rfl
  | [], _ :: _ => rfl
  | _ :: _, [] => rfl
  | n :: ns, m :: ms => by
    show ((n == m) && PyData.eqvAll (ns.map .int) (ms.map .int)) = _
    rw [eqv_ints ns ms]
    by_cases h : n = m
    · by_cases k : ns = ms
      · subst h; subst k; simp
      · simp [h, k]
    · simp [h]
theorem lay_ints : ∀ ns : List Int, PyData.canLayAll0 (ns.map .int) = true ∧ PyData.depthAll (ns.map .int) ≤ 0
  | [] => ⟨rfl, Nat.le_refl _⟩
  | n :: ns => by
    obtain ⟨h1, h2⟩ := lay_ints ns
    refine ⟨?_, ?_⟩
    · show (true && PyData.canLayAll0 (ns.map .int)) = true
      rw [h1]; rfl
    · show max 0 (PyData.depthAll (ns.map .int)) ≤ 0
      omega
theorem shape_ints (ns : List Int) : SeqAt.shaped (.tuple (ns.map .int)) = true ∧ SeqAt.shaped (.list (ns.map .int)) = true := by
  obtain ⟨h1, h2⟩ := lay_ints ns
  constructor
  · unfold SeqAt.shaped
    rw [Bool.and_eq_true]
    refine ⟨h1, decide_eq_true ?_⟩
    show PyData.depthAll (ns.map .int) + 1 ≤ 64
    omega
  · unfold SeqAt.shaped
    rw [Bool.and_eq_true]
    refine ⟨h1, decide_eq_true ?_⟩
    show PyData.depthAll (ns.map .int) + 1 ≤ 64
    omega
section
variable {X : Cx}
theorem op_neT {K : PySem.W.Frag} (hu : X.A.units + 64 < cLine) (hK : X.K = K := by rfl) : OpR X (compareOp .NotEq) (fun x y H Q => ∃ (a b : Addr) (ns ms : List Int), x = .ref a ∧ y = .ref b ∧ SqT K H a (ns.map V.int) ∧ SqT K H b (ms.map V.int) ∧ Q (.bl (!decide (ns = ms))) H) := by
  intro pins s σ H x y v u Q I rx ry h
  obtain ⟨a, b, ns, ms, rfl, rfl, ha, hb, q⟩ := h
  refine op_neD hu hK pins s σ H _ _ v u Q I rx ry ⟨.tuple (ns.map .int), .tuple (ms.map .int), .tup ha (.ints ns), .tup hb (.ints ms), (shape_ints ns).1, (shape_ints ms).1, ?_⟩
  rw [show PyData.eqv (.tuple (ns.map .int)) (.tuple (ms.map .int)) = decide (ns = ms) from eqv_ints ns ms]
  exact q
end
end L2
namespace L2
open PySem PySem.Spec PyProof.Rows
namespace CutT
open HT
section
variable {prog : Program} {w : World} {A : Around} {E : Value → Shared → Prop} {s : Shared}
end
end CutT
end L2
namespace L2
open PySem PySem.Spec PyProof.Rows
section
variable {prog : Program} {w : World} {A : Around} {E : Value → Shared → Prop} {s : Shared}
end
section
variable {M : Model} {A : Around} {E : Value → Shared → Prop} {s : Shared} {env : Env}
end
section
variable {X : Cx}
end
end L2
namespace L2
open PySem PySem.Spec PyProof.Rows
section
variable {X : Cx}
end
theorem vals_get : ∀ {xs : List V} {us : List Value}, xs.length = us.length → (∀ (i : Nat) x u, xs[i]? = some x → us[i]? = some u → RelV x u) → Vals xs us
  | [], [], _, _ => .nil
  | [], _ :: _, h, _ => by cases h
  | _ :: _, [], h, _ => by cases h
  | x :: xs, u :: us, h, k => .cons (k 0 x u rfl rfl) (vals_get (Nat.succ.inj h) fun i y v h1 h2 => k (i + 1) y v h1 h2)
section
variable {X : Cx} {e : Expr} {te : TE} {p p2 pos pos2 : Pos}
def tLRange (te : TE) : TE := fun σ H Q => te σ H fun x H1 => ∃ n : Nat, x = .int (n : Int) ∧ n < 1000 ∧ ∀ l, H1 l = none → Q (.ref l) (upd H1 l (.lst ((List.range n).map fun i : Nat => V.int (i : Int))))
theorem pe_listrange (hc : X.calm = true) (hg : Gl X "list") (hm : X.mg "list" = none) (hg2 : Gl X "range") (hm2 : X.mg "range" = none) (he : PE X e te)
    (hs : starEach [e] X.env = [(false, eval e X.env)] := by rfl)
    (hs2 : starEach [(.Call (.Name "range" p2) [e] [] pos2 : Expr)] X.env = [(false, eval (.Call (.Name "range" p2) [e] [] pos2) X.env)] := by rfl) :
    PE X (.Call (.Name "list" p) [.Call (.Name "range" p2) [e] [] pos2] [] pos) (tLRange te) := by
  intro pins s σ H Q I h
  refine wpAny_Call_Name_kw (ld_blt I hg hm boot_list ?_ (by decide) (by decide))
  refine callWith_type1 ?_ hs2 rfl
  rw [hs2]
  refine Calls.spliced_cons ?_
  refine wpAny_Call_Name_kw (ld_blt I hg2 hm2 boot_range ?_ (by decide) (by decide))
  refine callWith_type1 ?_ hs rfl
  rw [hs]
  refine Calls.spliced_cons (thn (he pins s σ H _ I h) fun u s1 ⟨x, H1, I1, r1, n, hx, hn, q⟩ => ?_)
  subst hx
  obtain ⟨t, rfl⟩ := r1
  refine Calls.spliced_nil ?_
  refine call_range_1 ?_
  refine Calls.spliced_nil ?_
  refine call_list_range (n := n) (I1.ok.hd hc) (IsRange.new ..) (small_one (by omega) (by omega) (by omega) (by omega)) (by rw [rangeSize_one]; split <;> omega) (by omega) fun h' tk acc c' kp eS it => ?_
  have kp' : ∀ b o, s1.heap.get? b = some o → h'.get? b = some o := fun b o e => kp b o (Heap.get?_push_of_some _ e)
  have hp : s1.heap.objs.size ≤ (s1.heap.push { cls := .type "range", data := .fields #[.int 0 s1.toks, .int (n : Int) t, .int 1 (s1.toks + 1)] }).objs.size := by simp [Heap.push]
  have rv : Vals ((List.range n).map fun i : Nat => V.int (i : Int)) acc.toList := by
    refine vals_get (by simp [it.1]) fun i x u hx hu => ?_
    rw [List.getElem?_map] at hx
    obtain ⟨t', e⟩ := it.2 i u (by simpa using hu)
    have hi : i < n := by
      have := (List.getElem?_eq_some_iff.mp hu).1
      rw [Array.length_toList, it.1] at this
      exact this
    rw [List.getElem?_range hi] at hx
    have hx' : x = V.int (i : Int) := (Option.some.inj hx).symm
    subst hx'
    exact ⟨t', by rw [e]; simp⟩
  have hz : ((List.range n).map fun i : Nat => V.int (i : Int)).length ≤ sizeLine := by rw [List.length_map, List.length_range]; exact Nat.le_of_lt (small1000 (by omega))
  exact ⟨.ref _, _, I1.laid (t' := tk) kp' hp (show ObjOk X.prog X.w _ h' _ (.lst ((List.range n).map fun i : Nat => V.int (i : Int))) from ⟨hz, acc.toList, c', rv, by simpa using eS⟩), rfl, q _ (I1.hok.fresh hp)⟩
end
section
variable {prog : Program} {w : World} {A : Around} {E : Value → Shared → Prop} {s : Shared}
end
section
variable {X : Cx}
end
end L2
namespace L2
open PySem PySem.Spec PyProof.Rows
section
variable {P : Program} {w : World} {K : PySem.W.Frag} {mg : Str → Option Value} {base : Heap}
end
section
variable {X : Cx} {k : Nat} {f : Addr} {fd : FuncData} {ps : List Str} {sp : Sp} {x : Str} {p pos : Pos} {e : Expr} {es : List Expr} {t : TA}
end
section
variable {X : Cx}
end
end L2
namespace L2
open PySem PySem.Spec PyProof.Rows
section
variable {prog : Program} {w : World} {A : Around} {E : Value → Shared → Prop} {s : Shared}
end
section
variable {X : Cx} {pins : List (Addr × Obj)} {σ : St} {H : Hp}
end
end L2
namespace L2
open PySem PySem.Spec PyProof.Rows
section
variable {prog : Program} {w : World} {A : Around} {E : Value → Shared → Prop} {s : Shared}
end
section
variable {X : Cx}
end
end L2
namespace L2
open PySem PySem.Spec PyProof.Rows
section
variable {P : Program} {w : World} {K : PySem.W.Frag} {mg : Str → Option Value} {base : Heap}
end
section
variable {X : Cx} {CX : CXT} {W : St → XK} {k : Nat} {f C : Addr} {fd : FuncData} {ps : List Str} {sp : Sp} {dvs : List V} {ds : List Value} {E : XK} {x m : Str} {p pos apos : Pos} {e o : Expr} {es : List Expr} {ta : TE} {t : TA}
end
end L2
namespace L2
open PySem PySem.Spec PyProof.Rows
section
variable {X : Cx} {elt iter : Expr} {x : Str} {px pos : Pos} {ifs : List Expr} {sc fsc : Scope} {N Nc : List Str} {wi : TI} {tt : TT} {te : TE}
end
section
variable {X : Cx} {elt iter : Expr} {x y : Str} {py pos : Pos} {ifs : List Expr} {sc sc2 fsc : Scope} {Nc Nd : List Str} {wi : TI} {tt : TT} {te : TE} {cl : List (Str × Addr)} {s : Shared} {H : Hp} {ex : List Addr}
end
end L2
namespace L2
open PySem PySem.W PySem.Spec PyProof.Rows
def CodeO (c : Addr) (q : Str) : HO := .ext fun h => h.CodeRec (.ref c) q
structure LamB (base : Heap) (mg : Str → Option Value) (c P : Addr) : Prop where
  hd : CodeHd base c P
  bm : ∃ bm ob, mg "__builtins__" = some (.ref bm) ∧ bm ≠ builtinsNs ∧ base.get? bm = some ob ∧ ob.cls = .type "module" ∧ ob.dict = some builtinsNs ∧ ob.data = .plain
  out : base.get? P = none
def Lam1 (P : Addr) (pos : Pos) (q : Str) (H : Hp) : Prop := ∃ c, H P = some (.tbl #[rawInt pos.line, rawInt pos.col, .ref c]) ∧ H c = some (CodeO c q)
def LamT (P : Addr) (pos : Pos) (q : Str) (H : Hp) : Prop := H P = some (.tbl #[]) ∨ Lam1 P pos q H
def SmL (P : Addr) (H H' : Hp) : Prop := ∀ b u, b ≠ P → H b = some u → H' b = some u
theorem Lam1.same {P : Addr} {pos : Pos} {q : Str} {H H' : Hp} (x : Lam1 P pos q H) (e : Same H H') : Lam1 P pos q H' := let ⟨c, h1, h2⟩ := x; ⟨c, e _ _ h1, e _ _ h2⟩
theorem Lam1.put {P l : Addr} {pos : Pos} {q : Str} {H : Hp} {xs : List V} {o : HO} (t : Lam1 P pos q H) (e : H l = some (.lst xs)) : Lam1 P pos q (upd H l o) := by
  obtain ⟨c, h1, h2⟩ := t
  exact ⟨c, by rw [upd_ne (fun z => by rw [z, e] at h1; cases h1)]; exact h1, by rw [upd_ne (fun z => by rw [z, e] at h2; cases h2)]; exact h2⟩
theorem LamT.put {P l : Addr} {pos : Pos} {q : Str} {H : Hp} {xs : List V} {o : HO} (t : LamT P pos q H) (e : H l = some (.lst xs)) : LamT P pos q (upd H l o) := by
  rcases t with t | t
  · exact .inl (by rw [upd_ne (fun z => by rw [z, e] at t; cases t)]; exact t)
  · exact .inr (t.put e)
theorem LamT.same {P : Addr} {pos : Pos} {q : Str} {H H' : Hp} (t : LamT P pos q H) (s : Same H H') : LamT P pos q H' := t.elim (fun t => .inl (s _ _ t)) fun t => .inr (t.same s)
theorem SmL.at {P : Addr} {H H' : Hp} {pos : Pos} {q : Str} (e : SmL P H H') (t : LamT P pos q H) {b : Addr} {u : HO} (h : H b = some u) (n : ∀ ps, u ≠ .tbl ps) : H' b = some u := e b u (fun z => by
  rw [z] at h
  rcases t with t | ⟨_, t, _⟩
  · rw [h] at t; exact n _ (Option.some.inj t)
  · rw [h] at t; exact n _ (Option.some.inj t)) h
theorem among_nil (pos : Pos) : codeAmong pos (#[] : Array Value).toList = none := rfl
theorem among_one (pos : Pos) (c : Addr) : codeAmong pos (#[rawInt pos.line, rawInt pos.col, .ref c] : Array Value).toList = some (.ref c) := by
  simp [codeAmong, rawInt]
theorem codeO_ok {P : Program} {w : World} {H : Hp} {h : Heap} {c : Addr} {q : Str} (x : h.CodeRec (.ref c) q) : ObjOk P w H h c (CodeO c q) := by
  refine ⟨x, ?_, fun h1 h2 y k => ?_⟩
  · obtain ⟨c', o, vs, t, e, g, _⟩ := x
    cases e
    exact ⟨o, g⟩
  · obtain ⟨c', o, vs, t, e, g, r⟩ := y
    cases e
    exact ⟨c, o, vs, t, rfl, k o g, r⟩
theorem codeO_rec {P : Program} {w : World} {H : Hp} {h : Heap} {c : Addr} {q : Str} (x : ObjOk P w H h c (CodeO c q)) : h.CodeRec (.ref c) q := x.1
section
variable {X : Cx} {pins : List (Addr × Obj)} {σ : St} {H : Hp} {s : Shared} {c P : Addr} {pos : Pos} {params : Arguments} {body : Expr} {sc : Scope} {cl : List (Str × Addr)} {q : Str} {M : Model} {A : Around} {E : Value → Shared → Prop} {Q : Value → Shared → Prop}
theorem LamB.at (LB : LamB X.base X.mg c P) (I : Inv X pins σ H s) (hp : ∃ ps, H P = some (.tbl ps)) : s.heap.Ns mainGlobals X.mg ∧ CodeHd s.heap c P ∧ mainGlobals ≠ P ∧ s.heap.BuiltinsAt X.mg P := by
  have G : s.heap.Ns mainGlobals X.mg := I.mod.glob.keeps I.bk
  have gP : mainGlobals ≠ P := fun z => by
    obtain ⟨o, _, _, e, _⟩ := I.mod.glob
    rw [z, LB.out] at e; cases e
  obtain ⟨bm, ob, b1, b2, b3, b4, b5, b6⟩ := LB.bm
  refine ⟨G, LB.hd.keeps I.bk, gP, bm, ob, b1, b2, fun z => ?_, fun z => ?_, I.bk _ _ b3, b4, b5, b6⟩
  · obtain ⟨o, es, ep, e, hd, _⟩ := I.mod.glob
    rw [← z, b3] at e; cases e; rw [b6] at hd; cases hd
  · rw [z, LB.out] at b3; cases b3
theorem Inv.pin1 {f : Addr} {o : Obj} (I : Inv X pins σ H s) (c : CLoc X pins H f) (e : s.heap.get? f = some o) (hf : f ∉ X.fs) (d : ∀ v, o.data ≠ .cell v) : Inv X ((f, o) :: pins) σ H s :=
  I.pins_of fun p hp => by
    rcases List.mem_cons.mp hp with rfl | hp
    · exact ⟨e, c.free, c.ne, hf, d⟩
    · exact I.pin p (List.mem_append_right _ hp)
theorem Inv.cloc {f : Addr} (I : Inv X pins σ H s) (h : s.heap.objs.size ≤ f) : CLoc X pins H f := by
  obtain ⟨g0, g1, g2, g3, g4, g5⟩ := I.fpOk h (I.hok.fresh h)
  exact ⟨g0, g1, Nat.le_trans I.sz h, g4, g5⟩
theorem lam_make (LB : LamB X.base X.mg c P) (hcode : X.env.code = .ref c) (hcl : closureFor sc X.env = pure cl) (I : Inv X pins σ H s) (t : LamT P pos q H)
    (h : ∀ (f c' : Addr) (pm ctv : Value) (H' : Hp) (s' : Shared), Inv X ((f, kla_obj "<lambda>" q params body sc cl pm c' ctv) :: pins) σ H' s' → H' c' = some (CodeO c' q) → CLoc X pins H' f → Lam1 P pos q H' → SmL P H H' → (Lam1 P pos q H → H = H') → (∀ b, H' b = none → H b = none) → Q (.ref f) s') :
    wpAny M A (makeFunction "<lambda>" q params (.expr body) sc X.env [] [] [] pos pos.line) Q E s := by
  rcases t with t | ⟨c', t1, t2⟩
  · obtain ⟨G, C, gP, B⟩ := LB.at I ⟨_, t⟩
    have hP : s.heap.get? P = some (tabObj #[]) := I.hok P _ t
    refine kla_makeFunction (mg := X.mg) hcl I.ok.glob G hcode C hP trivial (among_nil pos) gP B fun c' ctv h' tk hx hge hlt hrec htb => ?_
    have hc' : H c' = none := I.hok.fresh hge
    have cP : c' ≠ P := fun z => by rw [z, t] at hc'; cases hc'
    have nP : ∀ {b : Addr}, H b = none → b ≠ P := fun e z => by rw [z, t] at e; cases e
    have htb' : h'.get? P = some (tabObj (#[] ++ #[rawInt pos.line, rawInt pos.col, .ref c'])) := htb
    have ht0 : ((#[] : Array Value) ++ #[rawInt pos.line, rawInt pos.col, .ref c']) = #[rawInt pos.line, rawInt pos.col, .ref c'] := rfl
    generalize eH : upd (upd H P (.tbl #[rawInt pos.line, rawInt pos.col, .ref c'])) c' (CodeO c' q) = H'
    have hb : ∀ {b : Addr}, b ≠ P → b ≠ c' → H' b = H b := fun n1 n2 => by rw [← eH, upd_ne n2, upd_ne n1]
    have hPH : H' P = some (.tbl #[rawInt pos.line, rawInt pos.col, .ref c']) := by rw [← eH, upd_ne (Ne.symm cP), upd_same]
    have hcH : H' c' = some (CodeO c' q) := by rw [← eH, upd_same]
    have ne' : ∀ {b : Addr} {o : Obj}, s.heap.get? b = some o → b ≠ c' := fun e => Nat.ne_of_lt (Nat.lt_of_lt_of_le (Heap.lt_size e) hge)
    have neH : ∀ {b : Addr} {u : HO}, H b = some u → b ≠ c' := fun e z => by rw [z, hc'] at e; cases e
    have U : Un X.fs [] H H' s.heap h' := ⟨fun b o e n _ _ => hx b o (nP n) e, fun b o e n _ _ => ⟨o.slots, hx b o (nP n) e⟩, fun b o e n _ => by rw [hb (nP n) (ne' e)]; exact n, fun b o e _ => by
        by_cases z : b = P
        · rw [z]; exact ⟨_, htb⟩
        · exact ⟨o, hx b o z e⟩, fun b xs e => by
        rw [hb (fun z => by rw [z, t] at e; cases e) (neH e)]; exact e, fun b o u e => by
        rw [hb (fun z => by rw [z, t] at e; cases e) (neH e)]; exact e, fun b ps e => by
        by_cases z : b = P
        · rw [z, t] at e
          cases e
          exact ⟨#[rawInt pos.line, rawInt pos.col, .ref c'], by rw [z, hPH]; rfl⟩
        · exact ⟨#[], by rw [hb z (neH e), e]; simp⟩⟩
    have hok : HOk X.prog X.w H' h' := fun a o e => by
      by_cases z : a = P
      · subst z
        rw [hPH] at e
        cases e
        exact htb
      · by_cases z2 : a = c'
        · subst z2
          rw [hcH] at e
          cases e
          exact codeO_ok hrec
        · rw [hb z z2] at e
          refine (I.hok a o e).stay (fun b u hbu g => ?_) (fun b g => ?_) fun b xs g => ?_
          · refine hx b u (fun y => ?_) g
            rcases hbu with rfl | hbu
            · exact z y
            · rw [y, t] at hbu; cases hbu
          · rw [hb (fun y => by rw [y, t] at g; cases g) (neH g)]; exact g
          · rw [hb (fun y => by rw [y, t] at g; cases g) (neH g)]; exact g
    have I1 : Inv X pins σ H' { s with heap := h', toks := tk } := I.un U hok
    have I2 := I1.kept (t' := tk) (h' := h'.push (kla_obj "<lambda>" q params body sc cl ((X.mg "__name__").getD .none) c' ctv)) fun b u e => Heap.get?_push_of_some _ e
    have cf : CLoc X pins H' h'.objs.size := I1.cloc (Nat.le_refl _)
    refine h _ c' _ ctv H' _ (I2.pin1 cf (Heap.get?_push_size _ rfl) (I1.nofs (Nat.le_refl _)) (fun v z => by cases z)) hcH cf ⟨c', hPH, hcH⟩ (fun b u n e => by rw [hb n (neH e)]; exact e) (fun ⟨_, y, _⟩ => by rw [t] at y; cases y) fun b e => ?_
    rw [hb (fun z => by rw [z, hPH] at e; cases e) (fun z => by rw [z, hcH] at e; cases e)] at e
    exact e
  · obtain ⟨G, C, gP, B⟩ := LB.at I ⟨_, t1⟩
    have hP : s.heap.get? P = some (tabObj #[rawInt pos.line, rawInt pos.col, .ref c']) := I.hok P _ t1
    refine kla_makeFunctionHit (mg := X.mg) hcl I.ok.glob G hcode C hP trivial (among_one pos c') B fun ctv h' tk hk hsz => ?_
    have I1 : Inv X pins σ H { s with heap := h', toks := tk } := I.kept hk
    have I2 := I1.kept (t' := tk) (h' := h'.push (kla_obj "<lambda>" q params body sc cl ((X.mg "__name__").getD .none) c' ctv)) fun b u e => Heap.get?_push_of_some _ e
    have cf : CLoc X pins H h'.objs.size := I1.cloc (Nat.le_refl _)
    exact h _ c' _ ctv H _ (I2.pin1 cf (Heap.get?_push_size _ rfl) (I1.nofs (Nat.le_refl _)) (fun v z => by cases z)) t2 cf ⟨c', t1, t2⟩ (fun _ _ _ e => e) (fun _ => rfl) fun _ e => e
end
def Cx.inLam (X : Cx) (A : Around) (Nc : List Str) (q : Str) (sc : Scope) (cl : List (Str × Addr)) (f c' : Addr) (s : Shared) (H : Hp) : Cx :=
  { X with A := A.deeper (envX q sc s.heap.objs.size f (.ref c') cl), N := Nc, s₀ := s, H₀ := H, env := envX q sc s.heap.objs.size f (.ref c') cl, outer := X.stack, stack := envX q sc s.heap.objs.size f (.ref c') cl :: X.stack, ex := [], fn := fun _ => false, calm := true, pn := [], xe := fun _ _ => False }
section
variable {X : Cx} {pins : List (Addr × Obj)} {σ : St} {H : Hp} {s : Shared} {params : Arguments} {body : Expr} {sc fsc : Scope} {cl : List (Str × Addr)} {q x : Str} {A : Around} {N Nc : List Str} {f c' : Addr} {te : TE} {E : Value → Shared → Prop}
theorem inv_lam (hE : X.env.scope = fsc) (hXN : X.N = N) (cn : CompN N Nc x sc fsc)
    (clS : ∀ y c, cl.lookup y = some c → X.env.cells.lookup y = some c) (clH : ∀ y ∈ sc.names, y.2 = .free → ∃ c, cl.lookup y.1 = some c) (hA : A.frames = X.A.frames) (hh : A.handled = none)
    (I : Inv X pins σ H s) {v : V} {u : Value} (rv : RelV v u) {h₁ : Heap} {tk : Nat} (hns : h₁.Ns s.heap.objs.size fun y => [(x, u)].reverse.lookup y) (old : ∀ b o, s.heap.get? b = some o → h₁.get? b = some o) :
    Inv (X.inLam A Nc q sc cl f c' s H) [] (σ ++ [some v]) H { s with heap := h₁, toks := tk } := by
  have hlen : σ.length = N.length := by rw [I.len, hXN]
  have noE : ∀ b : Addr, b ∉ (X.inLam A Nc q sc cl f c' s H).ex := fun b z => absurd (show b ∈ ([] : List Addr) from z) (by simp)
  have freeOf : ∀ y, sc.names.lookup y = some .free → ∃ c, cl.lookup y = some c := fun y e => clH (y, .free) (PySem.mem_of_lookup e) rfl
  have noCell : ∀ y, sc.names.lookup y ≠ some .cell := fun y e => cn.cell (y, .cell) (PySem.mem_of_lookup e) rfl
  refine ⟨⟨I.ok.mod, cn.kind, rfl, rfl, Nat.le_refl _, fun y z c e1 e2 => I.ok.inj y z c (clS _ _ e1) (clS _ _ e2), fun y hy => ?_, fun y c z => absurd (show false = true from z) Bool.false_ne_true, fun _ => hh, Around.frames_deeper (hA.trans I.ok.frames), .inr ⟨rfl, rfl⟩, fun b z => absurd z (noE b), I.bs, Nat.le_trans I.ok.bsz I.sz, fun b _ _ => noE b, fun b z => absurd z (noE b), I.stack, I.stkFree⟩,
    rfl, I.bare, Un.kept old, ⟨_, hns, fun i y v' h1 h2 h3 => ?_⟩, fun y c e => ?_, I.hok.fresh (Nat.le_refl _), fun y c e => I.freeC y c (clS y c e), fun p hp => absurd (show p ∈ ([] : List (Addr × Obj)) from hp) (by simp), I.hok.kept old, ?_⟩
  · have hy : sc.names.lookup y = some .cell ∨ sc.names.lookup y = some .free := hy
    rcases hy with hy | hy
    · exact absurd hy (noCell y)
    · exact freeOf y hy
  · have h1 : Nc[i]? = some y := h1
    have h3 : sc.names.lookup y = some .local ∨ sc.names.lookup y = some .cell ∨ sc.names.lookup y = some .free := h3
    by_cases hi : i < N.length
    · obtain ⟨n1, n2, n3⟩ := cn.at hi h1
      have hf : sc.names.lookup y = some .free := by
        rcases h3 with z | z | z
        · exact absurd z n1
        · exact absurd z n2
        · exact z
      rw [List.getElem?_append_left (by omega)] at h2
      have hN : X.N[i]? = some y := by rw [hXN]; exact n3 hf
      obtain ⟨m, hn, hl⟩ := I.loc
      have hv : fsc.names.lookup y = some .cell ∨ fsc.names.lookup y = some .free := cn.fr (y, .free) (PySem.mem_of_lookup hf) rfl
      have hv' : X.env.scope.names.lookup y = some .cell ∨ X.env.scope.names.lookup y = some .free := by rw [hE]; exact hv
      obtain ⟨u', ru, lk⟩ := hl i y v' hN h2 (.inr hv')
      refine ⟨u', ru, .inr ⟨.inr hf, ?_⟩⟩
      rcases lk with ⟨kl, _⟩ | ⟨_, c, hc, hcell⟩
      · exfalso
        have kl' : X.env.scope.names.lookup y = some .local := kl
        rw [kl'] at hv'
        rcases hv' with z | z <;> cases z
      · obtain ⟨d, hd⟩ := freeOf y hf
        have ed := clS y d hd
        rw [hc] at ed
        cases ed
        exact ⟨c, hd, hcell.keeps old⟩
    · have hi' : i < (σ ++ [some v]).length := (List.getElem?_eq_some_iff.mp h2).1
      rw [List.length_append, List.length_singleton] at hi'
      have ei : i = N.length := by omega
      subst ei
      rw [cn.last] at h1
      cases h1
      rw [List.getElem?_append_right (by omega), hlen, Nat.sub_self] at h2
      cases h2
      exact ⟨u, rv, .inl ⟨cn.own, by simp⟩⟩
  · obtain ⟨w, z⟩ := I.cell y c (clS y c e)
    exact ⟨w, z.keeps old⟩
  · show (σ ++ [some v]).length = Nc.length
    rw [List.length_append, hlen, cn.len]
    rfl
theorem lam_call (hE : X.env.scope = fsc) (hXN : X.N = N) (cn : CompN N Nc x sc fsc) (hco : sc.isCoroutine = false) (hgen : sc.isGenerator = false)
    (clS : ∀ y c, cl.lookup y = some c → X.env.cells.lookup y = some c) (clH : ∀ y ∈ sc.names, y.2 = .free → ∃ c, cl.lookup y.1 = some c) (hA : A.frames = X.A.frames) (hh : A.handled = none) (hroom : A.depth < recursionLimit)
    (he : ∀ s H, PE (X.inLam A Nc q sc cl f c' s H) body te)
    (hbind : ∀ pm ctv u, bindArgs (kla_fn "<lambda>" q params body sc cl pm (.ref c') ctv) ⟨[u], []⟩ = pure [(x, u)])
    (I : Inv X pins σ H s) {pm ctv : Value} (hf : (f, kla_obj "<lambda>" q params body sc cl pm c' ctv) ∈ pins) (hc : H c' = some (CodeO c' q)) {v : V} {u : Value} (rv : RelV v u) {R : VK} (h : te (σ ++ [some v]) H R) :
    wpAny (model X.prog X.w) A (call (.ref f) [u]) (fun u' s' => ∃ y H', Inv X pins σ H' s' ∧ RelV y u' ∧ R y H') E s := by
  have lim : s.heap.NoLimit := I.nolimit
  refine wpAny_call (kla_callFunE hroom (I.pin _ (List.mem_append_right _ hf)).1 rfl hco hgen rfl (codeO_rec (I.hok _ _ hc)) ?_)
  rw [hbind]
  refine wpAny_pure (wpAny_newFunctionEnv cn.cell (fun y hy => ?_) (fun h₁ hns hsb => ⟨lim.fresh _ hsb, ?_⟩) cn.kind)
  · rw [List.mem_singleton.mp hy]
    exact cn.own
  · show codeAny _ _ (.expr body (envX q sc s.heap.objs.size f (.ref c') cl)) _ _
    have old : ∀ b o, s.heap.get? b = some o → h₁.get? b = some o := fun b o e => hsb.extBut b o (Nat.ne_of_lt (Heap.lt_size e)) (Heap.get?_push_of_some _ e)
    have Ic := inv_lam (q := q) (f := f) (c' := c') (tk := s.toks + [(x, u)].length) hE hXN cn clS clH hA hh I rv hns old
    refine kla_codeExpr (wpAny_mono (he s H [] _ (σ ++ [some v]) H R Ic h) (fun u' s' ⟨y, H', I', r', q'⟩ => ?_) fun _ _ z => z.elim)
    exact ⟨y, H', I.call' (ch := []) I'.os I'.base I'.hok I'.bare (fun b hb => absurd hb (by simp)), r', q'⟩
end
section
variable {X : Cx} {pins : List (Addr × Obj)} {σ : St} {H : Hp}
theorem Inv.sub {ps : List (Addr × Obj)} {s : Shared} (I : Inv X pins σ H s) (h : ∀ p ∈ ps, p ∈ pins) : Inv X ps σ H s := I.pins_of fun p hp => I.pin p (List.mem_append_right _ (h p hp))
variable {xs : List V} {l f I S : Addr}
end
theorem Fun.okC {P : Program} {w : World} {K : PySem.W.Frag} {mg : Str → Option Value} {base : Heap} {x qual : Str} {st : Stmt} {f : Addr} {fd : FuncData} {N ps : List Str} {k : Nat} {sp : Sp} (F : Fun K x qual st f fd) (S : FnScope N ps (defScope st)) (len : ∀ vs H Q E, sp vs H Q E → vs.length = ps.length)
    (hbody : ∀ (cdv : Value), fd.code = cdv → ∀ (A : Around) (outer : List Env) (s : Shared) (H : Hp) (vs : List V) (Q : VK) (E : XK), Room k (A.deeper (envOfC qual (defScope st) s.heap.objs.size f cdv)) → sp vs H Q E →
      ∃ t, PSs (cxOf CX0 P w K mg base N qual (defScope st) f cdv A outer s H E).nox (defBody st) t ∧ t { nx := fun _ H' => Q .non H', rt := Q } (start N vs) H) : FnOk P w K mg base CX0 (k + 1) f fd ps sp := by
  obtain ⟨oc, od, kV, doc, pm, an, cdv, ct, osl, rfl, lk, hcd⟩ := F.ex
  refine fn_of lk hcd S len fun A outer s H vs Q E hr hsp => ?_
  obtain ⟨t, h, q⟩ := hbody cdv rfl A outer s H vs Q E hr hsp
  exact ⟨t, h.nox, q⟩
section
variable {M : Model} {A : Around} {E : Value → Shared → Prop} {s : Shared} {env : Env}
theorem with_kwB {pos : Pos} {T : String} {e : Expr} {kws : List Keyword} {Q : Value → Shared → Prop}
    (h : wpAny M A (spliced (backTo pos (starEach [e] env))) (fun vs z => wpAny M A (evalAll ((backToKw pos (keywordEach kws env)).map (·.2))) (fun us y => wpAny M A (call (.builtin T) vs (((backToKw pos (keywordEach kws env)).filterMap (·.1)).zip us)) Q E y) E z) E s)
    (he : backTo pos (starEach [e] env) = (false, eval e env) :: backTo pos (starEach [] env)) (hp : (backTo pos (starEach [e] env)).any (·.1) = false)
    (ha : (backToKw pos (keywordEach kws env)).all (·.1.isSome) = true) (hk : (backToKw pos (keywordEach kws env)).any (·.1.isNone) = false) :
    wpAny M A (callWith pos (.builtin T) [] (backTo pos (starEach [e] env)) (backToKw pos (keywordEach kws env))) Q E s := by
  unfold callWith
  have y : wpAny M A (evalArgs (.builtin T) true (backTo pos (starEach [e] env)) (backToKw pos (keywordEach kws env))) (fun a z => wpAny M A (call (.builtin T) ([] ++ a.pos) a.kw) Q E z) E s := by
    rw [he] at h ⊢
    exact evalArgs_kwB ha h
  refine wpAny_bind (wpAny_holding (wpAny_mono y (fun a z q => wpAny_bind (wpAny_standAt ?_)) fun _ _ x => x))
  simp only [hp, hk, Bool.or_false]
  refine wpAny_bind (wpAny_pure (wpAny_bind ?_))
  exact wpAny_mono q (fun r z hr => wpAny_bind (wpAny_holding (wpAny_point (wpAny_pure hr)))) fun _ _ x => x
end
section
variable {X : Cx} {c P : Addr} {e body : Expr} {tl tb : TE} {sc fsc : Scope} {N Nc : List Str} {x : Str} {params : Arguments} {lpos kp p pos : Pos}
end
def noTab (K : PySem.W.Frag) : Bool := K.all fun p => match p.2.data with
  | .fields v => !(v.isEmpty && p.2.cls == Value.none)
  | _ => true
theorem mem_look {α : Type} {a : Addr} {v : α} : ∀ {l : List (Addr × α)}, l.lookup a = some v → (a, v) ∈ l
  | (k, u) :: r, h => by
    rw [List.lookup_cons] at h
    cases hx : (a == k) with
    | true =>
      rw [hx] at h
      have e : a = k := by simpa using hx
      cases h
      rw [e]
      exact List.mem_cons_self ..
    | false =>
      rw [hx] at h
      exact List.mem_cons_of_mem _ (mem_look h)
theorem noTab_look {K : PySem.W.Frag} (h : noTab K = true) {P : Addr} : K.lookup P ≠ some (tabObj #[]) := fun e => by
  have := List.all_eq_true.mp h _ (mem_look e)
  exact absurd (show (!((#[] : Array Value).isEmpty && (Value.none == Value.none))) = true from this) (by decide)
theorem law_callT {P : Program} {w : World} {K : PySem.W.Frag} {mg mb : Str → Option Value} {CX : CXT} {k : Nat} {fa a c Pt : Addr} {fd : FuncData} {x : Str} {sp : Sp} {s₁ : Shared} {vs : List Value} {ns : List Int}
    (KX : K.In s₁.heap) (hnt : noTab K = true) (hns : s₁.heap.Ns mainGlobals mg) (hb : s₁.heap.Ns builtinsNs mb) (hbb : ∀ x : Str, x ≠ "__name__" → mb x = bootBuiltins x) (hlim : s₁.heap.NoLimit) (hg : s₁.gens = #[])
    (ha : s₁.heap.get? a = some { cls := .type "list", data := .seq vs.toArray }) (hi : IntsAre vs ns) (hl : ns.length ≤ sizeLine) (hr : Room k callerA)
    (hco : s₁.heap.IsCode c Pt #[]) (hta : s₁.heap.TableAt c Pt #[]) (hbm : ∃ bm ob, mg "__builtins__" = some (.ref bm) ∧ bm ≠ builtinsNs ∧ s₁.heap.get? bm = some ob ∧ ob.cls = .type "module" ∧ ob.dict = some builtinsNs ∧ ob.data = .plain)
    (F : ∀ base : Heap, K.In base → base.Ns mainGlobals mg → LamB base mg c Pt → FnOk P w K mg base CX k fa fd [x] sp) (hbind : ∀ (s : Shared) (u : Value), BindsTo s fd ⟨[u], []⟩ [(x, u)])
    (hsp : ∀ H : Hp, H Pt = some (.tbl #[]) → SqL K H a (ns.map V.int) → sp [.ref a] H (fun v _ => v = .bl true) fun _ _ _ => False)
    (hCX : ∀ H e s', CX [] H s₁ (fun _ _ _ => False) e s' → False) :
    codeAny (model P w) callerA (.call (.ref fa) ⟨[.ref a], []⟩) (fun r s' => r = .ok (.ret (.bool true)) ∧ OldK s₁.heap s'.heap ∧ s'.os = s₁.os ∧ AllBare s'.gens) s₁ := by
  have rv := vals_ints hi
  have lenV := hi.length
  have hPt : s₁.heap.get? Pt = some (tabObj #[]) := hta.2
  have aP : a ≠ Pt := fun z => by rw [z, hPt] at ha; cases ha
  have kP : K.lookup Pt = none := by
    cases e : K.lookup Pt with
    | none => rfl
    | some o =>
      have := KX _ _ e
      rw [hPt] at this
      rw [← Option.some.inj this] at e
      exact absurd e (noTab_look hnt)
  have core : ∀ H : Hp, (∀ b, H b = none ∨ (b = Pt ∧ H b = some (.tbl #[])) ∨ (b = a ∧ ∃ o xs, H b = some (.frz o (.lst xs)))) → H Pt = some (.tbl #[]) → SqL K H a (ns.map V.int) → HOk P w H s₁.heap → (H a ≠ none → K.lookup a = none) →
      codeAny (model P w) callerA (.call (.ref fa) ⟨[.ref a], []⟩) (fun r s' => r = .ok (.ret (.bool true)) ∧ OldK s₁.heap s'.heap ∧ s'.os = s₁.os ∧ AllBare s'.gens) s₁ := by
    intro H hO hP hS hok hK
    have base_of : ∀ {b : Addr} {o : Obj}, s₁.heap.get? b = some o → H b = none → (hidT s₁.heap H).get? b = some o := fun e n => hidT_get e n
    have other : ∀ {b : Addr} {o : Obj}, s₁.heap.get? b = some o → o.cls ≠ .type "list" → (o.cls ≠ .none ∨ ∀ v, o.data ≠ .fields v) → H b = none := fun {b o} e n1 n2 => by
      rcases hO b with z | ⟨z, _⟩ | ⟨z, _⟩
      · exact z
      · subst z
        rw [hPt] at e; cases e
        rcases n2 with n2 | n2
        · exact absurd rfl n2
        · exact absurd rfl (n2 _)
      · subst z
        rw [ha] at e; cases e
        exact absurd rfl n1
    have noA : ∀ {b : Addr} {o : Obj} {es : Array DictEntry} {ep : Nat}, s₁.heap.get? b = some o → o.data = .dict es ep → H b = none := fun {b o es ep} e d => by
      rcases hO b with z | ⟨z, _⟩ | ⟨z, _⟩
      · exact z
      · subst z; rw [hPt] at e; cases e; cases d
      · subst z; rw [ha] at e; cases e; cases d
    have nsK : ∀ {b : Addr} {m : Str → Option Value}, s₁.heap.Ns b m → (hidT s₁.heap H).Ns b m := fun {b m} ⟨o, es, ep, e, d, r⟩ => ⟨o, es, ep, base_of e (noA e d), d, r⟩
    have hKb : K.In (hidT s₁.heap H) := fun b o e => base_of (KX b o e) (by
      rcases hO b with z | ⟨z, _⟩ | ⟨z, y⟩
      · exact z
      · subst z; rw [kP] at e; cases e
      · subst z
        cases q : H b with
        | none => rfl
        | some u => rw [hK (by rw [q]; simp)] at e; cases e)
    have hM : Mod K mg (hidT s₁.heap H) := ⟨hKb, nsK hns, ⟨mb, nsK hb, hbb⟩, let ⟨mc, h1, h2⟩ := hlim; ⟨mc, nsK h1, h2⟩⟩
    have LB : LamB (hidT s₁.heap H) mg c Pt := by
      refine ⟨?_, ?_, ?_⟩
      · obtain ⟨o, vs', file, tf, flags, tg, inF, text, tt, e, ec, r⟩ := CodeHd.of hco hta
        exact ⟨o, vs', file, tf, flags, tg, inF, text, tt, base_of e (other e (by rw [ec]; decide) (.inl (by rw [ec]; decide))), ec, r⟩
      · obtain ⟨bm, ob, b1, b2, b3, b4, r⟩ := hbm
        exact ⟨bm, ob, b1, b2, base_of b3 (other b3 (by rw [b4]; decide) (.inl (by rw [b4]; decide))), b4, r⟩
      · cases e : (hidT s₁.heap H).get? Pt with
        | none => rfl
        | some o => rw [(of_hidT e).2] at hP; cases hP
    have e0 : Env0 P w K mg (hidT s₁.heap H) callerA [] s₁ H := ⟨rfl, hM, fun b o e => of_hidT e, Nat.le_of_eq (hidT_size _ _), trivial, fun b hb => absurd (show b ∈ ([] : List Addr) from hb) (by simp), hok, .of_eq hg⟩
    refine codeAny_mono ((F _ hKb (nsK hns) LB).run callerA [] s₁ H ⟨[.ref a], []⟩ [.ref a] [.ref a] _ _ hr e0 (hbind s₁ (.ref a)) (.cons rfl .nil) (hsp H hP hS)) fun r s' h => ?_
    cases r with
    | error e => exact (hCX H e s' h).elim
    | ok fl =>
      cases fl with
      | next => exact False.elim h
      | brk => exact False.elim h
      | cont => exact False.elim h
      | ret u =>
        obtain ⟨v, H', os, bare, un, hok', r', q⟩ := h
        have q' : v = .bl true := q
        subst q'
        obtain rfl : u = Value.bool true := r'
        refine ⟨rfl, ⟨fun b o e => ?_, fun b o e => un.there b o e (by simp)⟩, os, bare⟩
        rcases hO b with z | ⟨z, y⟩ | ⟨z, ob, xs, y⟩
        · exact .inl (un.keep b o e z (by intro z; exact absurd (show b ∈ ([] : List Addr) from z) (by simp)) (by simp))
        · subst z
          rw [hPt] at e; cases e
          obtain ⟨more, z2⟩ := un.tbls b _ y
          exact .inr (.inl ⟨hta.isCodeTable, rfl, #[], more, rfl, hok' b _ z2⟩)
        · have z2 := un.frzs b ob _ y
          obtain ⟨e1, _⟩ := hok b _ y
          obtain ⟨e2, _⟩ := hok' b _ z2
          rw [e] at e1; cases e1
          exact .inl e2
  cases hk : K.lookup a with
  | some o =>
    have e := KX a o hk
    rw [ha] at e
    cases e
    refine core (fun b => if b = Pt then some (.tbl #[]) else none) (fun b => ?_) (if_pos rfl) (.inr ⟨_, vs.toArray, _, hk, rfl, rfl, rfl, by rw [List.size_toArray, lenV]; exact hl, by simpa using rv⟩) (fun b u z => ?_) fun z => absurd (if_neg aP) z
    · by_cases hb : b = Pt
      · exact .inr (.inl ⟨hb, if_pos hb⟩)
      · exact .inl (if_neg hb)
    · by_cases hb : b = Pt
      · have z' := (if_pos hb).symm.trans z
        cases z'
        subst hb
        exact hPt
      · have z' := (if_neg hb).symm.trans z
        cases z'
  | none =>
    refine core (fun b => if b = Pt then some (.tbl #[]) else if b = a then some (.frz { cls := .type "list", data := .seq vs.toArray } (.lst (ns.map V.int))) else none) (fun b => ?_) (if_pos rfl) (.inl (.inr ⟨{ cls := .type "list", data := .seq vs.toArray }, (if_neg aP).trans (if_pos rfl)⟩)) (fun b u z => ?_) fun _ => hk
    · by_cases hb : b = Pt
      · exact .inr (.inl ⟨hb, if_pos hb⟩)
      · by_cases hb2 : b = a
        · exact .inr (.inr ⟨hb2, _, _, (if_neg hb).trans (if_pos hb2)⟩)
        · exact .inl ((if_neg hb).trans (if_neg hb2))
    · by_cases hb : b = Pt
      · have z' := (if_pos hb).symm.trans z
        cases z'
        subst hb
        exact hPt
      · have z := (if_neg hb).symm.trans z
        by_cases hb2 : b = a
        · have z' := (if_pos hb2).symm.trans z
          cases z'
          subst hb2
          exact ⟨ha, by rw [List.length_map]; exact hl, vs, _, rv, ha⟩
        · have z' := (if_neg hb2).symm.trans z
          cases z'
theorem walk_of1 {l : PySem.W.OpenLaw} {n k : Nat} {q : Program} {loose : List Str} {XP : (Str → Option Value) → Heap → Prop} {YP : World → Heap → Prop} {d dn : DefRec} {K : Params → PySem.W.Frag} {CX : World → CXT} {sp : World → Addr → Sp} {x : Str}
    (hn : l.most = some n) (hn2 : n ≤ sizeLine) (hdf : d.params.defaults = []) (hr : Room k callerA)
    (hY : ∀ (w : World) (h : Heap), YP w h → (K w.params).In h) (hnt : ∀ p, noTab (K p) = true) (hdn : dn ∈ recsOf q)
    (F : ∀ (w : World) (mg : Str → Option Value) (fa f c Pt : Addr) (h : Heap), (K w.params).In h → h.Ns mainGlobals mg → mg d.name = some (.ref fa) → mg dn.name = some (.ref f) → (∃ o fd, h.get? f = some o ∧ o.data = .func fd ∧ fd.code = .ref c) →
      ∃ fd : FuncData, (∀ (s : Shared) (u : Value), BindsTo s fd ⟨[u], []⟩ [(x, u)]) ∧
        ∀ base : Heap, (K w.params).In base → base.Ns mainGlobals mg → LamB base mg c Pt → FnOk l.prog w (K w.params) mg base (CX w) k fa fd [x] (sp w Pt))
    (hsp : ∀ (w : World) (Pt : Addr) (H : Hp) (a : Addr) (ns : List Int), ns.length ≤ n → H Pt = some (.tbl #[]) → SqL (K w.params) H a (ns.map V.int) → sp w Pt [.ref a] H (fun v _ => v = .bl true) fun _ _ _ => False)
    (hCX : ∀ (w : World) (H : Hp) (s : Shared) (e : Value) (s' : Shared), CX w [] H s (fun _ _ _ => False) e s' → False) :
    PySem.W.WalkO q loose XP YP l.row.toRowW d [] (fun f vs => PySem.call f vs) := by
  refine Att.attach_call hn hdf fun w s₀ s₁ mg mb fa o pm cd doc a vs ns G Y ho hd hcd hmg hobj hints hlen hg => ?_
  have KX := hY w _ Y
  obtain ⟨f, o', fd', c, Pt, t1, t2, t3, t4, t5, t6⟩ := G.T.tab dn hdn
  obtain ⟨fd, hb, hF⟩ := F w mg fa f c Pt _ KX G.T.g hmg t1 ⟨o', fd', t2, t3, t4⟩
  exact law_callT KX (hnt _) G.T.g G.T.b G.T.builtins G.T.nolimit hg hobj hints (Nat.le_trans hlen hn2) hr t5 t6 G.T.bmain hF hb (fun H hP hS => hsp w Pt H a ns hlen hP hS) fun H e s' => hCX w H s₁ e s'
end L2
namespace L2
open PySem PySem.W PySem.Spec PyProof.Rows
section
variable {prog : Program} {w : World} {A : Around} {E : Value → Shared → Prop} {s : Shared}
end
section
variable {prog : Program} {w : World} {A : Around} {E : Value → Shared → Prop} {s : Shared}
end
section
variable {X : Cx} {e e2 : Expr} {te te2 : TE} {p p2 p3 pos pos2 pos3 pos4 : Pos}
end
end L2
namespace L2
open PySem PySem.W PySem.Spec PyProof.Rows
section
variable {prog : Program} {w : World} {A : Around} {E : Value → Shared → Prop} {s : Shared} {Q : Bool → Shared → Prop}
end
section
variable {X : Cx}
end
end L2
namespace L2
open PySem PySem.Spec PyProof.Rows
section
variable {prog : Program} {w : World} {A : Around} {E : Value → Shared → Prop} {s : Shared} {d : Addr} {es : Array DictEntry} {ep : Nat}
end
section
variable {X : Cx}
end
section
variable {prog : Program} {w : World} {A : Around} {E : Value → Shared → Prop} {s : Shared}
end
section
variable {X : Cx}
end
end L2
namespace PySem
open Sem (wp)
section
variable {prog : Program} {w : World} {K : Type} [DecidableEq K] (knd : KeyKind prog w K)
variable {knd}
variable {A : Around} {E : Value → Shared → Prop} {s : Shared}
end
end PySem
namespace L2
open PySem PySem.Spec PyProof.Rows
section
variable {P : Program} {w : World} {H : Hp} {h : Heap} {a : Addr}
end
section
variable {X : Cx} {o i e value : Expr} {pos pos' tpos : Pos} {td ty tv : TE}
end
end L2
namespace L2
open PySem PySem.Spec PyProof.Rows
section
variable {prog : Program} {w : World} {A : Around} {E : Value → Shared → Prop} {s : Shared}
end
section
variable {prog : Program} {w : World} {A : Around} {E : Value → Shared → Prop} {s : Shared}
end
section
variable {X : Cx} {pins : List (Addr × Obj)} {σ : St} {H : Hp}
end
section
variable {X : Cx} {e : Expr} {te : TE} {p p2 pos pos2 : Pos}
end
end L2
namespace L2
open PySem PySem.Spec PyProof.Rows
section
variable {X : Cx} {pins : List (Addr × Obj)} {σ : St} {H : Hp}
end
end L2
namespace L2
open PySem PySem.Spec PyProof.Rows
end L2
namespace L2
open PySem PySem.W PySem.Spec PyProof.Rows
section
variable {O : KeyOrd} {ky : Nat → O.α} {n : Nat} {cmp : Nat → Nat → (Bool → Shared → Prop) → Shared → Prop} {J : Shared → Prop}
def Ah (ky : Nat → O.α) (a b : Nat) : Prop := O.kle (ky a) (ky b) ∧ (O.klt (ky a) (ky b) ∨ a < b)
def Stb (ky : Nat → O.α) (p : Array Nat) (m : Nat) : Prop := ∀ i j, i < j → j < m → Ah ky (p.getD i 0) (p.getD j 0)
structure Pre (n : Nat) (p : Array Nat) (m : Nat) : Prop where
  lo : ∀ i, i < m → p.getD i 0 < m
  hi : ∀ i, m ≤ i → i < n → p.getD i 0 = i
  sz : p.size = n
theorem gd_rev {p : Array Nat} {i j : Nat} (hj : j ≤ p.size) (k : Nat) : (kas_rev p i j).getD k 0 = if i ≤ k ∧ k < j then p.getD (i + j - 1 - k) 0 else p.getD k 0 := by
  have e := getElem?_mirror_all (xs := p) (i := i) hj k
  unfold kas_rev
  by_cases c : i ≤ k ∧ k < j
  · rw [if_pos c] at e ⊢
    rw [getD_of e]
  · rw [if_neg c] at e ⊢
    rw [getD_of e]
theorem gd_bub {p : Array Nat} {src d : Nat} (hs : src < p.size) (hd : d ≤ src) (k : Nat) :
    (bubble p src d).getD k 0 = if k = src - d then p.getD src 0 else if src - d < k ∧ k ≤ src then p.getD (k - 1) 0 else p.getD k 0 := by
  have e := getElem?_bubble hs d hd k
  by_cases c : k = src - d
  · rw [if_pos c] at e ⊢
    rw [getD_of e]
  · rw [if_neg c] at e ⊢
    by_cases c2 : src - d < k ∧ k ≤ src
    · rw [if_pos c2] at e ⊢
      rw [getD_of e]
    · rw [if_neg c2] at e ⊢
      rw [getD_of e]
theorem Pre.rev {p : Array Nat} {m i j : Nat} (h : Pre n p m) (hj : j ≤ m) (hn : m ≤ n) : Pre n (kas_rev p i j) m := by
  have hz := h.sz
  refine ⟨fun k hk => ?_, fun k hk hl => ?_, (mirror_size ..).trans hz⟩
  · rw [gd_rev (by omega)]
    by_cases c : i ≤ k ∧ k < j
    · rw [if_pos c]; exact h.lo _ (by omega)
    · rw [if_neg c]; exact h.lo _ hk
  · rw [gd_rev (by omega), if_neg (by omega)]
    exact h.hi k hk hl
theorem Pre.succ {p : Array Nat} {m : Nat} (h : Pre n p m) (hm : m < n) : Pre n p (m + 1) := ⟨fun i hi => by
  by_cases c : i = m
  · rw [c, h.hi m (Nat.le_refl _) hm]; omega
  · have := h.lo i (by omega); omega, fun i hi hl => h.hi i (by omega) hl, h.sz⟩
theorem Pre.at {p : Array Nat} {m : Nat} (h : Pre n p m) (hm : m < n) : p.getD m 0 = m := h.hi m (Nat.le_refl _) hm
theorem Stb.srt {p : Array Nat} {m : Nat} (h : Stb ky p m) : Srt ky p m := fun i j hij hj => by
  by_cases c : i = j
  · rw [c]; exact KeyOrd.kle_refl _
  · exact (h i j (by omega) hj).1
theorem Stb.one {p : Array Nat} : Stb ky p 1 := fun i j hij hj => by omega
theorem Stb.succ {p : Array Nat} {m : Nat} (h : Stb ky p m) (r : Pre n p m) (h1 : 1 ≤ m) (hm : m < n) (c : O.kle (ky (p.getD (m - 1) 0)) (ky (p.getD m 0))) : Stb ky p (m + 1) := fun i j hij hj => by
  by_cases e : j = m
  · subst e
    have k : O.kle (ky (p.getD i 0)) (ky (p.getD j 0)) := KeyOrd.kle_trans (h.srt i (j - 1) (by omega) (by omega)) c
    exact ⟨k, .inr (by rw [r.at hm]; exact r.lo i (by omega))⟩
  · exact h i j hij (by omega)
theorem asc_st (ac : Asks O ky n cmp J) {p : Array Nat} (hp : Prm n p) {R : Nat → Shared → Prop} : ∀ (f a : Nat) (s : Shared), 1 ≤ a → a + f ≤ n → Stb ky p a → Pre n p a → J s →
    (∀ m s', a ≤ m → m ≤ a + f → Stb ky p m → Pre n p m → (m < a + f → O.klt (ky (p.getD m 0)) (ky (p.getD (m - 1) 0))) → J s' → R m s') → (kas_asc p f a).kasWp cmp R s
  | 0, a, s, h1, hz, hs, hr, hJ, k => k a s (Nat.le_refl _) (Nat.le_refl _) hs hr (fun h => absurd h (Nat.lt_irrefl _)) hJ
  | f + 1, a, s, h1, hz, hs, hr, hJ, k => by
    refine ac _ _ _ s (hp.lt (by omega)) (hp.lt (by omega)) hJ fun s' hJ' => ?_
    cases e : O.blt (ky (p.getD a 0)) (ky (p.getD (a - 1) 0)) with
    | true =>
      dsimp only
      rw [if_pos rfl]
      exact k a s' (Nat.le_refl _) (by omega) hs hr (fun _ => e) hJ'
    | false =>
      dsimp only
      rw [if_neg Bool.false_ne_true]
      refine asc_st ac hp f (a + 1) s' (by omega) (by omega) (hs.succ hr h1 (by omega) e) (hr.succ (by omega)) hJ' fun m s2 l1 l2 q1 q2 q3 q4 => ?_
      exact k m s2 (by omega) (by omega) q1 q2 (fun h => q3 (by omega)) q4
structure Dn (ky : Nat → O.α) (p : Array Nat) (m q : Nat) : Prop where
  fal : ∀ i j, i < j → j < m - (q + 1) → Ah ky (p.getD j 0) (p.getD i 0)
  cut : ∀ i j, i < m - (q + 1) → m - (q + 1) ≤ j → j < m → O.klt (ky (p.getD j 0)) (ky (p.getD i 0))
  eq : ∀ a b, m - (q + 1) ≤ a → a < m → m - (q + 1) ≤ b → b < m → O.kle (ky (p.getD a 0)) (ky (p.getD b 0))
  up : ∀ a b, m - (q + 1) ≤ a → a < b → b < m → p.getD a 0 < p.getD b 0
def Fll (ky : Nat → O.α) (p : Array Nat) (m : Nat) : Prop := ∀ i j, i < j → j < m → Ah ky (p.getD j 0) (p.getD i 0)
theorem Dn.fll {p : Array Nat} {m q : Nat} (h : Dn ky p m q) (hq : q + 1 ≤ m) (hz : m ≤ p.size) : Fll ky (kas_rev p (m - (q + 1)) m) m := fun i j hij hj => by
  rw [gd_rev hz, gd_rev hz]
  by_cases ci : m - (q + 1) ≤ i
  · rw [if_pos ⟨by omega, hj⟩, if_pos ⟨ci, by omega⟩]
    exact ⟨h.eq _ _ (by omega) (by omega) (by omega) (by omega), .inr (h.up _ _ (by omega) (by omega) (by omega))⟩
  · rw [if_neg (c := m - (q + 1) ≤ i ∧ i < m) (by omega)]
    by_cases cj : m - (q + 1) ≤ j
    · rw [if_pos ⟨cj, hj⟩]
      have k := h.cut i (m - (q + 1) + m - 1 - j) (by omega) (by omega) (by omega)
      exact ⟨KeyOrd.kle_of_klt k, .inl k⟩
    · rw [if_neg (by omega)]
      exact h.fal i j hij (by omega)
theorem Dn.fll0 {p : Array Nat} {m : Nat} (h : Dn ky p m 0) : Fll ky p m := fun i j hij hj => by
  by_cases cj : j < m - 1
  · exact h.fal i j hij (by omega)
  · have k := h.cut i j (by omega) (by omega) hj
    exact ⟨KeyOrd.kle_of_klt k, .inl k⟩
theorem Fll.srt {p : Array Nat} {m : Nat} (h : Fll ky p m) : Fal ky p m := fun i j hij hj => by
  by_cases c : i = j
  · rw [c]; exact KeyOrd.kle_refl _
  · exact (h i j (by omega) hj).1
theorem Fll.rev {p : Array Nat} {m : Nat} (hz : m ≤ p.size) (h : Fll ky p m) : Stb ky (kas_rev p 0 m) m := fun i j hij hj => by
  rw [gd_rev hz, gd_rev hz, if_pos ⟨Nat.zero_le _, by omega⟩, if_pos ⟨Nat.zero_le _, hj⟩]
  exact h _ _ (by omega) (by omega)
theorem Fll.more {p : Array Nat} {m : Nat} (h : Fll ky p m) (h1 : 1 ≤ m) (lt : O.klt (ky (p.getD m 0)) (ky (p.getD (m - 1) 0))) : Dn ky p (m + 1) 0 := by
  refine ⟨fun i j hij hj => h i j hij (by omega), fun i j hi h2 hj => ?_, fun a b h1 h2 h3 h4 => ?_, fun a b h1 h2 h3 => by omega⟩
  · have e : j = m := by omega
    rw [e]
    exact KeyOrd.klt_of_klt_of_kle lt (h.srt i (m - 1) (by omega) (by omega))
  · have e : a = b := by omega
    rw [e]
    exact KeyOrd.kle_refl _
theorem desc_st (ac : Asks O ky n cmp J) {R : Array Nat × Nat × Nat → Shared → Prop} : ∀ (f : Nat) (p : Array Nat) (m q : Nat) (s : Shared), Prm n p → q + 1 ≤ m → m + f ≤ n → Dn ky p m q → Pre n p m → J s →
    (∀ p' m' q' s', Prm n p' → q' + 1 ≤ m' → m ≤ m' → m' ≤ m + f → Dn ky p' m' q' → Pre n p' m' → J s' → R (p', m', q') s') →
    (kas_desc f p m q).kasWp cmp R s
  | 0, p, m, q, s, hp, hq, hz, hd, hr, hJ, k => k p m q s hp hq (Nat.le_refl _) (Nat.le_refl _) hd hr hJ
  | f + 1, p, m, q, s, hp, hq, hz, hd, hr, hJ, k => by
    have hsz := hp.size
    refine ac _ _ _ s (hp.lt (by omega)) (hp.lt (by omega)) hJ fun s' hJ' => ?_
    cases e : O.blt (ky (p.getD m 0)) (ky (p.getD (m - 1) 0)) with
    | true =>
      dsimp only
      rw [if_pos rfl]
      have lt : O.klt (ky (p.getD m 0)) (ky (p.getD (m - 1) 0)) := e
      by_cases c : q > 0
      · rw [if_pos c]
        have g1 := hd.fll hq (by omega)
        have lt' : O.klt (ky ((kas_rev p (m - (q + 1)) m).getD m 0)) (ky ((kas_rev p (m - (q + 1)) m).getD (m - 1) 0)) := by
          rw [gd_rev (by omega), gd_rev (by omega), if_neg (by omega), if_pos ⟨by omega, by omega⟩]
          exact KeyOrd.klt_of_klt_of_kle lt (hd.eq _ _ (by omega) (by omega) (by omega) (by omega))
        refine desc_st ac f (kas_rev p (m - (q + 1)) m) (m + 1) 0 s' (hp.rev _ _) (by omega) (by omega) (g1.more (by omega) lt') ((hr.rev (Nat.le_refl _) (by omega)).succ (by omega)) hJ' fun p' m' q' s2 a1 a2 a3 a4 a5 a6 a7 => ?_
        exact k p' m' q' s2 a1 a2 (by omega) (by omega) a5 a6 a7
      · rw [if_neg c]
        have q0 : q = 0 := by omega
        subst q0
        refine desc_st ac f p (m + 1) 0 s' hp (by omega) (by omega) (hd.fll0.more (by omega) lt) (hr.succ (by omega)) hJ' fun p' m' q' s2 a1 a2 a3 a4 a5 a6 a7 => ?_
        exact k p' m' q' s2 a1 a2 (by omega) (by omega) a5 a6 a7
    | false =>
      dsimp only
      rw [if_neg Bool.false_ne_true]
      refine ac _ _ _ s' (hp.lt (by omega)) (hp.lt (by omega)) hJ' fun s2 hJ2 => ?_
      cases e2 : O.blt (ky (p.getD (m - 1) 0)) (ky (p.getD m 0)) with
      | true =>
        dsimp only
        rw [if_pos rfl]
        exact k p m q s2 hp hq (Nat.le_refl _) (by omega) hd hr hJ2
      | false =>
        dsimp only
        rw [if_neg Bool.false_ne_true]
        have g1 : O.kle (ky (p.getD (m - 1) 0)) (ky (p.getD m 0)) := e
        have g2 : O.kle (ky (p.getD m 0)) (ky (p.getD (m - 1) 0)) := e2
        have hm : m < n := by omega
        refine desc_st ac f p (m + 1) (q + 1) s2 hp (by omega) (by omega) ⟨fun i j hij hj => hd.fal i j hij (by omega), fun i j hi h2 hj => ?_, fun a b a1 a2 b1 b2 => ?_, fun a b h1 h2 h3 => ?_⟩ (hr.succ hm) hJ2 fun p' m' q' s3 c1 c2 c3 c4 c5 c6 c7 => ?_
        · by_cases ej : j = m
          · rw [ej]
            exact KeyOrd.klt_of_kle_of_klt g2 (hd.cut i (m - 1) (by omega) (by omega) (by omega))
          · exact hd.cut i j (by omega) (by omega) (by omega)
        · by_cases ea : a = m
          · by_cases eb : b = m
            · rw [ea, eb]
              exact KeyOrd.kle_refl _
            · rw [ea]
              exact KeyOrd.kle_trans g2 (hd.eq (m - 1) b (by omega) (by omega) (by omega) (by omega))
          · by_cases eb : b = m
            · rw [eb]
              exact KeyOrd.kle_trans (hd.eq a (m - 1) (by omega) (by omega) (by omega) (by omega)) g1
            · exact hd.eq a b (by omega) (by omega) (by omega) (by omega)
        · by_cases eb : b = m
          · rw [eb, hr.at hm]
            exact hr.lo a (by omega)
          · exact hd.up a b (by omega) h2 (by omega)
        · exact k p' m' q' s3 c1 c2 (by omega) (by omega) c5 c6 c7
theorem tail3_st (ac : Asks O ky n cmp J) {p : Array Nat} (hp : Prm n p) {m nrem : Nat} {R : Nat × Array Nat → Shared → Prop} {s : Shared} (h1 : 1 ≤ m) (h2 : m ≤ nrem) (h3 : nrem ≤ n) (hf : Fll ky p m) (hr : Pre n p m) (hJ : J s)
    (k : ∀ m' p' s', 1 ≤ m' → m' ≤ nrem → Prm n p' → Stb ky p' m' → Pre n p' m' → J s' → R (m', p') s') : (kas_tail3 m nrem p).kasWp cmp R s := by
  have hsz := hp.size
  unfold kas_tail3
  rw [KasT.kasWp_bind]
  refine asc_st ac (hp.rev 0 m) (nrem - m) m s h1 (by omega) (hf.rev (by omega)) (hr.rev (Nat.le_refl _) (by omega)) hJ fun m' s' a1 a2 a3 a4 _ a5 => ?_
  exact k m' _ s' (by omega) (by omega) (hp.rev _ _) a3 a4 a5
theorem descPart_st (ac : Asks O ky n cmp J) {p : Array Nat} (hp : Prm n p) {m nrem : Nat} {R : Nat × Array Nat → Shared → Prop} {s : Shared} (h2 : m + 1 ≤ nrem) (h3 : nrem ≤ n) (hf : Dn ky p (m + 1) 0) (hr : Pre n p (m + 1)) (hJ : J s)
    (k : ∀ m' p' s', 1 ≤ m' → m' ≤ nrem → Prm n p' → Stb ky p' m' → Pre n p' m' → J s' → R (m', p') s') : (kas_descPart m nrem p).kasWp cmp R s := by
  unfold kas_descPart
  rw [KasT.kasWp_bind]
  refine desc_st ac (nrem - (m + 1)) p (m + 1) 0 s hp (by omega) (by omega) hf hr hJ fun p' m' q' s' a1 a2 a3 a4 a5 a6 a7 => ?_
  have hsz := a1.size
  dsimp only
  by_cases c : q' > 0
  · rw [if_pos c]
    exact tail3_st ac (a1.rev _ _) (by omega) (by omega) h3 (a5.fll a2 (by omega)) (a6.rev (Nat.le_refl _) (by omega)) a7 k
  · rw [if_neg c]
    have q0 : q' = 0 := by omega
    subst q0
    exact tail3_st ac a1 (by omega) (by omega) h3 a5.fll0 a6 a7 k
theorem count_st (ac : Asks O ky n cmp J) {p : Array Nat} (hp : Prm n p) {R : Nat × Array Nat → Shared → Prop} {s : Shared} (h1 : 1 ≤ n) (hr : Pre n p 0) (hJ : J s)
    (k : ∀ m' p' s', 1 ≤ m' → m' ≤ n → Prm n p' → Stb ky p' m' → Pre n p' m' → J s' → R (m', p') s') : (kas_count n p).kasWp cmp R s := by
  have hsz := hp.size
  unfold kas_count
  rw [KasT.kasWp_bind]
  refine asc_st ac hp (n - 1) 1 s (Nat.le_refl _) (by omega) Stb.one (hr.succ (by omega)) hJ fun m s' a1 a2 a3 a4 a5 a6 => ?_
  by_cases c : m = n
  · rw [if_pos (by simpa using c)]
    exact k m p s' a1 (by omega) hp a3 a4 a6
  · rw [if_neg (by simpa using c)]
    have lt := a5 (by omega)
    by_cases c1 : m > 1
    · rw [if_pos c1]
      refine ac _ _ _ s' (hp.lt (by omega)) (hp.lt (by omega)) a6 fun s2 hJ2 => ?_
      cases e : O.blt (ky (p.getD 0 0)) (ky (p.getD (m - 1) 0)) with
      | true =>
        dsimp only
        rw [if_pos rfl]
        exact k m p s2 a1 (by omega) hp a3 a4 hJ2
      | false =>
        dsimp only
        rw [if_neg Bool.false_ne_true]
        have g : O.kle (ky (p.getD (m - 1) 0)) (ky (p.getD 0 0)) := e
        have eq : ∀ a b, a < m → b < m → O.kle (ky (p.getD a 0)) (ky (p.getD b 0)) := fun a b ha hb =>
          KeyOrd.kle_trans (a3.srt a (m - 1) (by omega) (by omega)) (KeyOrd.kle_trans g (a3.srt 0 b (by omega) hb))
        have up : ∀ a b, a < b → b < m → p.getD a 0 < p.getD b 0 := fun a b ab hb => by
          rw [hr.hi a (Nat.zero_le _) (by omega), hr.hi b (Nat.zero_le _) (by omega)]
          exact ab
        have ff : Fll ky (kas_rev p 0 m) m := fun i j hij hj => by
          rw [gd_rev (by omega), gd_rev (by omega), if_pos ⟨Nat.zero_le _, hj⟩, if_pos ⟨Nat.zero_le _, by omega⟩]
          exact ⟨eq _ _ (by omega) (by omega), .inr (up _ _ (by omega) (by omega))⟩
        have lt' : O.klt (ky ((kas_rev p 0 m).getD m 0)) (ky ((kas_rev p 0 m).getD (m - 1) 0)) := by
          rw [gd_rev (by omega), gd_rev (by omega), if_neg (by omega), if_pos ⟨Nat.zero_le _, by omega⟩]
          exact KeyOrd.klt_of_klt_of_kle lt (eq _ _ (by omega) (by omega))
        exact descPart_st ac (hp.rev 0 m) (by omega) (Nat.le_refl _) (ff.more (by omega) lt') ((a4.rev (Nat.le_refl _) (by omega)).succ (by omega)) hJ2 k
    · rw [if_neg c1]
      have em : m = 1 := by omega
      subst em
      refine descPart_st ac hp (by omega) (Nat.le_refl _) ?_ (a4.succ (by omega)) a6 k
      have f1 : Fll ky p 1 := fun i j hij hj => by omega
      exact f1.more (Nat.le_refl _) lt
theorem bin_st (ac : Asks O ky n cmp J) {R : Array Nat → Shared → Prop} : ∀ (f : Nat) (p : Array Nat) (t : Nat) (s : Shared), Prm n p → t + f = n → Stb ky p t → Pre n p t → J s → (∀ p' s', Prm n p' → Stb ky p' n → J s' → R p' s') → (kas_bin f p t).kasWp cmp R s
  | 0, p, t, s, hp, hz, hs, hr, hJ, k => k p s hp (by have : t = n := by omega
                                                      subst this; exact hs) hJ
  | f + 1, p, t, s, hp, hz, hs, hr, hJ, k => by
    have hsz := hp.size
    have ht : t < n := by omega
    have pt := hr.at ht
    unfold kas_bin
    rw [KasT.kasWp_bind]
    refine place_ok ac hp (by omega) t 0 t s (Nat.zero_le _) (Nat.le_refl _) (by omega) (fun i h => absurd h (Nat.not_lt_zero _)) (fun i a b => absurd b (by omega)) hs.srt hJ fun l s' a1 a2 a3 hJ' => ?_
    have el : t - (t - l) = l := by omega
    refine bin_st ac f (bubble p t (t - l)) (t + 1) s' (hp.bub _ _) (by omega) ?_ ⟨fun i hi => ?_, fun i hi hl => ?_, (hp.bub _ _).size⟩ hJ' k
    · intro i j hij hj
      rw [gd_bub (by omega) (by omega), gd_bub (by omega) (by omega), el]
      by_cases ci : i = l
      · rw [if_pos ci, if_neg (c := j = l) (by omega), if_pos ⟨by omega, by omega⟩]
        have g := a3 (j - 1) (by omega) (by omega)
        exact ⟨KeyOrd.kle_of_klt g, .inl g⟩
      · rw [if_neg ci]
        by_cases ci2 : l < i ∧ i ≤ t
        · rw [if_pos ci2, if_neg (by omega), if_pos ⟨by omega, by omega⟩]
          exact hs _ _ (by omega) (by omega)
        · rw [if_neg ci2]
          by_cases cj : j = l
          · rw [if_pos cj]
            exact ⟨a2 _ (by omega), .inr (by rw [pt]; exact hr.lo i (by omega))⟩
          · rw [if_neg cj]
            by_cases cj2 : l < j ∧ j ≤ t
            · rw [if_pos cj2]
              exact hs _ _ (by omega) (by omega)
            · rw [if_neg cj2]
              exact hs _ _ hij (by omega)
    · rw [gd_bub (by omega) (by omega), el]
      by_cases ci : i = l
      · rw [if_pos ci, pt]; omega
      · rw [if_neg ci]
        by_cases ci2 : l < i ∧ i ≤ t
        · rw [if_pos ci2]
          have := hr.lo (i - 1) (by omega)
          omega
        · rw [if_neg ci2]
          have := hr.lo i (by omega)
          omega
    · rw [gd_bub (by omega) (by omega), el, if_neg (by omega), if_neg (by omega)]
      exact hr.hi i (by omega) hl
theorem sort_st (ac : Asks O ky n cmp J) {R : Array Nat → Shared → Prop} {s : Shared} (h1 : 1 ≤ n) (hJ : J s) (k : ∀ p s', Prm n p → Stb ky p n → J s' → R p s') : (kas_sort n).kasWp cmp R s := by
  unfold kas_sort
  rw [KasT.kasWp_bind]
  have hr : Pre n (List.toArray (List.range n)) 0 := ⟨fun i h => absurd h (Nat.not_lt_zero _), fun i _ h => by simp [Array.getD, h], by simp⟩
  refine count_st ac (List.Perm.refl _) h1 hr hJ fun m p s' a1 a2 a3 a4 a5 a6 => ?_
  dsimp only
  by_cases c : m < n
  · rw [if_pos c]
    have e : max m 1 = m := by omega
    rw [e]
    exact bin_st ac (n - m) p m s' a3 (by omega) a4 a5 a6 k
  · rw [if_neg c]
    have e : m = n := by omega
    subst e
    exact k p s' a3 a4 a6
end
end L2
namespace L2
open PySem PySem.W PySem.Spec PyProof.Rows
def intO : KeyOrd := ⟨Int, fun a b => decide (a < b), fun a => decide_eq_false (Int.lt_irrefl a), fun a b c h1 h2 => decide_eq_true (Int.lt_trans (of_decide_eq_true h1) (of_decide_eq_true h2)), fun a b c h => by
  have h := of_decide_eq_true h
  by_cases x : a < b
  · exact .inl (decide_eq_true x)
  · exact .inr (decide_eq_true (by omega)), fun a b h1 h2 => by
  have h1 := of_decide_eq_false h1
  have h2 := of_decide_eq_false h2
  omega⟩
def held0 (a : Addr) (e : Nat) : HO := .ext fun h => h.get? a = some (seqObj "list" #[] e)
theorem held0_ok {P : Program} {w : World} {H : Hp} {h : Heap} {a : Addr} {e : Nat} (x : h.get? a = some (seqObj "list" #[] e)) : ObjOk P w H h a (held0 a e) := ⟨x, ⟨_, x⟩, fun _ _ y k => k _ y⟩
theorem held0_at {P : Program} {w : World} {H : Hp} {h : Heap} {a : Addr} {e : Nat} (x : ObjOk P w H h a (held0 a e)) : h.get? a = some (seqObj "list" #[] e) := x.1
theorem sam_put {H G : Hp} {a : Addr} {o : HO} (e : Same H G) (h : H a = none) : Same H (upd G a o) := fun b u q => by
  by_cases c : b = a
  · rw [c, h] at q; cases q
  · rw [upd_ne c]; exact e b u q
section
variable {X : Cx} {pins : List (Addr × Obj)} {σ : St} {H : Hp} {xs : List V} {l f a kS : Addr} {E : Value → Shared → Prop} {P : PySem.Fin → Shared → Prop}
theorem sk_tail {st : SortSt} {s : Shared} {e1 : Nat} {its : List Value} {ys : List V} {p : Array Nat} (I : Inv X pins σ H s) (ha : H a = some (held0 a e1)) (hk : H kS = some (.lst ys)) (hka : kS ≠ a)
    (rv : Vals xs its) (h64 : xs.length < 64) (har : (arrOf st).map (·.2) = List.toArray (p.toList.map fun i => its.getD i Value.none)) (hp : Prm xs.length p) (hf : failedOf st = none)
    (h : ∀ s', Inv X pins σ (upd (upd H kS (.lst [])) a (.lst (p.toList.map fun i => xs.getD i .non))) s' → P (.done (.ret .none)) s') :
    wpAny (model X.prog X.w) X.A.in1.in1 (ksk_tail a false e1 (.ref kS) st) P E s := by
  obtain ⟨zk, kits, kn, kv, kl, gk⟩ := I.lstM hk
  have ga := held0_at (I.hok _ _ ha)
  have hlen := rv.length
  have I1 := I.lset (t' := s.toks) (its' := []) (f := fun _ => (#[] : Array Value)) hk gk rfl (ys := []) .nil (Nat.zero_le _)
  have ha1 : (upd H kS (.lst [])) a = some (held0 a e1) := by rw [upd_ne (Ne.symm hka)]; exact ha
  have ga1 := held0_at (I1.hok _ _ ha1)
  unfold ksk_tail
  try dsimp only
  refine wpAny_bind (listUpdate_at gk rfl ?_ (by rw [List.size_toArray, ← kl]; exact zk) (Nat.zero_le _))
  refine wpAny_bind (wpAny_letGo ?_)
  refine wpAny_bind (seqEpoch_at ga1 rfl ?_)
  rw [har]
  have hpl : (p.toList.map fun i => its.getD i Value.none).length = xs.length := by rw [List.length_map, Array.length_toList, hp.size]
  refine wpAny_bind (listUpdate_at ga1 rfl ?_ (Nat.zero_le _) (by show (List.toArray _).size ≤ _; rw [List.size_toArray, hpl, sizeLine_eq]; omega))
  rw [hf]
  simp only [bne_self_eq_false, Bool.false_eq_true, if_false]
  refine wpAny_pure (h _ ?_)
  have q := PySem.IsL.update ga1 fun _ => List.toArray (p.toList.map fun i => its.getD i Value.none)
  refine I1.write (x := a) (e := a) (by rw [ha1]; exact trivial) (.inl rfl) (fun b' u hb hu => (Heap.get?_update_other _ _ (Ne.symm hb)).trans hu) ⟨_, q⟩ ?_
  refine ⟨by rw [List.length_map, Array.length_toList, hp.size, sizeLine_eq]; omega, _, _, ?_, q⟩
  have hlt : ∀ i ∈ p.toList, i < xs.length := fun i m => List.mem_range.mp (hp.mem_iff.mp m)
  clear har hpl ga1 ha1 q hp
  generalize p.toList = pl at hlt ⊢
  induction pl with
  | nil => exact .nil
  | cons i r ih =>
    refine .cons ?_ (ih fun j m => hlt j (List.mem_cons_of_mem _ m))
    have hi := hlt i (List.mem_cons_self ..)
    obtain ⟨v, hv, rx⟩ := rv.get (List.getElem?_eq_getElem hi)
    show RelV (xs.getD i .non) (its.getD i Value.none)
    rw [List.getD_eq_getElem?_getD, List.getD_eq_getElem?_getD, hv, List.getElem?_eq_getElem hi]
    exact rx
theorem sk_end (kf : Nat → Int) {s : Shared} {e1 : Nat} {its kits : List Value} (I : Inv X pins σ H s) (ha : H a = some (held0 a e1)) (hk : H kS = some (.lst (((List.range xs.length).map kf).map V.int))) (hka : kS ≠ a)
    (rv : Vals xs its) (h64 : xs.length < 64) (kv : IntsAre kits ((List.range xs.length).map kf))
    (h : ∀ (p : Array Nat) s', Prm xs.length p → Stb (O := intO) kf p xs.length → Inv X pins σ (upd (upd H kS (.lst [])) a (.lst (p.toList.map fun i => xs.getD i .non))) s' → P (.done (.ret .none)) s') :
    wpAny (model X.prog X.w) X.A.in1.in1 (ksk_end a false its.toArray e1 (.ref kS) kits.toArray) P E s := by
  have hlen := rv.length
  have kl : kits.length = its.length := by
    have := kv.length
    rw [List.length_map, List.length_range] at this
    omega
  unfold ksk_end
  try dsimp only
  rw [if_neg Bool.false_ne_true]
  by_cases h2 : its.toArray.size < 2
  · rw [if_pos h2, if_pos h2]
    refine wpAny_bind (wpAny_pure ?_)
    rw [StateT.run_pure]
    refine wpAny_bind (wpAny_pure ?_)
    try dsimp only
    rw [List.size_toArray] at h2
    have e : (arrOf (SortSt.mk' general' (if false = true then (kits.toArray.zip its.toArray).reverse else kits.toArray.zip its.toArray) #[] 7 none)).map (·.2) = List.toArray ((List.toArray (List.range xs.length)).toList.map fun i => its.getD i Value.none) := by
      have z := kat_snds (ks := kits) (vs := its) kl (st := SortSt.mk' general' (kits.toArray.zip its.toArray) #[] 7 none) (p := List.toArray (List.range its.length)) (by
        have e := kas_range (kits.toArray.zip its.toArray)
        rw [show (kits.toArray.zip its.toArray).size = its.length by simp [kl]] at e
        exact e.symm)
      rw [← hlen] at z
      exact z
    refine sk_tail (p := List.toArray (List.range xs.length)) I ha hk hka rv h64 e (List.Perm.refl _) rfl fun s' I' => h _ s' (List.Perm.refl _) (fun i j hij hj => by omega) I'
  · rw [if_neg h2, if_neg h2]
    rw [List.size_toArray] at h2
    have kv' : IntsAre kits.toArray.toList ((List.range xs.length).map kf) := by simpa using kv
    rw [ksk_kind kv' (by rw [List.size_toArray]; omega)]
    refine wpAny_bind (wpAny_pure ?_)
    have ac : Asks intO kf its.length (kas_ask X.prog X.w X.A.in1.in1 oneType' kits) (fun s' => s' = s) := by
      intro i j C s' hi hj e k
      subst e
      have at' : ∀ i, i < its.length → ∃ t, kits.getD i Value.none = .int (kf i) t := fun i hi => by
        obtain ⟨t, ht⟩ := kv.get i (kf i) (by rw [List.getElem?_map, List.getElem?_range (by omega)]; rfl)
        exact ⟨t, by rw [List.getD_eq_getElem?_getD, ht]; rfl⟩
      obtain ⟨t1, e1⟩ := at' i hi
      obtain ⟨t2, e2⟩ := at' j hj
      unfold kas_ask
      rw [e1, e2]
      exact kat_lt_int (k _ rfl)
    refine wpAny_bind (wpAny_mono (kat_run (ks := kits) (vs := its) (κ := oneType') (Q := fun st' s' => ∃ p : Array Nat, arrOf st' = p.map (kas_item (kits.toArray.zip its.toArray)) ∧ failedOf st' = none ∧ s' = s ∧ Prm its.length p ∧ Stb (O := intO) kf p its.length)
      (G := fun p s' => s' = s ∧ Prm its.length p ∧ Stb (O := intO) kf p its.length)
      kl (by omega) (by omega) (fun p st' s' _ a2 a3 g => ⟨p, a2, a3, g⟩) (sort_st ac (by omega) rfl fun p s' q1 q2 e => ⟨e, q1, q2⟩)) ?_ fun _ _ e => e)
    rintro ⟨⟨⟩, st'⟩ s' ⟨p, har, hf, rfl, q1, q2⟩
    try dsimp only
    rw [← hlen] at q1 q2
    exact sk_tail I ha hk hka rv h64 (kat_snds kl har) q1 hf fun s' I' => h p s' q1 q2 I'
theorem sk_rest (kf : Nat → Int) {s : Shared} {e1 : Nat} {its : List Value} (I : Inv X pins σ (upd H kS (.lst [])) s) (ha : H a = some (held0 a e1)) (hk : H kS = none) (rv : Vals xs its) (h64 : xs.length < 64)
    (turn : ∀ (i : Nat) (x : V) (u : Value) (G : Hp) (s : Shared), xs[i]? = some x → RelV x u → Same H G → Inv X pins σ G s → wpAny (model X.prog X.w) X.A.in1.in1 (call (.ref f) [u]) (fun v s' => ∃ G', Same G G' ∧ Inv X pins σ G' s' ∧ ∃ t, v = .int (kf i) t) (fun _ _ => False) s)
    (h : ∀ (p : Array Nat) (G : Hp) s', Prm xs.length p → Stb (O := intO) kf p xs.length → Same H G → Inv X pins σ (upd G a (.lst (p.toList.map fun i => xs.getD i .non))) s' → P (.done (.ret .none)) s') :
    wpAny (model X.prog X.w) X.A.in1.in1 (ksk_rest a (.ref f) false its.toArray e1 (.ref kS)) P E s := by
  have hlen := rv.length
  have hka : kS ≠ a := fun z => by rw [z, ha] at hk; cases hk
  unfold ksk_rest
  refine wpAny_bind (wpAny_rule ?_)
  first
    | rw [List.forIn_toArray]
    | (rw [← Array.forIn_toList]; simp only [List.toList_toArray])
    | rw [← Array.forIn_toList]
  refine wpAny_bind (ksk_fold (fun i s' => ∃ G, Inv X pins σ G s' ∧ Same H G ∧ G kS = some (.lst (((List.range i).map kf).map V.int))) its 0 s ⟨_, I, sam_put (fun _ _ q => q) hk, upd_same⟩ ?step ?done)
  case step =>
    rintro j x s' hx ⟨G, I', sG, gk⟩
    simp only [Nat.zero_add] at gk ⊢
    have hj : j < its.length := (List.getElem?_eq_some_iff.mp hx).1
    obtain ⟨z, hz⟩ : ∃ z, xs[j]? = some z := ⟨_, List.getElem?_eq_getElem (by omega)⟩
    obtain ⟨v2, hv2, rz⟩ := rv.get hz
    rw [hx] at hv2
    cases hv2
    refine wpAny_bind (wpAny_attempt (wpAny_mono (turn j z x G s' hz rz sG I') (fun v s'' he => ?_) fun _ _ hF => hF.elim))
    obtain ⟨G', sG', I2, t2, rfl⟩ := he
    try dsimp only
    have gk2 := sG' _ _ gk
    obtain ⟨zk, kits, kn, kv, kl, ek⟩ := I2.lstM gk2
    rw [List.length_map, List.length_map, List.length_range] at kl
    have I3 := I2.lset (t' := s''.toks) (its' := kits ++ [.int (kf j) t2]) (f := (·.push (.int (kf j) t2))) (ys := ((List.range (j + 1)).map kf).map V.int) gk2 ek (by simp) (by
      rw [List.range_succ, List.map_append, List.map_append]
      exact kv.append (.cons ⟨t2, rfl⟩ .nil)) (by rw [List.length_map, List.length_map, List.length_range, sizeLine_eq]; omega)
    refine wpAny_bind (listUpdate_at ek rfl ?_ (by rw [List.size_toArray, ← kl, sizeLine_eq]; omega) (Nat.le_trans (Nat.le_of_eq (Array.size_push ..)) (by rw [List.size_toArray, ← kl, sizeLine_eq]; omega)))
    exact wpAny_pure ⟨rfl, _, I3, sam_put (sG.trans sG') hk, upd_same⟩
  case done =>
    rintro s' ⟨G, I', sG, gk⟩
    rw [Nat.zero_add, ← hlen] at gk
    obtain ⟨zk, kits, kn, kv, kl, ek⟩ := I'.lstM gk
    try dsimp only
    refine wpAny_bind (listItems_at ek rfl ?_)
    refine sk_end kf I' (sG _ _ ha) gk hka rv h64 (intsAre_of kv) fun p s2 q1 q2 I2 => h p _ s2 q1 q2 (sam_put sG hk) I2
theorem sort_key (kf : Nat → Int) {s : Shared} {Q : Value → Shared → Prop} (hq : SqL X.K H l xs) (h64 : xs.length < 64) (I : Inv X pins σ H s)
    (turn : ∀ (i : Nat) (x : V) (u : Value) (G : Hp) (s : Shared), xs[i]? = some x → RelV x u → Same H G → Inv X pins σ G s → wpAny (model X.prog X.w) X.A.in1.in1 (call (.ref f) [u]) (fun v s' => ∃ G', Same G G' ∧ Inv X pins σ G' s' ∧ ∃ t, v = .int (kf i) t) (fun _ _ => False) s)
    (h : ∀ (D : Addr) (p : Array Nat) (G : Hp) s', Prm xs.length p → Stb (O := intO) kf p xs.length → Same H G → H D = none → Inv X pins σ (upd G D (.lst (p.toList.map fun i => xs.getD i .non))) s' → Q (.ref D) s') :
    wpAny (model X.prog X.w) X.A (call (.builtin "sorted") [.ref l] [(Str.ofString "key", .ref f)]) Q E s := by
  obtain ⟨its, rv, pl, hz⟩ := I.list hq
  have hlen := rv.length
  refine call_function_entry_kw kind_sorted plain_sorted entry_sorted (ksk_s1 _ _) ?_
  unfold Builtin.«sorted»
  refine wpAny_bind (m := checkCount "sorted" 1 1 _) (wpAny_pure ?_)
  refine wpAny_bind (collect_list pl.isList ?_ (by rw [sizeLine_eq]; omega))
  refine wpAny_bind (wpAny_newList ?_ (by rw [sizeLine_eq]; omega))
  have hsz : ((s.heap.push (seqObj "list" #[] 0)).update s.heap.objs.size (Obj.mapSeq (· ++ its.toArray))).objs.size = s.heap.objs.size + 1 := by
    rw [Heap.size_update, size_push']
  have hoL : (((s.heap.push (seqObj "list" #[] 0)).update s.heap.objs.size (Obj.mapSeq (· ++ its.toArray))).push (seqObj "list" its.toArray 0)).get? (s.heap.objs.size + 1) = some (seqObj "list" its.toArray 0) := by
    rw [← hsz]; exact Heap.get?_push_size _ rfl
  have keep : ∀ b o, s.heap.get? b = some o → (((s.heap.push (seqObj "list" #[] 0)).update s.heap.objs.size (Obj.mapSeq (· ++ its.toArray))).push (seqObj "list" its.toArray 0)).get? b = some o := fun b o q => by
    have hlt : b < s.heap.objs.size := Heap.lt_size q
    rw [Heap.get?_push_ne _ _ _ (by rw [hsz]; exact Nat.ne_of_lt (Nat.lt_succ_of_lt hlt)), Heap.get?_update_ne _ _ _ _ (Nat.ne_of_lt hlt), Heap.get?_push_ne _ _ _ (Nat.ne_of_lt hlt)]
    exact q
  show wpAny _ _ _ _ _ { s with heap := ((s.heap.push (seqObj "list" #[] 0)).update s.heap.objs.size (Obj.mapSeq (· ++ its.toArray))).push (seqObj "list" its.toArray 0) }
  rw [hsz]
  refine wpAny_bind (wpAny_holding (wpAny_call_entry_kw slot_list_sort ⟨_, hoL, rfl⟩ entry_list_sort ?body (ksk_l1 _ _)))
  case body =>
    have hD : H (s.heap.objs.size + 1) = none := I.hok.fresh (Nat.le_succ _)
    have hDs : s.heap.objs.size ≤ s.heap.objs.size + 1 := Nat.le_succ _
    generalize ((s.heap.push (seqObj "list" #[] 0)).update s.heap.objs.size (Obj.mapSeq (· ++ its.toArray))).push (seqObj "list" its.toArray 0) = h1 at hoL keep ⊢
    clear hsz
    generalize s.heap.objs.size + 1 = D at hD hDs hoL ⊢
    show wpAny (model X.prog X.w) X.A.in1.in1 (Builtin.«list.sort» ⟨[.ref D], [(Str.ofString "key", .ref f)]⟩) _ _ _
    rw [ksk_t1]
    obtain ⟨e1, ho1⟩ : ∃ e1, (h1.update D (Obj.mapSeq fun _ => (#[] : Array Value))).get? D = some (seqObj "list" #[] e1) := ⟨_, get?_update_seq hoL fun _ => #[]⟩
    unfold ksk_tree
    refine wpAny_bind (listItems_at hoL rfl ?_)
    refine wpAny_bind (listUpdate_at hoL rfl ?_ (by rw [List.size_toArray, sizeLine_eq]; omega) (Nat.zero_le _))
    refine wpAny_bind (seqEpoch_at ho1 rfl ?_)
    refine wpAny_bind (wpAny_newTuple ?_ (by show its.length ≤ _; rw [sizeLine_eq]; omega))
    refine wpAny_bind (wpAny_newList ?_ (Nat.zero_le _))
    refine wpAny_holding ?_
    have neD : ∀ {b : Addr} {o : Obj}, s.heap.get? b = some o → b ≠ D := fun q z => absurd (Heap.lt_size q) (by rw [z]; exact Nat.not_lt.mpr hDs)
    have I1 : Inv X pins σ (upd H D (held0 D e1)) { s with heap := h1.update D (Obj.mapSeq fun _ => (#[] : Array Value)) } :=
      I.laid (t' := s.toks) (fun b u q => (Heap.get?_update_other _ _ (Ne.symm (neD q))).trans (keep b u q)) hDs (held0_ok ho1)
    have I2 := I1.kept (t' := s.toks) (h' := (h1.update D (Obj.mapSeq fun _ => (#[] : Array Value))).push (seqObj "tuple" its.toArray 0)) fun b u e => Heap.get?_push_of_some _ e
    have I3 := I2.lnew (t' := s.toks) (its := []) .nil (Nat.zero_le _)
    refine sk_rest (H := upd H D (held0 D e1)) kf I3 upd_same I2.fresh rv h64 (fun i x u G s' hx rx sG I' => turn i x u G s' hx rx (fun b o q => sG b o (sam_put (fun _ _ q => q) hD b o q)) I') fun p G s' q1 q2 sG I' => ⟨_, rfl, ?_⟩
    exact wpAny_pure ⟨_, rfl, h _ p G s' q1 q2 (fun b o q => sG b o (sam_put (fun _ _ q => q) hD b o q)) hD I'⟩
end
def tSortKey (K : PySem.W.Frag) (P : Addr) (lpos : Pos) (q : Str) (tl tb : TE) : TE := fun σ H Q => tl σ H fun x H1 => ∃ (a : Addr) (xs : List V) (kf : Nat → Int), x = .ref a ∧ xs.length < 64 ∧ LamT P lpos q H1 ∧
  ∀ H2, Lam1 P lpos q H2 → SmL P H1 H2 → (Lam1 P lpos q H1 → H1 = H2) → (∀ b, H2 b = none → H1 b = none) →
    SqL K H2 a xs ∧ (∀ i x G, xs[i]? = some x → Same H2 G → tb (σ ++ [some x]) G fun y G' => y = .int (kf i) ∧ Same G G') ∧
    ∀ (D : Addr) (p : Array Nat) (G : Hp), Prm xs.length p → Stb (O := intO) kf p xs.length → Same H2 G → H2 D = none → Q (.ref D) (upd G D (.lst (p.toList.map fun i => xs.getD i .non)))
section
variable {X : Cx} {c P : Addr} {e body : Expr} {tl tb : TE} {sc fsc : Scope} {N Nc : List Str} {x : Str} {params : Arguments} {lpos kp p pos : Pos}
theorem pe_sortkey (hc : X.calm = true) (LB : LamB X.base X.mg c P) (hcode : X.env.code = .ref c) (hr : Room 1 X.A) (hg : Gl X "sorted") (hm : X.mg "sorted" = none) (hE : X.env.scope = fsc) (hXN : X.N = N) (cn : CompN N Nc x sc fsc) (hco : sc.isCoroutine = false) (hgen : sc.isGenerator = false) (he : PE X e tl)
    (hb : ∀ cl f c' s H, PE (X.inLam X.A.in1.in1 Nc (X.env.qual ++ "<lambda>") sc cl f c' s H) body tb)
    (hbind : ∀ cl c' pm ctv u, bindArgs (kla_fn "<lambda>" (X.env.qual ++ "<lambda>") params body sc cl pm (.ref c') ctv) ⟨[u], []⟩ = pure [(x, u)] := by intros; rfl) (hdef : defaultsOf params X.env = ([], []) := by rfl)
    (h1 : backTo pos (starEach [e] X.env) = (false, eval e X.env) :: backTo pos (starEach [] X.env) := by rfl) (h2 : (backTo pos (starEach [e] X.env)).any (·.1) = false := by rfl)
    (h3 : (backToKw pos (keywordEach [⟨some "key", .Lambda params body sc lpos, kp⟩] X.env)).all (·.1.isSome) = true := by rfl) (h4 : (backToKw pos (keywordEach [⟨some "key", .Lambda params body sc lpos, kp⟩] X.env)).any (·.1.isNone) = false := by rfl)
    (h5 : (backToKw pos (keywordEach [⟨some "key", .Lambda params body sc lpos, kp⟩] X.env)).filterMap (·.1) = [("key" : Str)] := by rfl) :
    PE X (.Call (.Name "sorted" p) [e] [⟨some "key", .Lambda params body sc lpos, kp⟩] pos) (tSortKey X.K P lpos (X.env.qual ++ "<lambda>") tl tb) := by
  intro pins s σ H Q I h
  obtain ⟨cl, hcl, clS, clH⟩ := closure_ok (env := X.env) (sc := sc) (comp_has I.ok.has hE cn)
  refine wpAny_Call_Name_kw (ld_blt I hg hm boot_sorted ?_ (by decide) (by decide))
  refine with_kwB ?_ h1 h2 h3 h4
  rw [h1]
  refine Calls.spliced_cons (thn (he pins s σ H _ I h) fun u s1 ⟨y, H1, I1, r1, a, xs, kf, hx, h64, lt, q⟩ => ?_)
  subst hx
  cases r1
  refine Calls.spliced_nil ?_
  refine kws_cons (kla_eval hdef (lam_make LB hcode hcl I1 lt fun f c' pm ctv H2 s2 I2 hc2 cf l2 sm l12 fr => kws_nil ?_))
  rw [h5]
  show wpAny (model X.prog X.w) X.A (call (.builtin "sorted") [.ref a] [(Str.ofString "key", .ref f)]) _ _ s2
  obtain ⟨hq, keys, fin⟩ := q H2 l2 sm l12 fr
  refine sort_key kf hq h64 I2 (fun i z u G s3 hz rz sG I3 => ?_) fun D p G s3 q1 q2 sG hD I3 => ?_
  · refine thn (lam_call hE hXN cn hco hgen clS clH (A := X.A.in1.in1) rfl hr.hd (by have := hr.dp; show X.A.depth < _; omega) (fun s H => hb cl f c' s H) (fun pm ctv u => hbind cl c' pm ctv u) I3 (List.mem_cons_self ..) (sG _ _ hc2) rz (keys i z G hz sG)) fun v s4 ⟨y, H4, I4, r4, e1, e2⟩ => ?_
    subst e1
    exact ⟨H4, e2, I4, r4⟩
  · exact ⟨.ref D, _, I3.sub fun p hp => List.mem_cons_of_mem _ hp, rfl, fin D p G q1 q2 sG hD⟩
end
theorem Room.lam {k : Nat} {A : Around} (r : Room (k + 1) A) (env : Env) : Room k (A.in1.in1.deeper env) :=
  ⟨r.hd, by have := r.dp; show A.depth + 1 + 3 * k + 5 < _; omega, by have := r.un; show A.units + 1 + 1 + 3 + 16 * k + 200 < _; omega⟩
end L2
set_option maxHeartbeats 4000000
namespace Law
open PySem L2
def spLaw (K : PySem.W.Frag) (P : Addr) : Sp := fun vs H Q _ => ∃ (p : Addr) (ns : List Int), vs = [.ref p] ∧ SqL K H p (ns.map V.int) ∧ ns.length ≤ 63 ∧ H P = some (.tbl #[]) ∧ ∀ H', Q (.bl true) H'
def spWhole : Sp := fun vs H Q _ => ∃ c : Int, vs = [.int c] ∧ Q (.bl true) H
theorem same_new {H : Hp} {p : Addr} (h : H p = none) (o : HO) : Same H (upd H p o) := fun b u q => by rw [upd_ne (ne_of_none q h)]; exact q
theorem fmod_in (x : Int) {y : Int} (h : 0 < y) : 0 ≤ x.fmod y ∧ x.fmod y < y := ⟨Int.fmod_nonneg_of_pos x h, Int.fmod_lt_of_pos x h⟩
theorem sz_fmod (x : Int) {y : Int} {n : Nat} (h : 0 < y) (k : Sz n y) : Sz n (x.fmod y) := by
  have e := fmod_in x h
  unfold Sz at k ⊢
  omega
def lamPos : Pos := ⟨31, 38, 31, 73⟩
def lamQ : Str := ("shift" : Str) ++ ".<locals>." ++ "<lambda>"
def bit (m : Int) (i : Nat) : Bool := decide (m / 2 ^ i % 2 = 1)
def ins (x : Int) : List Int → List Int
  | [] => [x]
  | y :: r => if x < y then x :: y :: r else if x = y then y :: r else y :: ins x r
def spC40 (K : PySem.W.Frag) : Sp := fun vs H Q _ => ∃ (p : Addr) (ns : List Int) (k : Int), vs = [.ref p, .int k] ∧ SqL K H p (ns.map V.int) ∧ ns.length ≤ 63 ∧ 0 ≤ k ∧ k ≤ 1000 ∧ ∀ z : Int, 0 ≤ z → z < 10 ^ 40 → Q (.int z) H
theorem sz40 {c : Int} (h0 : 0 ≤ c) (h : c < 10 ^ 40) : Sz 200 c := sz_of (by omega) (by omega)
theorem same_upd {H H' : Hp} {l : Addr} {o : HO} (s : Same H H') (n : H l = none) : Same H (upd H' l o) := fun b u e => by
  rw [upd_ne (ne_of_none e n)]
  exact s b u e
theorem ifT {c : Bool} {A B : Prop} (e : c = true) (h : A) : if c = true then A else B := by rw [if_pos e]; exact h
theorem ifF {c : Bool} {A B : Prop} (e : c = false) (h : B) : if c = true then A else B := by rw [if_neg (by rw [e]; decide)]; exact h
theorem ne_t {a b : Int} (h : a ≠ b) : (!decide (V.int a = V.int b)) = true := by rw [decide_eq_false (fun e => h (V.int.inj e))]; rfl
theorem ne_f {a b : Int} (h : a = b) : (!decide (V.int a = V.int b)) = false := by rw [h, decide_eq_true rfl]; rfl
theorem eq_t {a b : Int} (h : a = b) : decide (V.int a = V.int b) = true := by rw [h]; exact decide_eq_true rfl
theorem eq_f {a b : Int} (h : a ≠ b) : decide (V.int a = V.int b) = false := decide_eq_false fun e => h (V.int.inj e)
theorem int_at {ns : List Int} {i : Nat} {x : V} (h : (ns.map V.int)[i]? = some x) : ∃ z, ns[i]? = some z ∧ x = .int z := by
  rw [List.getElem?_map] at h
  cases e : ns[i]? with
  | none => rw [e] at h; cases h
  | some z => rw [e] at h; exact ⟨z, rfl, (Option.some.inj h).symm⟩
theorem atN {ns : List Int} {i : Nat} {z : Int} (h : ns[i]? = some z) : atI (ns.map V.int) (i : Int) = some (.int z) := atI_nat (by rw [List.getElem?_map, h]; rfl)
theorem seqAt {n j : Nat} (h : j < n) : seqIndex? (j : Int) n = some j := (ixN_seq (i := (j : Int)) (by unfold ixN; rw [if_pos (by omega)]; simp [h])).1
theorem map_erase {α β : Type} (f : α → β) : ∀ (l : List α) (k : Nat), (l.map f).eraseIdx k = (l.eraseIdx k).map f
  | [], _ => rfl
  | _ :: _, 0 => rfl
  | x :: l, k + 1 => by
    show f x :: (l.map f).eraseIdx k = f x :: (l.eraseIdx k).map f
    rw [map_erase f l k]
theorem low_cut {z d : Int} (z0 : 0 ≤ z) (h : 1 ≤ d) (z1 : z < 10 ^ 31) : 0 ≤ z.fdiv d ∧ z.fdiv d < 10 ^ 31 := by
  rw [Int.fdiv_eq_ediv_of_nonneg z (by omega)]
  exact ⟨Int.ediv_nonneg z0 (by omega), Int.lt_of_le_of_lt (Int.ediv_le_self d z0) z1⟩
theorem pow_small {h : Nat} (hh : h < 64) : CPow 1 (h : Int) := ⟨by omega, by omega, by decide⟩
theorem and1 (x : Int) : Builtin.bitAnd x 1 = x % 2 := PySem.W.kbt_mask x 1
theorem holds_bit (m : Int) (h : Int) : decide (V.int (Builtin.bitAnd (m / 2 ^ h.toNat) 1) = V.int 1) = bit m h.toNat := by
  unfold bit
  rw [and1]
  by_cases c : m / 2 ^ h.toNat % 2 = 1
  · rw [decide_eq_true c, decide_eq_true (congrArg V.int c)]
  · rw [decide_eq_false c, decide_eq_false fun e => c (V.int.inj e)]
theorem mod_bit (m : Int) (i : Nat) : m / 2 ^ i % 2 = if bit m i = true then 1 else 0 := by
  have e : m / 2 ^ i % 2 = 0 ∨ m / 2 ^ i % 2 = 1 := by omega
  unfold bit
  rcases e with e | e
  · rw [e]; rfl
  · rw [e]; rfl
def spHolds : Sp := fun vs H Q _ => ∃ m h : Int, vs = [.int m, .int h] ∧ 0 ≤ h ∧ Q (.bl (bit m h.toNat)) H
def spWith : Sp := fun vs H Q _ => ∃ m h : Int, vs = [.int m, .int h] ∧ 0 ≤ h ∧ h < 12 ∧ Q (.int (Builtin.bitOr m (1 * 2 ^ h.toNat))) H
def spMix71 : Sp := fun vs H Q _ => ∃ c b : Int, vs = [.int c, .int b] ∧ Sz 200 c ∧ 0 ≤ b ∧ b ≤ 100 ∧ ∀ z : Int, 0 ≤ z → z < 10 ^ 31 → Q (.int z) H
theorem u1 {n : Nat} (h : n + 64 < cLine) : n + 1 < cLine := by omega
theorem none_of {H H' : Hp} {a : Addr} (s : Same H H') (h : H' a = none) : H a = none := by
  cases e : H a with
  | none => rfl
  | some u => rw [s _ _ e] at h; cases h
abbrev Ls := List (Addr × Addr × List Int × Int)
abbrev Ds := List (List Int × Int)
def vls (ls : Ls) : List V := ls.map fun q => .ref q.1
def dsOf (ls : Ls) : Ds := ls.map fun q => (q.2.2.1, q.2.2.2)
def GoodL (H : Hp) (ls : Ls) : Prop := ∀ q ∈ ls, H q.1 = some (.tup [.ref q.2.1, .int q.2.2.2]) ∧ H q.2.1 = some (.tup (q.2.2.1.map V.int))
theorem GoodL.same {H H' : Hp} {ls : Ls} (s : Same H H') (g : GoodL H ls) : GoodL H' ls := fun q m => ⟨s _ _ (g q m).1, s _ _ (g q m).2⟩
theorem GoodL.append {H : Hp} {a b : Ls} (g : GoodL H a) (k : GoodL H b) : GoodL H (a ++ b) := fun q m => (List.mem_append.mp m).elim (g q) (k q)
theorem GoodL.upd {H : Hp} {ls : Ls} {l : Addr} {xs : List V} {o : HO} (e : H l = some (.lst xs)) (g : GoodL H ls) : GoodL (upd H l o) ls := fun q m => by
  refine ⟨?_, ?_⟩
  · rw [upd_ne (ne_of (g q m).1 e (fun z => nomatch z))]; exact (g q m).1
  · rw [upd_ne (ne_of (g q m).2 e (fun z => nomatch z))]; exact (g q m).2
theorem vls_get {ls : Ls} {i : Nat} {x : V} (h : (vls ls)[i]? = some x) : ∃ q, ls[i]? = some q ∧ x = .ref q.1 ∧ q ∈ ls ∧ ls.take (i + 1) = ls.take i ++ [q] := by
  unfold vls at h
  rw [List.getElem?_map] at h
  cases e : ls[i]? with
  | none => rw [e] at h; cases h
  | some q =>
    rw [e] at h
    refine ⟨q, rfl, (Option.some.inj h).symm, List.mem_of_getElem? e, ?_⟩
    rw [List.take_succ, e]
    rfl
theorem vls_len (ls : Ls) : (vls ls).length = ls.length := List.length_map ..
theorem vls_append (a b : Ls) : vls (a ++ b) = vls a ++ vls b := List.map_append ..
theorem dsOf_append (a b : Ls) : dsOf (a ++ b) = dsOf a ++ dsOf b := List.map_append ..
theorem lex_asym : ∀ {a b : List Int}, HT.lexLt a b = true → HT.lexLt b a = false
  | [], [], h => by cases h
  | [], _ :: _, _ => rfl
  | _ :: _, [], h => by cases h
  | x :: a, y :: b, h => by
    rw [HT.lexLt_cons] at h ⊢
    by_cases c : x = y
    · rw [if_pos c] at h
      rw [if_pos c.symm]
      exact lex_asym h
    · rw [if_neg c] at h
      rw [if_neg (Ne.symm c)]
      have := of_decide_eq_true h
      exact decide_eq_false (by omega)
theorem lex_tot : ∀ {a b : List Int}, HT.lexLt b a = false → a ≠ b → HT.lexLt a b = true
  | [], [], _, n => absurd rfl n
  | [], _ :: _, _, _ => rfl
  | _ :: _, [], h, _ => by cases h
  | x :: a, y :: b, h, n => by
    rw [HT.lexLt_cons] at h ⊢
    by_cases c : x = y
    · rw [if_pos c.symm] at h
      rw [if_pos c]
      exact lex_tot h fun e => n (by rw [c, e])
    · rw [if_neg (Ne.symm c)] at h
      rw [if_neg c]
      have := of_decide_eq_false h
      exact decide_eq_true (by omega)
def tot : Ds → List Int → Int
  | [], _ => 0
  | q :: r, ts => (if q.1 = ts then q.2 else 0) + tot r ts
theorem tot_append (ts : List Int) : ∀ a b : Ds, tot (a ++ b) ts = tot a ts + tot b ts
  | [], b => by show tot b ts = 0 + tot b ts; omega
  | q :: a, b => by
    show (if q.1 = ts then q.2 else 0) + tot (a ++ b) ts = (if q.1 = ts then q.2 else 0) + tot a ts + tot b ts
    rw [tot_append ts a b]
    omega
def Pos (ds : Ds) : Prop := ∀ q ∈ ds, 1 ≤ q.2
theorem tot_nonneg {ts : List Int} : ∀ {ds : Ds}, Pos ds → 0 ≤ tot ds ts
  | [], _ => Int.le_refl _
  | q :: r, h => by
    have h1 := h q (List.mem_cons_self ..)
    have h2 := tot_nonneg (ts := ts) (ds := r) fun p m => h p (List.mem_cons_of_mem _ m)
    show 0 ≤ (if q.1 = ts then q.2 else 0) + tot r ts
    split <;> omega
theorem tot_out {ts : List Int} : ∀ {ds : Ds}, ts ∉ ds.map (·.1) → tot ds ts = 0
  | [], _ => rfl
  | q :: r, h => by
    rw [List.map_cons, List.mem_cons, not_or] at h
    show (if q.1 = ts then q.2 else 0) + tot r ts = 0
    rw [if_neg (fun e => h.1 e.symm), tot_out h.2]
    rfl
theorem tot_in {ts : List Int} : ∀ {ds : Ds}, Pos ds → ts ∈ ds.map (·.1) → 0 < tot ds ts
  | [], _, m => nomatch m
  | q :: r, h, m => by
    have h1 := h q (List.mem_cons_self ..)
    have hr : Pos r := fun p m => h p (List.mem_cons_of_mem _ m)
    have h2 := tot_nonneg (ts := ts) hr
    show 0 < (if q.1 = ts then q.2 else 0) + tot r ts
    by_cases c : q.1 = ts
    · rw [if_pos c]; omega
    · rw [if_neg c]
      rcases List.mem_cons.mp m with e | e
      · exact absurd e.symm c
      · have := tot_in hr e
        omega
structure Sheet (ds out : Ds) : Prop where
  srt : out.Pairwise (fun x y => HT.lexLt x.1 y.1 = true)
  mem : ∀ ts n, (ts, n) ∈ out ↔ n = tot ds ts ∧ 0 < n
theorem kv_map (ts : List Int) : (ts.map Sum.inl : List Key).map kV = ts.map V.int := by rw [List.map_map]; rfl
theorem inl_inj {a b : List Int} (h : (a.map Sum.inl : List Key) = b.map Sum.inl) : a = b := by
  have e := congrArg (List.map kV) h
  rw [kv_map, kv_map] at e
  have : ∀ {a b : List Int}, a.map V.int = b.map V.int → a = b := by
    intro a
    induction a with
    | nil => intro b h; cases b with | nil => rfl | cons _ _ => cases h
    | cons x a ih =>
      intro b h
      cases b with
      | nil => cases h
      | cons y b =>
        injection h with h1 h2
        injection h1 with h1
        rw [h1, ih h2]
  exact this e
theorem nd_of_map {α β : Type} {f : α → β} : ∀ {l : List α}, (l.map f).Nodup → l.Nodup
  | [], _ => List.nodup_nil
  | x :: l, h => by
    rw [List.map_cons, List.nodup_cons] at h
    rw [List.nodup_cons]
    exact ⟨fun m => h.1 (List.mem_map.mpr ⟨x, m, rfl⟩), nd_of_map h.2⟩
structure VD (kvs : List (List Key × V)) : Prop where
  nd : (kvs.map (·.1)).Nodup
  all : ∀ q ∈ kvs, ∃ (ts : List Int) (n : Int), q = (ts.map Sum.inl, .int n)
theorem putK_keys {κ : Type} [DecidableEq κ] {kvs : List (κ × V)} {k : κ} {v w : V} (h : valV kvs k = some w) : (putK kvs k v).map (·.1) = kvs.map (·.1) := by
  unfold putK
  rw [valV_any, h, if_pos (show (some w).isSome = true from rfl), List.map_map]
  refine List.map_congr_left fun q _ => ?_
  show (if q.1 = k then (q.1, v) else q).1 = q.1
  split <;> rfl
theorem VD.put {kvs : List (List Key × V)} (h : VD kvs) (ts : List Int) (n : Int) : VD (putK kvs (ts.map Sum.inl) (.int n)) := by
  refine ⟨?_, fun q m => ?_⟩
  · cases e : valV kvs (ts.map Sum.inl : List Key) with
    | none => exact nd_putK _ h.nd e
    | some w => rw [putK_keys e]; exact h.nd
  · unfold putK at m
    split at m
    · obtain ⟨p, pm, rfl⟩ := List.mem_map.mp m
      split
      · rename_i e
        exact ⟨ts, n, by rw [e]⟩
      · exact h.all p pm
    · rcases List.mem_append.mp m with m | m
      · exact h.all q m
      · exact ⟨ts, n, List.mem_singleton.mp m⟩
theorem VD.val {kvs : List (List Key × V)} (h : VD kvs) {k : List Key} {v : V} (e : valV kvs k = some v) : ∃ n : Int, v = .int n := by
  unfold valV at e
  cases c : kvs.find? fun kv => decide (kv.1 = k) with
  | none => rw [c] at e; cases e
  | some q =>
    rw [c] at e
    obtain ⟨ts, n, rfl⟩ := h.all q (List.mem_of_find?_eq_some c)
    exact ⟨n, (Option.some.inj e).symm⟩
theorem VD.keys {kvs : List (List Key × V)} (h : VD kvs) : ∃ ks : List (List Int), kvs.map (·.1) = ks.map (List.map Sum.inl) ∧ ks.length = kvs.length ∧ ks.Nodup ∧ ∀ ts, ts ∈ ks ↔ ∃ n : Int, valV kvs (ts.map Sum.inl) = some (.int n) := by
  have key : ∀ {l : List (List Key × V)}, (∀ q ∈ l, q ∈ kvs) → ∃ ks : List (List Int), l.map (·.1) = ks.map (List.map Sum.inl) ∧ ks.length = l.length := by
    intro l
    induction l with
    | nil => intro _; exact ⟨[], rfl, rfl⟩
    | cons q r ih =>
      intro sub
      obtain ⟨ks, e1, e2⟩ := ih fun p m => sub p (List.mem_cons_of_mem _ m)
      obtain ⟨ts, n, eq⟩ := h.all q (sub q (List.mem_cons_self ..))
      exact ⟨ts :: ks, by rw [List.map_cons, List.map_cons, e1, eq], by rw [List.length_cons, List.length_cons, e2]⟩
  obtain ⟨ks, e1, e2⟩ := key fun q m => m
  have mm : ∀ ts, ts ∈ ks ↔ (ts.map Sum.inl : List Key) ∈ kvs.map (·.1) := fun ts => by
    rw [e1]
    constructor
    · intro m; exact List.mem_map.mpr ⟨ts, m, rfl⟩
    · intro m
      obtain ⟨us, um, e⟩ := List.mem_map.mp m
      rw [← inl_inj e]
      exact um
  refine ⟨ks, e1, e2, ?_, fun ts => ⟨fun m => ?_, fun ⟨n, e⟩ => (mm ts).mpr (valV_in e)⟩⟩
  · have nd := h.nd
    rw [e1] at nd
    exact nd_of_map nd
  · cases c : valV kvs (ts.map Sum.inl : List Key) with
    | none => exact absurd ((mm ts).mp m) (valV_not c)
    | some v =>
      obtain ⟨n, rfl⟩ := h.val c
      exact ⟨n, rfl⟩
structure DictOf (ds : Ds) (kvs : List (List Key × V)) : Prop where
  vd : VD kvs
  val : ∀ ts : List Int, valV kvs (ts.map Sum.inl) = if ts ∈ ds.map (·.1) then some (.int (tot ds ts)) else none
theorem DictOf.nil : DictOf [] [] := ⟨⟨List.nodup_nil, fun _ m => nomatch m⟩, fun _ => rfl⟩
def oldV (kvs : List (List Key × V)) (ts : List Int) : Int := match valV kvs (ts.map Sum.inl : List Key) with
  | some (.int n) => n
  | _ => 0
theorem DictOf.put {ds : Ds} {kvs : List (List Key × V)} (h : DictOf ds kvs) (ts : List Int) (n : Int) : DictOf (ds ++ [(ts, n)]) (putK kvs (ts.map Sum.inl) (.int (tot ds ts + n))) := by
  refine ⟨h.vd.put ts _, fun us => ?_⟩
  rw [valV_put, h.val us, tot_append, List.map_append]
  show (if (us.map Sum.inl : List Key) = ts.map Sum.inl then _ else _) = if us ∈ ds.map (·.1) ++ [ts] then some (V.int (tot ds us + ((if ts = us then n else 0) + 0))) else none
  by_cases c : us = ts
  · subst c
    rw [if_pos rfl, if_pos (by simp), if_pos rfl]
    rw [Int.add_zero]
  · rw [if_neg (fun e => c (inl_inj e)), if_neg (Ne.symm c)]
    by_cases m : us ∈ ds.map (·.1)
    · rw [if_pos m, if_pos (by simp; left; simpa using m)]
      rw [Int.add_zero, Int.add_zero]
    · rw [if_neg m, if_neg (by simp; exact ⟨by simpa using m, c⟩)]
theorem nodup_len {α : Type} [DecidableEq α] : ∀ {l p : List α}, l.Nodup → (∀ x ∈ l, x ∈ p) → l.length ≤ p.length
  | [], _, _, _ => Nat.zero_le _
  | x :: l, p, n, s => by
    rw [List.nodup_cons] at n
    have m := s x (List.mem_cons_self ..)
    have ih := nodup_len (p := p.erase x) n.2 fun y hy => (List.mem_erase_of_ne (fun e : y = x => n.1 (by rw [← e]; exact hy))).mpr (s y (List.mem_cons_of_mem _ hy))
    rw [List.length_erase_of_mem m] at ih
    have := List.length_pos_of_mem m
    rw [List.length_cons]
    omega
theorem DictOf.len {ds : Ds} {kvs : List (List Key × V)} (h : DictOf ds kvs) {p : List (List Int)} (s : ∀ q ∈ ds, q.1 ∈ p) : kvs.length ≤ p.length := by
  obtain ⟨ks, _, e2, nd, mm⟩ := h.vd.keys
  rw [← e2]
  refine nodup_len nd fun ts m => ?_
  obtain ⟨n, e⟩ := (mm ts).mp m
  rw [h.val ts] at e
  by_cases c : ts ∈ ds.map (·.1)
  · obtain ⟨q, qm, rfl⟩ := List.mem_map.mp c
    exact s q qm
  · rw [if_neg c] at e; cases e
theorem DictOf.sheet {ds out : Ds} {kvs : List (List Key × V)} (h : DictOf ds kvs) (p : Pos ds) (srt : out.Pairwise (fun x y => HT.lexLt x.1 y.1 = true)) (mem : ∀ ts n, (ts, n) ∈ out ↔ valV kvs (ts.map Sum.inl) = some (.int n) ∧ 0 < n) : Sheet ds out := by
  refine ⟨srt, fun ts n => ?_⟩
  rw [mem, h.val]
  by_cases c : ts ∈ ds.map (·.1)
  · rw [if_pos c]
    constructor
    · rintro ⟨e, z⟩; injection e with e; injection e with e; exact ⟨e.symm, z⟩
    · rintro ⟨e, z⟩; exact ⟨by rw [e], z⟩
  · rw [if_neg c, tot_out c]
    constructor
    · rintro ⟨e, _⟩; cases e
    · rintro ⟨e, z⟩; omega
theorem old_val {ds : Ds} {kvs : List (List Key × V)} (h : DictOf ds kvs) (ts : List Int) : (valV kvs (ts.map Sum.inl : List Key)).getD (.int 0) = .int (tot ds ts) := by
  rw [h.val ts]
  by_cases c : ts ∈ ds.map (·.1)
  · rw [if_pos c]; rfl
  · rw [if_neg c, tot_out c]; rfl
def spBallots : Sp := fun vs H Q _ => ∃ (l : Addr) (ls : Ls), vs = [.ref l] ∧ H l = some (.lst (vls ls)) ∧ GoodL H ls ∧ ls.length ≤ 900 ∧ ∀ H' : Hp, Same H H' → Q (.int ((dsOf ls).map (·.2)).sum) H'
def spNumberOf : Sp := fun vs H Q _ => ∃ (l t : Addr) (ls : Ls) (ts : List Int), vs = [.ref l, .ref t] ∧ H l = some (.lst (vls ls)) ∧ GoodL H ls ∧ H t = some (.tup (ts.map V.int)) ∧ ls.length ≤ 900 ∧ ∀ H' : Hp, Same H H' → Q (.int (tot (dsOf ls) ts)) H'
theorem small900 {n : Nat} (h : n ≤ 900) : n ≤ sizeLine := Nat.le_of_lt (small1000 (by omega))
theorem tot_sum (ts : List Int) : ∀ ds : Ds, ((ds.filter fun q => decide (q.1 = ts)).map (·.2)).sum = tot ds ts
  | [] => rfl
  | q :: r => by
    show _ = (if q.1 = ts then q.2 else 0) + tot r ts
    by_cases c : q.1 = ts
    · rw [List.filter_cons_of_pos (by simpa using c), List.map_cons, List.sum_cons, tot_sum ts r, if_pos c]
    · rw [List.filter_cons_of_neg (by simpa using c), tot_sum ts r, if_neg c]
      omega
def maskOf (hs : List Int) : Int := (hs.map fun h => (1 : Int) * 2 ^ h.toNat).sum
theorem mask_le : ∀ {hs : List Int} {a n : Nat}, hs.Pairwise (· < ·) → (∀ h ∈ hs, (a : Int) ≤ h ∧ h < (n : Int)) → a ≤ n → 0 ≤ maskOf hs ∧ maskOf hs ≤ 2 ^ n - 2 ^ a
  | [], a, n, _, _, l => by
    have : (2 : Int) ^ a ≤ 2 ^ n := by
      have := Nat.pow_le_pow_right (show 0 < 2 by decide) l
      exact_mod_cast this
    exact ⟨Int.le_refl _, by show (0 : Int) ≤ _; omega⟩
  | h :: hs, a, n, p, k, l => by
    rw [List.pairwise_cons] at p
    obtain ⟨k1, k2⟩ := k h (List.mem_cons_self ..)
    obtain ⟨j, rfl⟩ : ∃ j : Nat, h = (j : Int) := ⟨h.toNat, by omega⟩
    have ih := mask_le (hs := hs) (a := j + 1) (n := n) p.2 (fun x m => ⟨by have := p.1 x m; omega, (k x (List.mem_cons_of_mem _ m)).2⟩) (by omega)
    show 0 ≤ 1 * 2 ^ (j : Int).toNat + maskOf hs ∧ 1 * 2 ^ (j : Int).toNat + maskOf hs ≤ _
    rw [Int.toNat_natCast, Int.one_mul]
    have e : (2 : Int) ^ (j + 1) = 2 ^ j * 2 := Int.pow_succ ..
    have le : (2 : Int) ^ a ≤ 2 ^ j := by
      have := Nat.pow_le_pow_right (show 0 < 2 by decide) (show a ≤ j by omega)
      exact_mod_cast this
    have pos : (0 : Int) < 2 ^ j := Int.pow_pos (by decide)
    omega
theorem mask_in {hs : List Int} {n : Nat} (p : hs.Pairwise (· < ·)) (k : ∀ h ∈ hs, 0 ≤ h ∧ h < (n : Int)) (ne : hs ≠ []) : 0 < maskOf hs ∧ maskOf hs < 2 ^ n := by
  have a := mask_le (a := 0) p k (Nat.zero_le _)
  have e : (2 : Int) ^ 0 = 1 := rfl
  refine ⟨?_, by omega⟩
  cases hs with
  | nil => exact absurd rfl ne
  | cons h hs =>
    obtain ⟨k1, k2⟩ := k h (List.mem_cons_self ..)
    rw [List.pairwise_cons] at p
    have b := mask_le (a := 0) p.2 (fun x m => k x (List.mem_cons_of_mem _ m)) (Nat.zero_le _)
    show 0 < 1 * 2 ^ h.toNat + maskOf hs
    have : (0 : Int) < 2 ^ h.toNat := Int.pow_pos (by decide)
    omega
theorem test_s {t : TT} {σ : St} {H : Hp} {Q : Bool → Hp → Prop} (b : Bool) (h : ∀ R : Bool → Hp → Prop, (∀ H', Same H H' → R b H') → t σ H R) (q : ∀ H', Same H H' → Q b H') : t σ H Q := h Q q
theorem or_test {t : TT} {σ : St} {H : Hp} {Q : Bool → Hp → Prop} (b : Bool) (h : ∀ R : Bool → Hp → Prop, R b H → t σ H R) (q : Q b H) : t σ H Q := h Q q
def spMask : Sp := fun vs H Q _ => ∃ (l : Addr) (hs : List Int), vs = [.ref l] ∧ H l = some (.lst (hs.map V.int)) ∧ hs.length ≤ 100 ∧ (∀ h ∈ hs, 0 ≤ h ∧ h < 64) ∧ ∀ H' : Hp, Same H H' → Q (.int (maskOf hs)) H'
theorem mem_putK {κ : Type} [DecidableEq κ] {kvs : List (κ × V)} {k : κ} {v : V} {q : κ × V} (h : q ∈ putK kvs k v) : q = (k, v) ∨ q ∈ kvs := by
  unfold putK at h
  split at h
  · obtain ⟨p, pm, rfl⟩ := List.mem_map.mp h
    by_cases c : p.1 = k
    · rw [if_pos c, c]; exact .inl rfl
    · rw [if_neg c]; exact .inr pm
  · rcases List.mem_append.mp h with m | m
    · exact .inr m
    · exact .inl (List.mem_singleton.mp m)
theorem nd_put {κ : Type} [DecidableEq κ] {kvs : List (κ × V)} {k : κ} {v : V} (h : (kvs.map (·.1)).Nodup) : ((putK kvs k v).map (·.1)).Nodup := by
  cases e : valV kvs k with
  | none => exact nd_putK _ h e
  | some w => rw [putK_keys e]; exact h
theorem valV_mem {κ : Type} [DecidableEq κ] {kvs : List (κ × V)} {k : κ} {v : V} (h : valV kvs k = some v) : (k, v) ∈ kvs := by
  unfold valV at h
  cases c : kvs.find? fun kv => decide (kv.1 = k) with
  | none => rw [c] at h; cases h
  | some q =>
    rw [c] at h
    have e : q.1 = k := of_decide_eq_true (List.find?_some (p := fun kv : κ × V => decide (kv.1 = k)) c)
    have f : q.2 = v := Option.some.inj h
    rw [← e, ← f]
    exact List.mem_of_find?_eq_some c
def TierL (n i : Nat) (w : Int) (hs : List Int) : Prop := hs ≠ [] ∧ hs.Pairwise (· < ·) ∧ ∀ h ∈ hs, 0 ≤ h ∧ h < (n : Int) ∧ (w = 1 ∨ w = 2 → h < (i : Int))
def TierD (J : Hp) (l : Addr) (n i : Nat) (w : Int) (kvs : List (Key × V)) : Prop := (kvs.map (·.1)).Nodup ∧ ∀ q ∈ kvs, ∃ (z : Int) (a : Addr) (hs : List Int), q = (Sum.inl z, .ref a) ∧ J a = some (.lst (hs.map V.int)) ∧ a ≠ l ∧ TierL n i w hs
theorem TierD.same {J J' : Hp} {l : Addr} {n i : Nat} {w : Int} {kvs : List (Key × V)} (s : Same J J') (h : TierD J l n i w kvs) : TierD J' l n i w kvs := ⟨h.1, fun q m => by
  obtain ⟨z, a, hs, e, h1, h2, h3⟩ := h.2 q m
  exact ⟨z, a, hs, e, s _ _ h1, h2, h3⟩⟩
theorem TierD.up {J : Hp} {l : Addr} {n i : Nat} {w : Int} {kvs : List (Key × V)} (h : TierD J l n i w kvs) : TierD J l n (i + 1) w kvs := ⟨h.1, fun q m => by
  obtain ⟨z, a, hs, e, h1, h2, h3, h4, h5⟩ := h.2 q m
  exact ⟨z, a, hs, e, h1, h2, h3, h4, fun x xm => ⟨(h5 x xm).1, (h5 x xm).2.1, fun k => by have := (h5 x xm).2.2 k; omega⟩⟩⟩
theorem TierD.off {J : Hp} {l : Addr} {n i : Nat} {w : Int} {kvs : List (Key × V)} {o : HO} (h : TierD J l n i w kvs) : TierD (upd J l o) l n i w kvs := ⟨h.1, fun q m => by
  obtain ⟨z, a, hs, e, h1, h2, h3⟩ := h.2 q m
  exact ⟨z, a, hs, e, by rw [upd_ne h2]; exact h1, h2, h3⟩⟩
theorem TierD.put {J : Hp} {l d a : Addr} {n i : Nat} {w z : Int} {kvs ks : List (Key × V)} {hs : List Int} (h : TierD J l n i w kvs) (hd : J d = some (.dK ks)) (ha : J a = some (.lst (hs.map V.int))) (al : a ≠ l) (t : TierL n i w hs) : TierD (upd J d (.dK (putK kvs (Sum.inl z) (.ref a)))) l n i w (putK kvs (Sum.inl z) (.ref a)) := by
  have keep : ∀ {b : Addr} {xs : List V}, J b = some (.lst xs) → (upd J d (.dK (putK kvs (Sum.inl z) (.ref a)))) b = some (.lst xs) := fun {b xs} e => by rw [upd_ne (ne_of e hd (fun z => nomatch z))]; exact e
  refine ⟨nd_put h.1, fun q m => ?_⟩
  rcases mem_putK m with rfl | m
  · exact ⟨z, a, hs, rfl, keep ha, al, t⟩
  · obtain ⟨z', a', hs', e, h1, h2, h3⟩ := h.2 q m
    exact ⟨z', a', hs', e, keep h1, h2, h3⟩
theorem TierD.keys {J : Hp} {l : Addr} {n i : Nat} {w : Int} {kvs : List (Key × V)} (h : TierD J l n i w kvs) : ∃ ns : List Int, kvs.map (·.1) = ns.map Sum.inl ∧ ns.length = kvs.length ∧ ∀ z ∈ ns, ∃ (a : Addr) (hs : List Int), valV kvs (Sum.inl z) = some (.ref a) ∧ J a = some (.lst (hs.map V.int)) ∧ TierL n i w hs := by
  have key : ∀ {r : List (Key × V)}, (∀ q ∈ r, q ∈ kvs) → ∃ ns : List Int, r.map (·.1) = ns.map Sum.inl ∧ ns.length = r.length := by
    intro r
    induction r with
    | nil => intro _; exact ⟨[], rfl, rfl⟩
    | cons q r ih =>
      intro sub
      obtain ⟨ns, e1, e2⟩ := ih fun p m => sub p (List.mem_cons_of_mem _ m)
      obtain ⟨z, a, hs, eq, _⟩ := h.2 q (sub q (List.mem_cons_self ..))
      exact ⟨z :: ns, by rw [List.map_cons, List.map_cons, e1, eq], by rw [List.length_cons, List.length_cons, e2]⟩
  obtain ⟨ns, e1, e2⟩ := key fun q m => m
  refine ⟨ns, e1, e2, fun z m => ?_⟩
  have zm : (Sum.inl z : Key) ∈ kvs.map (·.1) := by rw [e1]; exact List.mem_map.mpr ⟨z, m, rfl⟩
  cases c : valV kvs (Sum.inl z : Key) with
  | none => exact absurd zm (valV_not c)
  | some v =>
    obtain ⟨z', a, hs, eq, h1, _, h3⟩ := h.2 _ (valV_mem c)
    injection eq with eq1 eq2
    exact ⟨a, hs, by rw [eq2], h1, h3⟩
def OkT (n : Nat) (ts : List Int) : Prop := (∀ x ∈ ts, 0 < x ∧ x < 2 ^ n) ∧ ts.length ≤ 12
def spSlip16 : Sp := fun vs H Q _ => ∃ (c : Int) (n : Nat), vs = [.int c, .int (n : Int)] ∧ Sz 200 c ∧ 1 ≤ n ∧ n ≤ 12 ∧ ∀ (t : Addr) (ts : List Int) (H' : Hp), H t = none → Same H H' → H' t = some (.tup (ts.map V.int)) → OkT n ts → Q (.ref t) H'
def spNumber16 : Sp := fun vs H Q _ => ∃ c m : Int, vs = [.int c, .int m] ∧ Sz 200 c ∧ 1 ≤ m ∧ m ≤ 10 ^ 10 ∧ ∀ z : Int, 1 ≤ z → z ≤ m → Q (.int z) H
structure Drawn (n : Nat) (most : Int) (ds : Ds) : Prop where
  srt : ds.Pairwise (fun x y => HT.lexLt x.1 y.1 = true)
  ok : ∀ q ∈ ds, OkT n q.1 ∧ 1 ≤ q.2 ∧ q.2 ≤ 64 * most
  len : ds.length ≤ 13
  pos : 1 ≤ ds.length
def spSheet16 (K : PySem.W.Frag) : Sp := fun vs H Q _ => ∃ (p : Addr) (ns : List Int) (k : Int) (n m : Nat) (most : Int), vs = [.ref p, .int k, .int (n : Int), .int (m : Int), .int most] ∧ SqL K H p (ns.map V.int) ∧ ns.length ≤ 63 ∧ 0 ≤ k ∧ k ≤ 100 ∧ 1 ≤ n ∧ n ≤ 12 ∧ 1 ≤ m ∧ m ≤ 12 ∧ 1 ≤ most ∧ most ≤ 10 ^ 9 ∧
  ∀ (l : Addr) (ls : Ls) (H' : Hp), H l = none → Same H H' → H' l = some (.lst (vls ls)) → GoodL H' ls → Drawn n most (dsOf ls) → Q (.ref l) H'
theorem tot_most {most : Int} {ts : List Int} : ∀ {ds : Ds}, (∀ q ∈ ds, 1 ≤ q.2 ∧ q.2 ≤ most) → 0 ≤ most → tot ds ts ≤ (ds.length : Int) * most
  | [], _, m => by show (0 : Int) ≤ 0 * most; omega
  | q :: r, h, m => by
    have h1 := h q (List.mem_cons_self ..)
    have h2 := tot_most (ts := ts) (fun p k => h p (List.mem_cons_of_mem _ k)) m
    show (if q.1 = ts then q.2 else 0) + tot r ts ≤ ((r.length + 1 : Nat) : Int) * most
    rw [show ((r.length + 1 : Nat) : Int) * most = (r.length : Int) * most + most from by rw [Int.natCast_add, Int.add_mul]; omega]
    split <;> omega
theorem Sheet.drawn {n : Nat} {most : Int} {ds out : Ds} {p : List (List Int)} (h : Sheet ds out) (po : Pos ds) (sub : ∀ q ∈ ds, q.1 ∈ p) (ok : ∀ t ∈ p, OkT n t) (l13 : p.length ≤ 13) (ne : ds ≠ []) (b : ∀ ts, tot ds ts ≤ 64 * most) : Drawn n most out := by
  have key : ∀ q ∈ out, q.1 ∈ ds.map (·.1) := fun q m => by
    have := (h.mem q.1 q.2).mp m
    by_cases c : q.1 ∈ ds.map (·.1)
    · exact c
    · rw [tot_out c] at this
      omega
  refine ⟨h.srt, fun q m => ?_, ?_, ?_⟩
  · obtain ⟨d, dm, de⟩ := List.mem_map.mp (key q m)
    have a := (h.mem q.1 q.2).mp m
    exact ⟨ok _ (by rw [← de]; exact sub d dm), by omega, by rw [a.1]; exact b _⟩
  · have nd : (out.map (·.1)).Nodup := List.pairwise_map.mpr (h.srt.imp fun h e => by
      rw [e] at h
      have := lex_asym h
      rw [h] at this
      cases this)
    have := nodup_len (p := p) nd (fun t m => by
      obtain ⟨q, qm, rfl⟩ := List.mem_map.mp m
      obtain ⟨d, dm, de⟩ := List.mem_map.mp (key q qm)
      rw [← de]
      exact sub d dm)
    rw [List.length_map] at this
    omega
  · obtain ⟨d, r, rfl⟩ := List.exists_cons_of_ne_nil ne
    have t := tot_in (ts := d.1) po (by rw [List.map_cons]; exact List.mem_cons_self ..)
    exact List.length_pos_of_mem ((h.mem d.1 _).mpr ⟨rfl, t⟩)
def Lay (k : Nat) (d : PyData) : Prop := d.canLay0 = true ∧ d.depth ≤ k
mutual
theorem eqv_me : ∀ d : PyData, d.canLay0 = true → PyData.eqv d d = true
  | .none, _ => rfl
  | .bool b, _ => by show (b == b) = true; exact beq_self_eq_true b
  | .int i, _ => by show (i == i) = true; exact beq_self_eq_true i
  | .str x, _ => by show (x == x) = true; exact beq_self_eq_true x
  | .list xs, h => eqv_mes xs h
  | .tuple xs, h => eqv_mes xs h
  | .dict _, h => nomatch h
theorem eqv_mes : ∀ xs : List PyData, PyData.canLayAll0 xs = true → PyData.eqvAll xs xs = true
  | [], _ => rfl
  | x :: xs, h => by
    have h' : (PyData.canLay0 x && PyData.canLayAll0 xs) = true := h
    rw [Bool.and_eq_true] at h'
    show (PyData.eqv x x && PyData.eqvAll xs xs) = true
    rw [eqv_me x h'.1, eqv_mes xs h'.2]
    rfl
end
theorem lay_all {k : Nat} : ∀ {xs : List PyData}, (∀ x ∈ xs, Lay k x) → PyData.canLayAll0 xs = true ∧ PyData.depthAll xs ≤ k
  | [], _ => ⟨rfl, Nat.zero_le _⟩
  | x :: xs, h => by
    obtain ⟨a, b⟩ := lay_all (xs := xs) fun y m => h y (List.mem_cons_of_mem _ m)
    obtain ⟨c, d⟩ := h x (List.mem_cons_self ..)
    refine ⟨?_, ?_⟩
    · show (PyData.canLay0 x && PyData.canLayAll0 xs) = true
      rw [a, c]; rfl
    · show max (PyData.depth x) (PyData.depthAll xs) ≤ k
      omega
theorem lay_list {k : Nat} {xs : List PyData} (h : ∀ x ∈ xs, Lay k x) : Lay (k + 1) (.list xs) := ⟨(lay_all h).1, Nat.succ_le_succ (lay_all h).2⟩
theorem lay_tup {k : Nat} {xs : List PyData} (h : ∀ x ∈ xs, Lay k x) : Lay (k + 1) (.tuple xs) := ⟨(lay_all h).1, Nat.succ_le_succ (lay_all h).2⟩
theorem lay_int (k : Nat) (i : Int) : Lay k (.int i) := ⟨rfl, Nat.zero_le _⟩
theorem lay_map {α : Type} {k : Nat} {f : α → PyData} (h : ∀ x, Lay k (f x)) (xs : List α) : ∀ d ∈ xs.map f, Lay k d := fun d m => by
  obtain ⟨x, _, rfl⟩ := List.mem_map.mp m
  exact h x
theorem lay_ints (k : Nat) (ns : List Int) : ∀ d ∈ ns.map PyData.int, Lay k d := lay_map (fun i => lay_int k i) ns
theorem lay_pair {k : Nat} {a b : PyData} (ha : Lay k a) (hb : Lay k b) : Lay (k + 1) (.tuple [a, b]) := lay_tup fun x m => by
  rcases List.mem_cons.mp m with rfl | m
  · exact ha
  · rw [List.mem_singleton.mp m]; exact hb
theorem Lay.shaped {k : Nat} {d : PyData} (h : Lay k d) (k64 : k ≤ 64) : SeqAt.shaped d = true := by
  unfold SeqAt.shaped
  rw [h.1, decide_eq_true (Nat.le_trans h.2 k64)]
  rfl
theorem Lay.eqv {k : Nat} {d : PyData} (h : Lay k d) : PyData.eqv d d = true := eqv_me d h.1
theorem reps_map {α : Type} {K : PySem.W.Frag} {H : Hp} {v : α → V} {d : α → PyData} : ∀ {xs : List α}, (∀ x ∈ xs, Rep K H (v x) (d x)) → Reps K H (xs.map v) (xs.map d)
  | [], _ => .nil
  | x :: xs, h => .cons (h x (List.mem_cons_self ..)) (reps_map fun y m => h y (List.mem_cons_of_mem _ m))
def notTbl : HO → Bool
  | .tbl _ => false
  | _ => true
structure Sm (H H' : Hp) : Prop where
  keep : ∀ b u, H b = some u → notTbl u = true → H' b = some u
  gone : ∀ b, H' b = none → H b = none
theorem Sm.of {H H' : Hp} (s : Same H H') : Sm H H' := ⟨fun b u e _ => s b u e, fun b e => none_of s e⟩
theorem Sm.refl (H : Hp) : Sm H H := ⟨fun _ _ e _ => e, fun _ e => e⟩
theorem Sm.trans {H H1 H2 : Hp} (a : Sm H H1) (b : Sm H1 H2) : Sm H H2 := ⟨fun c u e n => b.keep c u (a.keep c u e n) n, fun c e => a.gone c (b.gone c e)⟩
theorem Sm.put {H H' : Hp} {l : Addr} {o : HO} (s : Sm H H') (n : H l = none) : Sm H (upd H' l o) := ⟨fun b u e k => by
  rw [upd_ne (ne_of_none e n)]
  exact s.keep b u e k, fun b e => by
  by_cases c : b = l
  · rw [c]; exact n
  · rw [upd_ne c] at e; exact s.gone b e⟩
theorem Sm.lst {H H' : Hp} (s : Sm H H') {b : Addr} {xs : List V} (e : H b = some (.lst xs)) : H' b = some (.lst xs) := s.keep _ _ e rfl
theorem Sm.tup {H H' : Hp} (s : Sm H H') {b : Addr} {xs : List V} (e : H b = some (.tup xs)) : H' b = some (.tup xs) := s.keep _ _ e rfl
theorem sm_lam {P : Addr} {pos : PySem.Pos} {q : Str} {H H' : Hp} (t : LamT P pos q H) (s : SmL P H H') (g : ∀ b, H' b = none → H b = none) : Sm H H' := ⟨fun b u e n => s b u (fun z => by
  rw [z] at e
  rcases t with t | ⟨_, t, _⟩
  · rw [t] at e; rw [← Option.some.inj e] at n; cases n
  · rw [t] at e; rw [← Option.some.inj e] at n; cases n) e, g⟩
abbrev LT (P : Addr) (H : Hp) : Prop := LamT P lamPos lamQ H
def turnI (ts : List Int) (x y : Nat) : Int := match ts with
  | [] => 1
  | a :: _ => if a = 2 ^ x then 0 else if bit a y = true then 2 else 1
theorem turn_in (ts : List Int) (x y : Nat) : turnI ts x y = 0 ∨ turnI ts x y = 1 ∨ turnI ts x y = 2 := by
  unfold turnI
  split
  · exact .inr (.inl rfl)
  · split
    · exact .inl rfl
    · split
      · exact .inr (.inr rfl)
      · exact .inr (.inl rfl)
def takeI : Ds → Int → Ds
  | [], _ => []
  | q :: r, m => (if 0 < min q.2 m then [(q.1, min q.2 m)] else []) ++ takeI r (m - min q.2 m)
def restI : Ds → Int → Int
  | [], m => m
  | q :: r, m => restI r (m - min q.2 m)
theorem take_append : ∀ (a b : Ds) (m : Int), takeI (a ++ b) m = takeI a m ++ takeI b (restI a m) ∧ restI (a ++ b) m = restI b (restI a m)
  | [], b, m => ⟨rfl, rfl⟩
  | q :: r, b, m => by
    obtain ⟨h1, h2⟩ := take_append r b (m - min q.2 m)
    refine ⟨?_, h2⟩
    show _ ++ takeI (r ++ b) _ = (_ ++ takeI r _) ++ takeI b _
    rw [h1, List.append_assoc]
    rfl
theorem rest_pos : ∀ (a : Ds) {m : Int}, 0 ≤ m → 0 ≤ restI a m
  | [], m, h => h
  | q :: r, m, h => rest_pos r (by omega)
theorem take_len : ∀ (a : Ds) (m : Int), (takeI a m).length ≤ a.length
  | [], m => Nat.le_refl _
  | q :: r, m => by
    have := take_len r (m - min q.2 m)
    show (_ ++ takeI r _).length ≤ r.length + 1
    rw [List.length_append]
    split
    · rw [List.length_singleton]; omega
    · rw [List.length_nil]; omega
def ofTurn (put : List Int) (x y : Nat) (k : Int) (ds : Ds) : Ds := ds.filter fun q => (!decide (q.1 = put)) && decide (turnI q.1 x y = k)
def inTurn (put : List Int) (x y : Nat) (ds : Ds) : Ds := ofTurn put x y 0 ds ++ ofTurn put x y 1 ds ++ ofTurn put x y 2 ds
theorem turn_more (put : List Int) (x y : Nat) (k : Int) (a b : Ds) : ofTurn put x y k (a ++ b) = ofTurn put x y k a ++ ofTurn put x y k b := List.filter_append ..
theorem inTurn_len (put : List Int) (x y : Nat) (ds : Ds) : (inTurn put x y ds).length ≤ 3 * ds.length := by
  unfold inTurn ofTurn
  rw [List.length_append, List.length_append]
  have a := List.length_filter_le (fun q : List Int × Int => (!decide (q.1 = put)) && decide (turnI q.1 x y = 0)) ds
  have b := List.length_filter_le (fun q : List Int × Int => (!decide (q.1 = put)) && decide (turnI q.1 x y = 1)) ds
  have c := List.length_filter_le (fun q : List Int × Int => (!decide (q.1 = put)) && decide (turnI q.1 x y = 2)) ds
  omega
theorem stable3 {α : Type} (xs : List α) (d : α) (f : Nat → Int) (g : α → Int) (hf : ∀ i, i < xs.length → f i = g (xs.getD i d)) (h3 : ∀ a, g a = 0 ∨ g a = 1 ∨ g a = 2) {p : Array Nat} (pr : Prm xs.length p) (st : Stb (O := intO) f p xs.length) :
    p.toList.map (fun i => xs.getD i d) = xs.filter (fun a => decide (g a = 0)) ++ xs.filter (fun a => decide (g a = 1)) ++ xs.filter (fun a => decide (g a = 2)) := by
  have kle : ∀ {a b : Int}, intO.kle a b ↔ a ≤ b := fun {a b} => by
    show decide (b < a) = false ↔ _
    rw [decide_eq_false_iff_not]
    omega
  have klt : ∀ {a b : Int}, intO.klt a b ↔ a < b := fun {a b} => by
    show decide (a < b) = true ↔ _
    rw [decide_eq_true_eq]
  let L := (List.range xs.length).filter (fun i => decide (f i = 0)) ++ (List.range xs.length).filter (fun i => decide (f i = 1)) ++ (List.range xs.length).filter (fun i => decide (f i = 2))
  have pw : ∀ k : Int, ((List.range xs.length).filter fun i => decide (f i = k)).Pairwise (Ah (O := intO) f) := fun k => by
    refine (List.pairwise_lt_range.filter _).imp_of_mem fun {a b} ma mb ab => ?_
    have ea := of_decide_eq_true (List.mem_filter.mp ma).2
    have eb := of_decide_eq_true (List.mem_filter.mp mb).2
    exact ⟨kle.mpr (by omega), .inr ab⟩
  have ac : ∀ {k m : Int}, k < m → ∀ a ∈ (List.range xs.length).filter (fun i => decide (f i = k)), ∀ b ∈ (List.range xs.length).filter (fun i => decide (f i = m)), Ah (O := intO) f a b := fun {k m} km a ma b mb => by
    have ea := of_decide_eq_true (List.mem_filter.mp ma).2
    have eb := of_decide_eq_true (List.mem_filter.mp mb).2
    exact ⟨kle.mpr (by omega), .inl (klt.mpr (by omega))⟩
  have pL : L.Pairwise (Ah (O := intO) f) := List.pairwise_append.mpr ⟨List.pairwise_append.mpr ⟨pw 0, pw 1, ac (by decide)⟩, pw 2, fun a ma b mb => (List.mem_append.mp ma).elim (fun m => ac (by decide) a m b mb) fun m => ac (by decide) a m b mb⟩
  have pp : p.toList.Pairwise (Ah (O := intO) f) := by
    rw [List.pairwise_iff_getElem]
    intro i j hi hj hij
    have hz := pr.size
    have a := st i j hij (by rw [← hz]; simpa using hj)
    have ei : p.getD i 0 = p.toList[i] := by simp [Array.getD, show i < p.size by simpa using hi]
    have ej : p.getD j 0 = p.toList[j] := by simp [Array.getD, show j < p.size by simpa using hj]
    rw [ei, ej] at a
    exact a
  have anti : ∀ a b, Ah (O := intO) f a b → Ah (O := intO) f b a → a = b := fun a b h1 h2 => by
    have k1 := kle.mp h1.1
    have k2 := kle.mp h2.1
    rcases h1.2 with c | c
    · have := klt.mp c; omega
    · rcases h2.2 with e | e
      · have := klt.mp e; omega
      · omega
  have irr : ∀ {l : List Nat}, l.Pairwise (Ah (O := intO) f) → l.Nodup := fun h => h.imp fun {a b} ab e => by
    rw [e] at ab
    rcases ab.2 with c | c
    · have := klt.mp c; omega
    · omega
  have pm : p.toList.Perm L := (List.perm_ext_iff_of_nodup (irr pp) (irr pL)).mpr fun a => by
    rw [pr.mem_iff, List.mem_append, List.mem_append, List.mem_filter, List.mem_filter, List.mem_filter]
    constructor
    · intro m
      have e := hf a (List.mem_range.mp m)
      rcases h3 (xs.getD a d) with z | z | z
      · exact .inl (.inl ⟨m, decide_eq_true (by omega)⟩)
      · exact .inl (.inr ⟨m, decide_eq_true (by omega)⟩)
      · exact .inr ⟨m, decide_eq_true (by omega)⟩
    · rintro ((m | m) | m)
      · exact m.1
      · exact m.1
      · exact m.1
  have e : p.toList = L := List.Perm.eq_of_pairwise (fun a b _ _ => anti a b) pp pL pm
  have part : ∀ k : Int, ((List.range xs.length).filter fun i => decide (f i = k)).map (fun i => xs.getD i d) = xs.filter fun a => decide (g a = k) := fun k => by
    have ex : xs = (List.range xs.length).map fun i => xs.getD i d := by
      apply List.ext_getElem
      · simp
      · intro i h1 h2
        simp [h1]
    conv => rhs; rw [ex]
    rw [List.filter_map]
    congr 1
    refine List.filter_congr fun i m => ?_
    show decide (f i = k) = decide (g (xs.getD i d) = k)
    rw [hf i (List.mem_range.mp m)]
  rw [e]
  show (_ ++ _ ++ _ : List Nat).map _ = _
  rw [List.map_append, List.map_append, part, part, part]
abbrev Rw := List (Addr × Addr × List Int × Int)
def vrw (rs : Rw) : List V := rs.map fun q => .ref q.1
def RwAt (sl : Addr) (H : Hp) (rs : Rw) : Prop := ∀ q ∈ rs, H q.1 = some (.tup [.ref q.2.1, .ref sl, .int q.2.2.2]) ∧ H q.2.1 = some (.tup (q.2.2.1.map V.int))
theorem RwAt.same {sl : Addr} {H H' : Hp} {rs : Rw} (s : Same H H') (g : RwAt sl H rs) : RwAt sl H' rs := fun q m => ⟨s _ _ (g q m).1, s _ _ (g q m).2⟩
theorem RwAt.upd {sl l : Addr} {H : Hp} {rs : Rw} {xs : List V} {o : HO} (e : H l = some (.lst xs)) (g : RwAt sl H rs) : RwAt sl (L2.upd H l o) rs := fun q m => ⟨by
  rw [upd_ne (ne_of (g q m).1 e (fun z => nomatch z))]; exact (g q m).1, by
  rw [upd_ne (ne_of (g q m).2 e (fun z => nomatch z))]; exact (g q m).2⟩
theorem RwAt.push {sl : Addr} {H : Hp} {rs : Rw} {q : Addr × Addr × List Int × Int} (g : RwAt sl H rs) (e1 : H q.1 = some (.tup [.ref q.2.1, .ref sl, .int q.2.2.2])) (e2 : H q.2.1 = some (.tup (q.2.2.1.map V.int))) : RwAt sl H (rs ++ [q]) := fun r m => by
  rcases List.mem_append.mp m with m | m
  · exact g r m
  · rw [List.mem_singleton.mp m]; exact ⟨e1, e2⟩
def rwD (put : List Int) (q : List Int × Int) : PyData := .tuple [.tuple (q.1.map .int), .tuple (put.map .int), .int q.2]
theorem lay_rw (put : List Int) (q : List Int × Int) : Lay 2 (rwD put q) := lay_tup fun d m => by
  rcases List.mem_cons.mp m with rfl | m
  · exact lay_tup (lay_ints 0 _)
  rcases List.mem_cons.mp m with rfl | m
  · exact lay_tup (lay_ints 0 _)
  · rw [List.mem_singleton.mp m]; exact lay_int _ _
theorem reps_rw {K : PySem.W.Frag} {sl : Addr} {H : Hp} {rs : Rw} {put : List Int} (g : RwAt sl H rs) (hs : H sl = some (.tup (put.map V.int))) : Reps K H (vrw rs) ((rs.map (·.2.2)).map (rwD put)) := by
  rw [List.map_map]
  exact reps_map fun q m => .tup (SqT.of (g q m).1) (.cons (.tup (SqT.of (g q m).2) (.ints _)) (.cons (.tup (SqT.of hs) (.ints _)) (.cons (.int _) .nil)))
theorem vrw_len (rs : Rw) : (vrw rs).length = rs.length := List.length_map _
def lnD (q : Addr × Addr × List Int × Int) : PyData := .tuple [.tuple (q.2.2.1.map .int), .int q.2.2.2]
theorem lay_lns (ls : Ls) : Lay 3 (.list (ls.map lnD)) := lay_list (lay_map (fun q => lay_pair (lay_tup (lay_ints 0 _)) (lay_int 1 _)) ls)
theorem reps_ln {K : PySem.W.Frag} {H : Hp} {ls : Ls} (g : GoodL H ls) : Reps K H (vls ls) (ls.map lnD) := reps_map fun q m => .tup (SqT.of (g q m).1) (.cons (.tup (SqT.of (g q m).2) (.ints _)) (.cons (.int _) .nil))
def spTurn : Sp := fun vs H Q _ => ∃ (t : Addr) (ts : List Int) (x y : Nat), vs = [.ref t, .int (x : Int), .int (y : Int)] ∧ H t = some (.tup (ts.map V.int)) ∧ (∀ a ∈ ts, 0 < a ∧ a < 2 ^ 12) ∧ x < 12 ∧ y < 12 ∧ ∀ H' : Hp, Same H H' → Q (.int (turnI ts x y)) H'
def spRowsTo : Sp := fun vs H Q _ => ∃ (l sl : Addr) (ls : Ls) (m : Int), vs = [.ref l, .ref sl, .int m] ∧ H l = some (.lst (vls ls)) ∧ GoodL H ls ∧ ls.length ≤ 60 ∧
  ∀ (r : Addr) (rs : Rw) (H' : Hp), H r = none → Same H H' → H' r = some (.lst (vrw rs)) → RwAt sl H' rs → rs.map (·.2.2) = takeI (dsOf ls) m → Q (.ref r) H'
def spFree : Sp := fun vs H Q _ => ∃ (l t : Addr) (ls : Ls) (ts : List Int), vs = [.ref l, .ref t] ∧ H l = some (.lst (vls ls)) ∧ GoodL H ls ∧ H t = some (.tup (ts.map V.int)) ∧ ls.length ≤ 60 ∧ ∀ H' : Hp, Same H H' → Q (.int (((dsOf ls).map (·.2)).sum - tot (dsOf ls) ts)) H'
def spShift (P : Addr) : Sp := fun vs H Q _ => ∃ (l sl : Addr) (ls : Ls) (put : List Int) (x y : Nat) (m : Int), vs = [.ref l, .int (x : Int), .int (y : Int), .ref sl, .int m] ∧ H l = some (.lst (vls ls)) ∧ GoodL H ls ∧ (∀ q ∈ dsOf ls, ∀ a ∈ q.1, 0 < a ∧ a < 2 ^ 12) ∧ ls.length ≤ 13 ∧ H sl = some (.tup (put.map V.int)) ∧ x < 12 ∧ y < 12 ∧ LT P H ∧
  ∀ (r : Addr) (rs : Rw) (H' : Hp), H r = none → Sm H H' → LT P H' → H' r = some (.lst (vrw rs)) → RwAt sl H' rs → rs.map (·.2.2) = takeI (inTurn put x y (dsOf ls)) m → Q (.ref r) H'
theorem one12 : ∀ y : Fin 12, Builtin.bitOr 0 ((1 : Int) * 2 ^ y.val) = (2 : Int) ^ y.val := by decide +kernel
theorem holds_no (m : Int) (h : Int) : decide (V.int (Builtin.bitAnd (m / 2 ^ h.toNat) 1) = V.int 0) = !bit m h.toNat := by
  rw [and1, mod_bit]
  cases bit m h.toNat <;> rfl
def spDue : Sp := fun vs H Q _ => ∃ (l sl : Addr) (ls : Ls) (put : List Int) (x y : Nat) (m : Int), vs = [.ref l, .int (x : Int), .int (y : Int), .ref sl, .int m] ∧ H l = some (.lst (vls ls)) ∧ GoodL H ls ∧ (∀ q ∈ dsOf ls, (∀ a ∈ q.1, 0 < a ∧ a < 2 ^ 12) ∧ 1 ≤ q.2) ∧ ls.length ≤ 13 ∧ H sl = some (.tup (put.map V.int)) ∧ x < 12 ∧ y < 12 ∧ 0 ≤ m ∧
  ∀ (r : Addr) (rs : Rw) (H' : Hp), H r = none → Same H H' → H' r = some (.lst (vrw rs)) → RwAt sl H' rs → rs.map (·.2.2) = takeI (inTurn put x y (dsOf ls)) m → Q (.ref r) H'
theorem turn_no {put : List Int} {x y : Nat} {k : Int} {q : List Int × Int} (c : q.1 = put ∨ turnI q.1 x y ≠ k) : ofTurn put x y k [q] = [] := by
  unfold ofTurn
  rw [List.filter_cons_of_neg, List.filter_nil]
  rcases c with c | c
  · rw [decide_eq_true c]; exact Bool.false_ne_true
  · rw [decide_eq_false c, Bool.and_false]; exact Bool.false_ne_true
theorem turn_yes {put : List Int} {x y : Nat} {k : Int} {q : List Int × Int} (c : q.1 ≠ put) (d : turnI q.1 x y = k) : ofTurn put x y k [q] = [q] := by
  unfold ofTurn
  rw [List.filter_cons_of_pos, List.filter_nil]
  rw [decide_eq_false c, decide_eq_true d]
  rfl
def spAlike : Sp := fun vs H Q _ => ∃ (a b sl : Addr) (rs us : Rw) (put : List Int), vs = [.ref a, .ref b] ∧ H a = some (.lst (vrw rs)) ∧ H b = some (.lst (vrw us)) ∧ RwAt sl H rs ∧ RwAt sl H us ∧ H sl = some (.tup (put.map V.int)) ∧ rs.map (·.2.2) = us.map (·.2.2) ∧ Q (.bl true) H
def passI (put : List Int) (x y : Nat) (ds : Ds) : Nat → Ds
  | 0 => []
  | k + 1 => passI put x y ds k ++ ofTurn put x y (k : Int) ds
theorem pass_len (put : List Int) (x y : Nat) (ds : Ds) : ∀ k, (passI put x y ds k).length ≤ k * ds.length
  | 0 => Nat.zero_le _
  | k + 1 => by
    have a := pass_len put x y ds k
    have b : (ofTurn put x y (k : Int) ds).length ≤ ds.length := List.length_filter_le ..
    show (_ ++ _ : Ds).length ≤ _
    rw [List.length_append, Nat.succ_mul]
    omega
def othersL (put : List Int) (ls : Ls) : Ls := ls.filter fun q => !decide (q.2.2.1 = put)
theorem others_in (put : List Int) (ls : Ls) : ∀ q ∈ othersL put ls, q ∈ ls := fun q m => (List.mem_filter.mp m).1
theorem others_turn (put : List Int) (x y : Nat) (k : Int) (ls : Ls) : dsOf ((othersL put ls).filter fun q => decide (turnI q.2.2.1 x y = k)) = ofTurn put x y k (dsOf ls) := by
  unfold othersL ofTurn dsOf
  rw [List.filter_filter, List.filter_map]
  congr 1
  refine List.filter_congr fun q _ => ?_
  exact Bool.and_comm ..
def spPut (K : PySem.W.Frag) : Sp := fun vs H Q _ => ∃ (p l : Addr) (ns : List Int) (ls : Ls) (n x y : Nat), vs = [.ref p, .ref l, .int (n : Int), .int (x : Int), .int (y : Int)] ∧ SqL K H p (ns.map V.int) ∧ ns.length ≤ 63 ∧ H l = some (.lst (vls ls)) ∧ GoodL H ls ∧ ls.length ≤ 13 ∧ n ≤ 12 ∧ x < n ∧ y < n ∧
  ∀ (t : Addr) (ts : List Int) (H' : Hp), Same H H' → H' t = some (.tup (ts.map V.int)) → Q (.ref t) H'
def othN (put : List Int) (ds : Ds) : List Int := (ds.filter fun q => !decide (q.1 = put)).map (·.2)
def spMany (K : PySem.W.Frag) : Sp := fun vs H Q _ => ∃ (p l sl : Addr) (ns : List Int) (ls : Ls) (put : List Int) (M : Int), vs = [.ref p, .ref l, .ref sl, .int M] ∧ SqL K H p (ns.map V.int) ∧ ns.length ≤ 63 ∧ H l = some (.lst (vls ls)) ∧ GoodL H ls ∧ (∀ q ∈ dsOf ls, 0 ≤ q.2 ∧ q.2 ≤ 10 ^ 11) ∧ ls.length ≤ 13 ∧ H sl = some (.tup (put.map V.int)) ∧ M = (othN put (dsOf ls)).sum ∧
  ∀ (z : Int) (H' : Hp), Same H H' → 0 ≤ z → z ≤ M → Q (.int z) H'
theorem sums_in {os : List Int} {j : Nat} (h : ∀ a ∈ os, 0 ≤ a ∧ a ≤ 10 ^ 11) : 0 ≤ (os.take j).sum ∧ (os.take j).sum ≤ os.sum ∧ os.sum ≤ (os.length : Int) * 10 ^ 11 := by
  induction os generalizing j with
  | nil => rw [List.take_nil]; exact ⟨Int.le_refl _, Int.le_refl _, Int.le_refl _⟩
  | cons a r ih =>
    have ha := h a (List.mem_cons_self ..)
    have hr : ∀ b ∈ r, 0 ≤ b ∧ b ≤ 10 ^ 11 := fun b m => h b (List.mem_cons_of_mem _ m)
    cases j with
    | zero =>
      obtain ⟨i1, i2, i3⟩ := ih (j := 0) hr
      rw [List.take_zero, List.sum_cons, List.length_cons, List.sum_nil, Int.natCast_add, Int.add_mul]
      rw [List.take_zero, List.sum_nil] at i2
      refine ⟨Int.le_refl _, by omega, by omega⟩
    | succ j =>
      obtain ⟨i1, i2, i3⟩ := ih (j := j) hr
      rw [List.take_succ_cons, List.sum_cons, List.sum_cons, List.length_cons, Int.natCast_add, Int.add_mul]
      refine ⟨by omega, by omega, by omega⟩
theorem oth_sum (put : List Int) : ∀ ds : Ds, (othN put ds).sum = (ds.map (·.2)).sum - tot ds put
  | [] => rfl
  | q :: r => by
    have ih := oth_sum put r
    show (((q :: r).filter fun q => !decide (q.1 = put)).map (·.2)).sum = (q.2 + (r.map (·.2)).sum) - ((if q.1 = put then q.2 else 0) + tot r put)
    unfold othN at ih
    by_cases c : q.1 = put
    · rw [List.filter_cons_of_neg (by rw [decide_eq_true c]; decide), if_pos c, ih]; omega
    · rw [List.filter_cons_of_pos (by rw [decide_eq_false c]; rfl), if_neg c, List.map_cons, List.sum_cons, ih]; omega
def top (i : Nat) : Stmt := PySem.Challenge.pw_pollproof_k73_shifts.main.body.getD i (.Pass ⟨0, 0, 0, 0⟩)
abbrev s_holds : Stmt := top 1
abbrev s_with_one : Stmt := top 2
abbrev s_ballots_in : Stmt := top 4
abbrev s_number_of : Stmt := top 5
abbrev s_rows_to : Stmt := top 9
abbrev s_law_cell : Stmt := top 12
abbrev s_law_mixed : Stmt := top 13
abbrev s_law_mask : Stmt := top 15
abbrev s_law_number : Stmt := top 17
abbrev s_law_whole : Stmt := top 19
abbrev s_law_turn : Stmt := top 21
abbrev s_free_for : Stmt := top 7
abbrev s_turn_of : Stmt := top 8
abbrev s_law_slip : Stmt := top 16
abbrev s_law_put : Stmt := top 20
abbrev s_law_due : Stmt := top 22
abbrev s_law_alike : Stmt := top 23
abbrev s_law_many : Stmt := top 24
abbrev s_law_sheet : Stmt := top 18
abbrev s_shift : Stmt := top 10
abbrev s_law : Stmt := top 25
theorem sc_holds : FnScope ["mask", "hand"] ["mask", "hand"] (defScope s_holds) := ⟨rfl, rfl, rfl, by decide +kernel, rfl, by decide +kernel, by decide +kernel⟩
theorem sc_with_one : FnScope ["mask", "hand"] ["mask", "hand"] (defScope s_with_one) := ⟨rfl, rfl, rfl, by decide +kernel, rfl, by decide +kernel, by decide +kernel⟩
theorem sc_ballots_in : FnScope ["sheet"] ["sheet"] (defScope s_ballots_in) := ⟨rfl, rfl, rfl, by decide +kernel, rfl, by decide +kernel, by decide +kernel⟩
theorem sc_number_of : FnScope ["sheet", "slip"] ["sheet", "slip"] (defScope s_number_of) := ⟨rfl, rfl, rfl, by decide +kernel, rfl, by decide +kernel, by decide +kernel⟩
theorem sc_rows_to : FnScope ["lines", "slip", "many", "rows", "wanted", "old", "number", "taken"] ["lines", "slip", "many"] (defScope s_rows_to) := ⟨rfl, rfl, rfl, by decide +kernel, rfl, by decide +kernel, by decide +kernel⟩
theorem sc_law_cell : FnScope ["_law_script", "_law_k", "_law_number_here"] ["_law_script", "_law_k"] (defScope s_law_cell) := ⟨rfl, rfl, rfl, by decide +kernel, rfl, by decide +kernel, by decide +kernel⟩
theorem sc_law_mixed : FnScope ["_law_cell_here", "_law_by", "_law_step"] ["_law_cell_here", "_law_by"] (defScope s_law_mixed) := ⟨rfl, rfl, rfl, by decide +kernel, rfl, by decide +kernel, by decide +kernel⟩
theorem sc_law_mask : FnScope ["_law_some"] ["_law_some"] (defScope s_law_mask) := ⟨rfl, rfl, rfl, by decide +kernel, rfl, by decide +kernel, by decide +kernel⟩
theorem sc_law_number : FnScope ["_law_cell_here", "_law_most"] ["_law_cell_here", "_law_most"] (defScope s_law_number) := ⟨rfl, rfl, rfl, by decide +kernel, rfl, by decide +kernel, by decide +kernel⟩
theorem sc_law_whole : FnScope ["_law_found"] ["_law_found"] (defScope s_law_whole) := ⟨rfl, rfl, rfl, by decide +kernel, rfl, by decide +kernel, by decide +kernel⟩
theorem sc_law_turn : FnScope ["_law_slip_here", "_law_x", "_law_y"] ["_law_slip_here", "_law_x", "_law_y"] (defScope s_law_turn) := ⟨rfl, rfl, rfl, by decide +kernel, rfl, by decide +kernel, by decide +kernel⟩
theorem sc_free_for : FnScope ["sheet", "slip"] ["sheet", "slip"] (defScope s_free_for) := ⟨rfl, rfl, rfl, by decide +kernel, rfl, by decide +kernel, by decide +kernel⟩
theorem sc_turn_of : FnScope ["slip", "x", "y"] ["slip", "x", "y"] (defScope s_turn_of) := ⟨rfl, rfl, rfl, by decide +kernel, rfl, by decide +kernel, by decide +kernel⟩
theorem sc_law_slip : FnScope ["_law_cell_here", "_law_hands", "_law_number_here", "_law_way", "_law_many_here", "_law_left", "_law_tiers", "_law_k", "_law_base", "_law_lot"] ["_law_cell_here", "_law_hands"] (defScope s_law_slip) := ⟨rfl, rfl, rfl, by decide +kernel, rfl, by decide +kernel, by decide +kernel⟩
theorem sc_law_put : FnScope ["_law_script", "_law_sheet_here", "_law_hands", "_law_x", "_law_y", "_law_cell_here", "_law_others", "_law_some", "_law_slip_here", "_law_number_here"] ["_law_script", "_law_sheet_here", "_law_hands", "_law_x", "_law_y"] (defScope s_law_put) := ⟨rfl, rfl, rfl, by decide +kernel, rfl, by decide +kernel, by decide +kernel⟩
theorem sc_law_due : FnScope ["_law_sheet_here", "_law_x", "_law_y", "_law_put_here", "_law_many_here", "_law_rows", "_law_turn_here", "_law_slip_here", "_law_number_here", "_law_taken"] ["_law_sheet_here", "_law_x", "_law_y", "_law_put_here", "_law_many_here"] (defScope s_law_due) := ⟨rfl, rfl, rfl, by decide +kernel, rfl, by decide +kernel, by decide +kernel⟩
theorem sc_law_alike : FnScope ["_law_found", "_law_due_here", "_law_row"] ["_law_found", "_law_due_here"] (defScope s_law_alike) := ⟨rfl, rfl, rfl, by decide +kernel, rfl, by decide +kernel, by decide +kernel⟩
theorem sc_law_many : FnScope ["_law_script", "_law_sheet_here", "_law_put_here", "_law_most", "_law_cell_here", "_law_other", "_law_ends"] ["_law_script", "_law_sheet_here", "_law_put_here", "_law_most"] (defScope s_law_many) := ⟨rfl, rfl, rfl, by decide +kernel, rfl, by decide +kernel, by decide +kernel⟩
theorem sc_law_sheet : FnScope ["_law_script", "_law_at", "_law_hands", "_law_lines", "_law_most", "_law_slips", "_law_many_here", "_law_k", "_law_slip_here", "_law_lead"] ["_law_script", "_law_at", "_law_hands", "_law_lines", "_law_most"] (defScope s_law_sheet) := ⟨rfl, rfl, rfl, by decide +kernel, rfl, by decide +kernel, by decide +kernel⟩
theorem sc_shift : FnScope ["sheet", "x", "y", "slip", "many", "others"] ["sheet", "x", "y", "slip", "many"] (defScope s_shift) := ⟨rfl, rfl, rfl, by decide +kernel, rfl, by decide +kernel, by decide +kernel⟩
theorem sc_law : FnScope ["_law_script", "_law_hands", "_law_x", "_law_y", "_law_sheet_here", "_law_put_here", "_law_most", "_law_lent", "_law_found", "_law_many_here", "_law_number_here"] ["_law_script"] (defScope s_law) := ⟨rfl, rfl, rfl, by decide +kernel, rfl, by decide +kernel, by decide +kernel⟩
structure Ads where
  f_holds : Addr
  d_holds : FuncData
  f_with_one : Addr
  d_with_one : FuncData
  f_ballots_in : Addr
  d_ballots_in : FuncData
  f_number_of : Addr
  d_number_of : FuncData
  f_rows_to : Addr
  d_rows_to : FuncData
  f_law_cell : Addr
  d_law_cell : FuncData
  f_law_mixed : Addr
  d_law_mixed : FuncData
  f_law_mask : Addr
  d_law_mask : FuncData
  f_law_number : Addr
  d_law_number : FuncData
  f_law_whole : Addr
  d_law_whole : FuncData
  f_law_turn : Addr
  d_law_turn : FuncData
  f_free_for : Addr
  d_free_for : FuncData
  f_turn_of : Addr
  d_turn_of : FuncData
  f_law_slip : Addr
  d_law_slip : FuncData
  f_law_put : Addr
  d_law_put : FuncData
  f_law_due : Addr
  d_law_due : FuncData
  f_law_alike : Addr
  d_law_alike : FuncData
  f_law_many : Addr
  d_law_many : FuncData
  f_law_sheet : Addr
  d_law_sheet : FuncData
  f_shift : Addr
  d_shift : FuncData
  f_law : Addr
  d_law : FuncData
  lc : Addr
  lP : Addr
structure Tx (K : PySem.W.Frag) (mg : Str → Option Value) (base : Heap) (a : Ads) : Prop where
  F_holds : Fun K "holds" "holds" s_holds a.f_holds a.d_holds
  b_holds : Binds K a.d_holds ["mask", "hand"] []
  m_holds : mg "holds" = some (.ref a.f_holds)
  F_with_one : Fun K "with_one" "with_one" s_with_one a.f_with_one a.d_with_one
  b_with_one : Binds K a.d_with_one ["mask", "hand"] []
  m_with_one : mg "with_one" = some (.ref a.f_with_one)
  F_ballots_in : Fun K "ballots_in" "ballots_in" s_ballots_in a.f_ballots_in a.d_ballots_in
  b_ballots_in : Binds K a.d_ballots_in ["sheet"] []
  m_ballots_in : mg "ballots_in" = some (.ref a.f_ballots_in)
  F_number_of : Fun K "number_of" "number_of" s_number_of a.f_number_of a.d_number_of
  b_number_of : Binds K a.d_number_of ["sheet", "slip"] []
  m_number_of : mg "number_of" = some (.ref a.f_number_of)
  F_rows_to : Fun K "rows_to" "rows_to" s_rows_to a.f_rows_to a.d_rows_to
  b_rows_to : Binds K a.d_rows_to ["lines", "slip", "many"] []
  m_rows_to : mg "rows_to" = some (.ref a.f_rows_to)
  F_law_cell : Fun K "_law_cell" "_law_cell" s_law_cell a.f_law_cell a.d_law_cell
  b_law_cell : Binds K a.d_law_cell ["_law_script", "_law_k"] []
  m_law_cell : mg "_law_cell" = some (.ref a.f_law_cell)
  F_law_mixed : Fun K "_law_mixed" "_law_mixed" s_law_mixed a.f_law_mixed a.d_law_mixed
  b_law_mixed : Binds K a.d_law_mixed ["_law_cell_here", "_law_by"] []
  m_law_mixed : mg "_law_mixed" = some (.ref a.f_law_mixed)
  F_law_mask : Fun K "_law_mask" "_law_mask" s_law_mask a.f_law_mask a.d_law_mask
  b_law_mask : Binds K a.d_law_mask ["_law_some"] []
  m_law_mask : mg "_law_mask" = some (.ref a.f_law_mask)
  F_law_number : Fun K "_law_number" "_law_number" s_law_number a.f_law_number a.d_law_number
  b_law_number : Binds K a.d_law_number ["_law_cell_here", "_law_most"] []
  m_law_number : mg "_law_number" = some (.ref a.f_law_number)
  F_law_whole : Fun K "_law_whole" "_law_whole" s_law_whole a.f_law_whole a.d_law_whole
  b_law_whole : Binds K a.d_law_whole ["_law_found"] []
  m_law_whole : mg "_law_whole" = some (.ref a.f_law_whole)
  F_law_turn : Fun K "_law_turn" "_law_turn" s_law_turn a.f_law_turn a.d_law_turn
  b_law_turn : Binds K a.d_law_turn ["_law_slip_here", "_law_x", "_law_y"] []
  m_law_turn : mg "_law_turn" = some (.ref a.f_law_turn)
  F_free_for : Fun K "free_for" "free_for" s_free_for a.f_free_for a.d_free_for
  b_free_for : Binds K a.d_free_for ["sheet", "slip"] []
  m_free_for : mg "free_for" = some (.ref a.f_free_for)
  F_turn_of : Fun K "turn_of" "turn_of" s_turn_of a.f_turn_of a.d_turn_of
  b_turn_of : Binds K a.d_turn_of ["slip", "x", "y"] []
  m_turn_of : mg "turn_of" = some (.ref a.f_turn_of)
  F_law_slip : Fun K "_law_slip" "_law_slip" s_law_slip a.f_law_slip a.d_law_slip
  b_law_slip : Binds K a.d_law_slip ["_law_cell_here", "_law_hands"] []
  m_law_slip : mg "_law_slip" = some (.ref a.f_law_slip)
  F_law_put : Fun K "_law_put" "_law_put" s_law_put a.f_law_put a.d_law_put
  b_law_put : Binds K a.d_law_put ["_law_script", "_law_sheet_here", "_law_hands", "_law_x", "_law_y"] []
  m_law_put : mg "_law_put" = some (.ref a.f_law_put)
  F_law_due : Fun K "_law_due" "_law_due" s_law_due a.f_law_due a.d_law_due
  b_law_due : Binds K a.d_law_due ["_law_sheet_here", "_law_x", "_law_y", "_law_put_here", "_law_many_here"] []
  m_law_due : mg "_law_due" = some (.ref a.f_law_due)
  F_law_alike : Fun K "_law_alike" "_law_alike" s_law_alike a.f_law_alike a.d_law_alike
  b_law_alike : Binds K a.d_law_alike ["_law_found", "_law_due_here"] []
  m_law_alike : mg "_law_alike" = some (.ref a.f_law_alike)
  F_law_many : Fun K "_law_many" "_law_many" s_law_many a.f_law_many a.d_law_many
  b_law_many : Binds K a.d_law_many ["_law_script", "_law_sheet_here", "_law_put_here", "_law_most"] []
  m_law_many : mg "_law_many" = some (.ref a.f_law_many)
  F_law_sheet : Fun K "_law_sheet" "_law_sheet" s_law_sheet a.f_law_sheet a.d_law_sheet
  b_law_sheet : Binds K a.d_law_sheet ["_law_script", "_law_at", "_law_hands", "_law_lines", "_law_most"] []
  m_law_sheet : mg "_law_sheet" = some (.ref a.f_law_sheet)
  F_shift : Fun K "shift" "shift" s_shift a.f_shift a.d_shift
  b_shift : Binds K a.d_shift ["sheet", "x", "y", "slip", "many"] []
  m_shift : mg "shift" = some (.ref a.f_shift)
  F_law : Fun K "law" "law" s_law a.f_law a.d_law
  b_law : Binds K a.d_law ["_law_script"] []
  m_law : mg "law" = some (.ref a.f_law)
  z_bool : mg "bool" = none
  z_int : mg "int" = none
  z_isinstance : mg "isinstance" = none
  z_len : mg "len" = none
  z_list : mg "list" = none
  z_max : mg "max" = none
  z_min : mg "min" = none
  z_range : mg "range" = none
  z_sorted : mg "sorted" = none
  z_sum : mg "sum" = none
  z_tuple : mg "tuple" = none
  lam : LamB base mg a.lc a.lP
  lcode : a.d_shift.code = .ref a.lc
local macro_rules | `(tactic| trivial) => `(tactic| refine Sz.neg (by trivial))
local macro_rules | `(tactic| trivial) => `(tactic| refine Sz.fdiv (by trivial))
local macro_rules | `(tactic| trivial) => `(tactic| refine Sz.sub (by trivial) (by trivial))
local macro_rules | `(tactic| trivial) => `(tactic| refine Sz.add (by trivial) (by trivial))
local macro_rules | `(tactic| trivial) => `(tactic| refine Sz.mul (by trivial) (by trivial))
local macro_rules | `(tactic| trivial) => `(tactic| exact sz_fmod _ (by first | decide | decide +kernel) (szd 200))
local macro_rules | `(tactic| trivial) => `(tactic| first | assumption | exact szd 64 | exact szd 200 | exact szd 1000)
local macro_rules | `(tactic| and_intros) => `(tactic| (repeat (first | refine ⟨_, rfl, ?_⟩ | refine ⟨_, _, rfl, rfl, ?_⟩ | refine ⟨rfl, ?_⟩ | refine ⟨(by show (_ : Int) ≠ 0; first | decide | decide +kernel), ?_⟩ | refine ⟨⟨(by show (_ : Int) ≠ 0; decide), szd 9000⟩, ?_⟩ | refine ⟨(by show CPow _ _; exact ⟨by decide, by decide, by decide⟩), ?_⟩ | refine ⟨(by show CMulB _ _; refine ⟨_, _, (by trivial), (by trivial), ?_⟩; decide +kernel), ?_⟩ | refine ⟨_, _, _, _, rfl, rfl, SqL.of (by assumption), (by rfl), ?_⟩ | refine ⟨_, _, _, _, rfl, rfl, SqT.of (by assumption), (by rfl), ?_⟩ | refine ⟨_, _, rfl, .inl (SqL.of (by assumption)), ?_⟩ | refine ⟨_, _, rfl, .inr (SqT.of (by assumption)), ?_⟩)))
section
variable {P : Program} {w : World} {K : PySem.W.Frag} {mg : Str → Option Value} {base : Heap} {ad : Ads}
theorem ok_holds (T : Tx K mg base ad) : FnOk P w K mg base CX0 1 ad.f_holds ad.d_holds ["mask", "hand"] spHolds := by
  refine T.F_holds.ok sc_holds (fun vs H Q E h => ?_) (fun cdv A outer s H vs Q E hr h => ?_)
  · obtain ⟨m, h, rfl, _⟩ := h
    rfl
  obtain ⟨m, h, rfl, h0, q⟩ := h
  refine ⟨_, (@pss_one _ _ _ (@ps_ret _ _ _ _ (@pe_cmpR _ _ _ _ _ _ _ _ op_eq (@pe_op _ _ _ _ _ _ _ _ op_and (@pe_op _ _ _ _ _ _ _ _ op_shr (pv 0) (pv 1)) pe_int) pe_int (nomark _)))), ?_⟩
  refine ⟨_, rfl, _, rfl, _, _, rfl, rfl, h0, _, _, rfl, rfl, rfl, ?_⟩
  show Q (.bl (decide (V.int (Builtin.bitAnd (m / 2 ^ h.toNat) 1) = V.int 1))) H
  rw [holds_bit]
  exact q
theorem ok_with_one (T : Tx K mg base ad) : FnOk P w K mg base CX0 1 ad.f_with_one ad.d_with_one ["mask", "hand"] spWith := by
  refine T.F_with_one.ok sc_with_one (fun vs H Q E h => ?_) (fun cdv A outer s H vs Q E hr h => ?_)
  · obtain ⟨m, h, rfl, _⟩ := h
    rfl
  obtain ⟨m, h, rfl, h0, h1, q⟩ := h
  refine ⟨_, (@pss_one _ _ _ (@ps_ret _ _ _ _ (@pe_op _ _ _ _ _ _ _ _ op_or (pv 0) (@pe_op _ _ _ _ _ _ _ _ op_shl pe_int (pv 1))))), ?_⟩
  exact ⟨_, rfl, _, rfl, _, _, rfl, rfl, ⟨h0, by omega, by decide⟩, _, _, rfl, rfl, q⟩
theorem ok_ballots_in (T : Tx K mg base ad) : FnOk P w K mg base CX0 1 ad.f_ballots_in ad.d_ballots_in ["sheet"] spBallots := by
  refine T.F_ballots_in.ok sc_ballots_in (fun vs H Q E h => ?_) (fun cdv A outer s H vs Q E hr h => ?_)
  · obtain ⟨l, ls, rfl, _⟩ := h
    rfl
  obtain ⟨l, ls, rfl, hl, g, l900, q⟩ := h
  refine ⟨_, (@pss_one _ _ _ (@ps_ret _ _ _ _ (@pe_callB _ _ _ _ _ _ _ _ _ (call_sum rfl) (by rfl) T.z_sum PyProof.Rows.boot_sum (@pa_cons _ _ _ _ _ (pe_comp2 (fsc := defScope s_ballots_in) (N := ["sheet"]) (Nc := ["sheet", "slip", "number"]) rfl rfl ⟨rfl, by decide +kernel, by decide +kernel, by decide +kernel, by decide +kernel, rfl, by decide +kernel, rfl, by decide +kernel⟩ rfl (pi_list (pv 0)) (fun _ _ _ _ => pif_nil) (fun _ _ _ _ => (pv 2))) pa_nil (by rfl)) (by decide) (by decide) (by rfl) (by rfl)))), ?_⟩
  refine ⟨_, rfl, l, rfl, ⟨_, SqL.of hl⟩, ?_⟩
  refine comp_pairs (zs := vls ls) rfl rfl (by rw [vls_len]; exact small900 l900) (fun D i ys H' => ys = ((dsOf (ls.take i)).map (·.2)).map V.int ∧ H' = upd H D (.lst ys)) (fun D hD => ⟨rfl, rfl⟩) (fun D i ys H' ⟨f1, f2⟩ => ⟨by rw [f2]; exact upd_same, by rw [f1, List.length_map, List.length_map]; unfold dsOf; rw [List.length_map]; exact List.length_take_le _ _⟩) (fun D i ys H' hD ⟨_, f2⟩ => by rw [f2]; exact SqL.of (same_new hD _ _ _ hl)) ?_ ?_
  · rintro D i x ys H' K1 K2 hD hx ⟨f1, rfl⟩ k1 k2
    obtain ⟨f, hf, rfl, fm, et⟩ := vls_get hx
    refine ⟨f.1, _, _, rfl, SqT.of (same_new hD _ _ _ (g f fm).1), ?_⟩
    refine yes (ifT rfl ?_)
    refine ⟨_, rfl, ?_⟩
    refine k1 _ _ upd_same ⟨?_, by rw [upd_upd]⟩
    rw [et, dsOf_append, List.map_append, List.map_append, f1]
    rfl
  rintro D ys H' hD ⟨rfl, rfl⟩
  rw [vls_len, List.take_of_length_le (Nat.le_refl _)]
  exact ⟨D, _, rfl, SqL.of upd_same, q _ (same_new hD _)⟩
theorem ok_number_of (T : Tx K mg base ad) : FnOk P w K mg base CX0 1 ad.f_number_of ad.d_number_of ["sheet", "slip"] spNumberOf := by
  refine T.F_number_of.ok sc_number_of (fun vs H Q E h => ?_) (fun cdv A outer s H vs Q E hr h => ?_)
  · obtain ⟨l, t, ls, ts, rfl, _⟩ := h
    rfl
  obtain ⟨l, t, ls, ts, rfl, hl, g, ht, l900, q⟩ := h
  refine ⟨_, (@pss_one _ _ _ (@ps_ret _ _ _ _ (@pe_callB _ _ _ _ _ _ _ _ _ (call_sum rfl) (by rfl) T.z_sum PyProof.Rows.boot_sum (@pa_cons _ _ _ _ _ (pe_comp (fsc := defScope s_number_of) (N := ["sheet", "slip"]) (Nc := ["sheet", "slip", "line"]) rfl rfl ⟨rfl, by decide +kernel, by decide +kernel, rfl, by decide +kernel, rfl, by decide +kernel, rfl, by decide +kernel⟩ rfl (pi_list (pv 0)) (fun _ _ _ _ => (pif_one (@pt_cmpR _ _ _ _ _ _ _ _ (op_eqD (K := K) hr.units) (@pe_ix _ _ _ _ _ _ _ (ix_tupK K) (pv 2) pe_int (fun _ _ => rfl)) (pv 1) (nomark _)))) (fun _ _ _ _ => (@pe_ix _ _ _ _ _ _ _ (ix_tupK K) (pv 2) pe_int (fun _ _ => rfl)))) pa_nil (by rfl)) (by decide) (by decide) (by rfl) (by rfl)))), ?_⟩
  refine ⟨_, rfl, l, rfl, ⟨_, SqL.of hl⟩, ?_⟩
  refine comp_list (xs := vls ls) (by rw [vls_len]; exact small900 l900) (fun D i ys H' => ys = (((dsOf (ls.take i)).filter fun q => decide (q.1 = ts)).map (·.2)).map V.int ∧ H' = upd H D (.lst ys)) (fun D hD => ⟨rfl, rfl⟩) (fun D i ys H' ⟨f1, f2⟩ => ⟨by rw [f2]; exact upd_same, by rw [f1, List.length_map, List.length_map]; refine Nat.le_trans (List.length_filter_le _ _) ?_; unfold dsOf; rw [List.length_map]; exact List.length_take_le _ _⟩) (fun D i ys H' hD ⟨_, f2⟩ => by rw [f2]; exact SqL.of (same_new hD _ _ _ hl)) ?_ ?_
  · rintro D i x ys H' K1 K2 hD hx ⟨f1, rfl⟩ k1 k2
    obtain ⟨f, hf, rfl, fm, et⟩ := vls_get hx
    have g1 := same_new hD (.lst ys) _ _ (g f fm).1
    have g2 := same_new hD (.lst ys) _ _ (g f fm).2
    have t2 := same_new hD (.lst ys) _ _ ht
    refine ⟨_, rfl, f.1, _, _, _, rfl, rfl, SqT.of g1, rfl, _, rfl, .tuple (f.2.2.1.map .int), .tuple (ts.map .int), .tup (SqT.of g2) (.ints _), .tup (SqT.of t2) (.ints _), (shape_ints _).1, (shape_ints _).1, _, rfl, ?_⟩
    rw [show PyData.eqv (.tuple (f.2.2.1.map .int)) (.tuple (ts.map .int)) = decide (f.2.2.1 = ts) from eqv_ints _ _]
    by_cases c : f.2.2.1 = ts
    · refine ifT (decide_eq_true c) ?_
      refine ⟨_, rfl, f.1, _, _, _, rfl, rfl, SqT.of g1, rfl, ?_⟩
      refine k1 _ _ upd_same ⟨?_, by rw [upd_upd]⟩
      rw [et, dsOf_append, List.filter_append, List.map_append, List.map_append, f1]
      simp [dsOf, c]
    · refine ifF (decide_eq_false c) ?_
      refine k2 _ ⟨?_, rfl⟩
      rw [et, dsOf_append, List.filter_append, List.map_append, List.map_append, f1]
      simp [dsOf, c]
  · rintro D ys H' hD ⟨rfl, rfl⟩
    rw [vls_len, List.take_of_length_le (Nat.le_refl _)]
    refine ⟨D, _, rfl, SqL.of upd_same, ?_⟩
    rw [tot_sum]
    exact q _ (same_new hD _)
theorem ok_rows_to (T : Tx K mg base ad) : FnOk P w K mg base CX0 1 ad.f_rows_to ad.d_rows_to ["lines", "slip", "many"] spRowsTo := by
  refine T.F_rows_to.ok sc_rows_to (fun vs H Q E h => ?_) (fun cdv A outer s H vs Q E hr h => ?_)
  · obtain ⟨l, sl, ls, m, rfl, _⟩ := h
    rfl
  obtain ⟨l, sl, ls, m, rfl, hl, gl, l60, q⟩ := h
  refine ⟨_, (@pss_cons _ _ _ _ _ (@ps_set _ _ (3) _ _ _ _ sc_rows_to.nd rfl (Or.inl rfl) (@pe_lst _ _ _ _ pa_nil) (by rfl) (by first | exact .inl rfl | exact .inr rfl | assumption)) (@pss_cons _ _ _ _ _ (@ps_set _ _ (4) _ _ _ _ sc_rows_to.nd rfl (Or.inl rfl) (pv 2) (by rfl) (by first | exact .inl rfl | exact .inr rfl | assumption)) (@pss_cons _ _ _ _ _ (ps_for PassesOwn.never rfl (pi_list (pv 0)) (pg_tup rfl (pgs_cons (pg_name (i := 5) sc_rows_to.nd rfl (Or.inl rfl)) (pgs_cons (pg_name (i := 6) sc_rows_to.nd rfl (Or.inl rfl)) pgs_nil))) (@pss_cons _ _ _ _ _ (@ps_set _ _ (7) _ _ _ _ sc_rows_to.nd rfl (Or.inl rfl) (@pe_callB _ _ _ _ _ _ _ _ _ (call_min2 rfl) (by rfl) T.z_min PyProof.Rows.boot_min (@pa_cons _ _ _ _ _ (pv 6) (@pa_cons _ _ _ _ _ (pv 4) pa_nil (by rfl)) (by rfl)) (by decide) (by decide) (by rfl) (by rfl)) (by rfl) (by first | exact .inl rfl | exact .inr rfl | assumption)) (@pss_cons _ _ _ _ _ (@ps_if _ _ _ _ _ _ _ _ (@pt_cmpR _ _ _ _ _ _ _ _ op_gt (pv 7) pe_int (nomark _)) (@pss_one _ _ _ (@ps_expr _ _ _ _ (pe_bm PySem.F.plainAttrs_list PySem.F.slot_list_append PySem.F.type_list_append mt_append (pv 3) (@pa_cons _ _ _ _ _ (@pe_tup _ _ _ _ _ (@pa_cons _ _ _ _ _ (pv 5) (@pa_cons _ _ _ _ _ (pv 1) (@pa_cons _ _ _ _ _ (pv 7) pa_nil (by rfl)) (by rfl)) (by rfl))) pa_nil (by rfl))) (by rfl))) pss_nil) (@pss_one _ _ _ (@ps_set _ _ (4) _ _ _ _ sc_rows_to.nd rfl (Or.inl rfl) (@pe_op _ _ _ _ _ _ _ _ op_sub (pv 4) (pv 7)) (by rfl) (by first | exact .inl rfl | exact .inr rfl | assumption)))))) (@pss_one _ _ _ (@ps_ret _ _ _ _ (pv 3)))))), ?_⟩
  and_intros
  refine ⟨(by show 0 ≤ sizeLine; decide), fun r hr0 => ?_⟩
  have s1 := same_new hr0 (.lst [])
  have e1 : (upd H r (.lst [])) r = some (.lst (vrw [])) := upd_same
  generalize upd H r (.lst []) = H1 at s1 e1 ⊢
  and_intros
  have hl1 := s1 _ _ hl
  refine ⟨⟨_, SqL.of hl1⟩, for_list (xs := vls ls) (fun i σ' J => ∃ (v5 v6 v7 : Option V) (rs : Rw), σ' = [some (.ref l), some (.ref sl), some (.int m), some (.ref r), some (.int (restI (dsOf (ls.take i)) m)), v5, v6, v7] ∧ Same H J ∧ J r = some (.lst (vrw rs)) ∧ RwAt sl J rs ∧ rs.map (·.2.2) = takeI (dsOf (ls.take i)) m) ⟨none, none, none, [], rfl, s1, e1, (fun _ m => nomatch m), rfl⟩ (fun i σ' J _ ⟨_, _, _, _, _, e, _⟩ => SqL.of (e _ _ hl)) ?_ ?_⟩
  · rintro i w σ' J hw ⟨v5, v6, v7, rs, rfl, sJ, eR, gr, er⟩
    obtain ⟨f, hf, rfl, fm, et⟩ := vls_get hw
    have rl : rs.length ≤ 60 := by
      have a := congrArg List.length er
      rw [List.length_map] at a
      have b := take_len (dsOf (ls.take i)) m
      unfold dsOf at b
      rw [List.length_map, List.length_take] at b
      unfold dsOf at a
      omega
    obtain ⟨ta, tr⟩ := take_append (dsOf (ls.take i)) [(f.2.2.1, f.2.2.2)] m
    have ed : dsOf (ls.take (i + 1)) = dsOf (ls.take i) ++ [(f.2.2.1, f.2.2.2)] := by rw [et, dsOf_append]; rfl
    rw [ed, ta, tr]
    generalize restI (dsOf (ls.take i)) m = wn
    generalize takeI (dsOf (ls.take i)) m = tk at er ⊢
    show _
    refine ⟨f.1, _, rfl, SqT.of (sJ _ _ (gl f fm).1), rfl, _, _, rfl, _, _, rfl, rfl, ?_⟩
    and_intros
    refine ⟨_, _, rfl, ?_⟩
    have e2 := sJ _ _ (gl f fm).2
    obtain ⟨k, ek⟩ : ∃ k, k = min f.2.2.2 wn := ⟨_, rfl⟩
    rw [show (if wn < f.2.2.2 then wn else f.2.2.2) = k from by rw [ek]; split <;> omega, show restI [(f.2.2.1, f.2.2.2)] wn = wn - k from by rw [ek]; rfl, show takeI [(f.2.2.1, f.2.2.2)] wn = if 0 < k then [(f.2.2.1, k)] else [] from by rw [ek]; exact List.append_nil _]
    and_intros
    by_cases c : 0 < k
    · refine ifT (decide_eq_true c) ?_
      and_intros
      refine ⟨.inl ⟨rfl, _, SqL.of eR⟩, ?_⟩
      and_intros
      refine ⟨(by show 3 ≤ sizeLine; decide), fun t ht => ?_⟩
      have j1 := same_new ht (.tup [V.ref f.2.1, V.ref sl, V.int k])
      have et1 : (upd J t (.tup [V.ref f.2.1, V.ref sl, V.int k])) t = some (.tup [V.ref f.2.1, V.ref sl, V.int k]) := upd_same
      generalize upd J t (.tup [V.ref f.2.1, V.ref sl, V.int k]) = J1 at j1 et1 ⊢
      have eR1 := j1 _ _ eR
      refine ⟨r, _, _, rfl, rfl, eR1, (by rw [vrw_len]; exact small1000 (by omega)), ?_⟩
      and_intros
      refine ⟨_, _, _, rs ++ [(t, f.2.1, f.2.2.1, k)], rfl, same_upd (sJ.trans j1) hr0, by rw [upd_same]; unfold vrw; rw [List.map_append]; rfl, RwAt.upd eR1 ((gr.same j1).push et1 (j1 _ _ e2)), by rw [List.map_append, er, if_pos c]; rfl⟩
    · refine ifF (decide_eq_false c) ?_
      and_intros
      exact ⟨_, _, _, rs, rfl, sJ, eR, gr, by rw [er, if_neg c, List.append_nil]⟩
  · rintro σ' J ⟨v5, v6, v7, rs, rfl, sJ, eR, gr, er⟩
    rw [vls_len, List.take_length] at er
    and_intros
    exact q r rs J hr0 sJ eR gr er
theorem ok_law_cell (T : Tx K mg base ad) : FnOk P w K mg base CX0 1 ad.f_law_cell ad.d_law_cell ["_law_script", "_law_k"] (spC40 K) := by
  refine T.F_law_cell.ok sc_law_cell (fun vs H Q E h => ?_) (fun cdv A outer s H vs Q E hr h => ?_)
  · obtain ⟨p, ns, k, rfl, _⟩ := h
    rfl
  obtain ⟨p, ns, k, rfl, hS, h63, k0, k1, q⟩ := h
  refine ⟨_, (@pss_cons _ _ _ _ _ (@ps_if _ _ _ _ _ _ _ _ (@pt_cmpR _ _ _ _ _ _ _ _ op_lt (pv 1) (@pe_callB _ _ _ _ _ _ _ _ _ call_len_seq (by rfl) T.z_len PySem.boot_len (@pa_cons _ _ _ _ _ (pv 0) pa_nil (by rfl)) (by decide) (by decide) (by rfl) (by rfl)) (nomark _)) (@pss_one _ _ _ (@ps_ret _ _ _ _ (@pe_op _ _ _ _ _ _ _ _ op_modN (@pe_ix _ _ _ _ _ _ _ ix_list (pv 0) (pv 1) (fun _ _ => rfl)) (@pe_op _ _ _ _ _ _ _ _ op_pow pe_int pe_int)))) pss_nil) (@pss_cons _ _ _ _ _ (@ps_set _ _ (2) _ _ _ _ sc_law_cell.nd rfl (Or.inl rfl) (@pe_op _ _ _ _ _ _ _ _ op_add (@pe_op _ _ _ _ _ _ _ _ op_mulB (pv 1) pe_int) pe_int) (by rfl) (by first | exact .inl rfl | exact .inr rfl | assumption)) (@pss_cons _ _ _ _ _ (@ps_ifJ _ _ _ _ _ _ _ _ (@pt_cmpR _ _ _ _ _ _ _ _ op_gt (@pe_callB _ _ _ _ _ _ _ _ _ call_len_seq (by rfl) T.z_len PySem.boot_len (@pa_cons _ _ _ _ _ (pv 0) pa_nil (by rfl)) (by decide) (by decide) (by rfl) (by rfl)) pe_int (nomark _)) (@pss_one _ _ _ (@ps_set _ _ (2) _ _ _ _ sc_law_cell.nd rfl (Or.inl rfl) (@pe_op _ _ _ _ _ _ _ _ op_add (@pe_op _ _ _ _ _ _ _ _ op_mulB (@pe_op _ _ _ _ _ _ _ _ op_modN (@pe_ix _ _ _ _ _ _ _ ix_list (pv 0) (@pe_op _ _ _ _ _ _ _ _ op_modN (@pe_op _ _ _ _ _ _ _ _ op_mulB (pv 1) pe_int) (@pe_callB _ _ _ _ _ _ _ _ _ call_len_seq (by rfl) T.z_len PySem.boot_len (@pa_cons _ _ _ _ _ (pv 0) pa_nil (by rfl)) (by decide) (by decide) (by rfl) (by rfl))) (fun _ _ => rfl)) (@pe_op _ _ _ _ _ _ _ _ op_pow pe_int pe_int)) pe_int) (@pe_op _ _ _ _ _ _ _ _ op_mulB (@pe_op _ _ _ _ _ _ _ _ op_mulB (pv 1) (pv 1)) pe_int)) (by rfl) (by first | exact .inl rfl | exact .inr rfl | assumption))) pss_nil) (@pss_one _ _ _ (@ps_ret _ _ _ _ (@pe_op _ _ _ _ _ _ _ _ op_modN (@pe_op _ _ _ _ _ _ _ _ op_mulB (@pe_op _ _ _ _ _ _ _ _ op_modN (pv 2) pe_int) pe_int) pe_int)))))), ?_⟩
  have hl : (ns.map V.int).length = ns.length := List.length_map _
  have szk : Sz 64 k := sz_of (by omega) (by omega)
  have p40 : (0 : Int) < 10 ^ (40 : Int).toNat := by decide +kernel
  refine ⟨_, rfl, _, rfl, p, _, rfl, .inl hS, _, _, rfl, rfl, _, rfl, ?_⟩
  refine ite2 (fun c => ?_) (fun c => ?_)
  · have c' : k < (((ns.map V.int).length : Nat) : Int) := of_decide_eq_true c
    rw [hl] at c'
    obtain ⟨v, hv⟩ := item_at k0 c'
    refine ⟨_, rfl, _, rfl, p, _, _, _, rfl, rfl, hS, hv, _, _, rfl, rfl, cpow40, _, _, rfl, rfl, (Int.ne_of_gt p40), ?_⟩
    exact q _ (fmod_in v p40).1 (fmod_in v p40).2
  · and_intros
    refine ⟨fun σ' H' => ∃ z : Int, σ' = [some (.ref p), some (.int k), some (.int z)] ∧ H = H', ?_, ?_⟩
    · refine ⟨_, rfl, p, _, rfl, .inl hS, _, _, rfl, rfl, _, rfl, ?_⟩
      refine ite2 (fun c2 => ?_) (fun c2 => ?_)
      · have c2' : 0 < (((ns.map V.int).length : Nat) : Int) := of_decide_eq_true c2
        rw [hl] at c2'
        have m := fmod_in (k * 7) c2'
        obtain ⟨v, hv⟩ := item_at m.1 m.2
        refine ⟨_, rfl, ?_⟩
        and_intros
        refine ⟨p, _, rfl, .inl hS, ?_⟩
        rw [hl]
        refine ⟨_, _, rfl, rfl, (by show (_ : Int) ≠ 0; omega), ?_⟩
        refine ⟨p, _, _, _, rfl, rfl, hS, hv, _, _, rfl, rfl, cpow40, _, _, rfl, rfl, (Int.ne_of_gt p40), ?_⟩
        have szv : Sz 200 (v.fmod (10 ^ (40 : Int).toNat)) := sz40 (fmod_in v p40).1 (fmod_in v p40).2
        and_intros
        exact rfl
      · exact ⟨_, rfl, rfl⟩
    rintro σ' H' ⟨z, rfl, rfl⟩
    have m1 := fmod_in z (show (0 : Int) < 2147483647 by decide)
    have sz1 : Sz 64 (z.fmod 2147483647) := sz_of (by omega) (by omega)
    and_intros
    have m := fmod_in (z.fmod 2147483647 * 69621) (show (0 : Int) < 2147483629 by decide)
    exact q _ m.1 (Int.lt_trans m.2 (by decide))
theorem ok_law_mixed (T : Tx K mg base ad) : FnOk P w K mg base CX0 1 ad.f_law_mixed ad.d_law_mixed ["_law_cell_here", "_law_by"] spMix71 := by
  refine T.F_law_mixed.ok sc_law_mixed (fun vs H Q E h => ?_) (fun cdv A outer s H vs Q E hr h => ?_)
  · obtain ⟨c, b, rfl, _⟩ := h
    rfl
  obtain ⟨c, b, rfl, szc, b0, b1, q⟩ := h
  refine ⟨_, (@pss_cons _ _ _ _ _ (@ps_set _ _ (2) _ _ _ _ sc_law_mixed.nd rfl (Or.inl rfl) (@pe_op _ _ _ _ _ _ _ _ op_add pe_int (@pe_op _ _ _ _ _ _ _ _ op_mulB (pv 1) pe_int)) (by rfl) (by first | exact .inl rfl | exact .inr rfl | assumption)) (@pss_one _ _ _ (@ps_ret _ _ _ _ (@pe_op _ _ _ _ _ _ _ _ op_modN (@pe_op _ _ _ _ _ _ _ _ op_mulB (@pe_op _ _ _ _ _ _ _ _ op_add (pv 0) pe_int) (pv 2)) (@pe_op _ _ _ _ _ _ _ _ op_add (@pe_op _ _ _ _ _ _ _ _ op_pow pe_int pe_int) pe_int))))), ?_⟩
  have szb : Sz 64 b := sz_of (by omega) (by omega)
  and_intros
  have m := fmod_in ((c + 3) * (618033988749894848204586834365 + b * 271828182845904523536028747)) (show (0 : Int) < 10 ^ (30 : Int).toNat + 57 by decide)
  exact q _ m.1 (Int.lt_trans m.2 (by decide))
theorem ok_law_mask (T : Tx K mg base ad) : FnOk P w K mg base CX0 1 ad.f_law_mask ad.d_law_mask ["_law_some"] spMask := by
  refine T.F_law_mask.ok sc_law_mask (fun vs H Q E h => ?_) (fun cdv A outer s H vs Q E hr h => ?_)
  · obtain ⟨l, hs, rfl, _⟩ := h
    rfl
  obtain ⟨l, hs, rfl, hl, l100, h64, q⟩ := h
  refine ⟨_, (@pss_one _ _ _ (@ps_ret _ _ _ _ (@pe_callB _ _ _ _ _ _ _ _ _ (call_sum rfl) (by rfl) T.z_sum PyProof.Rows.boot_sum (@pa_cons _ _ _ _ _ (pe_comp (fsc := defScope s_law_mask) (N := ["_law_some"]) (Nc := ["_law_some", "_law_hand"]) rfl rfl ⟨rfl, by decide +kernel, by decide +kernel, rfl, by decide +kernel, rfl, by decide +kernel, rfl, by decide +kernel⟩ rfl (pi_list (pv 0)) (fun _ _ _ _ => pif_nil) (fun _ _ _ _ => (@pe_op _ _ _ _ _ _ _ _ op_shl pe_int (pv 1)))) pa_nil (by rfl)) (by decide) (by decide) (by rfl) (by rfl)))), ?_⟩
  and_intros
  refine ⟨⟨_, SqL.of hl⟩, ?_⟩
  refine comp_list (xs := hs.map V.int) (by rw [List.length_map]; exact small900 (by omega)) (fun D i ys H' => ys = ((hs.take i).map fun h => (1 : Int) * 2 ^ h.toNat).map V.int ∧ H' = upd H D (.lst ys)) (fun D hD => ⟨rfl, rfl⟩) (fun D i ys H' ⟨f1, f2⟩ => ⟨by rw [f2]; exact upd_same, by rw [f1, List.length_map, List.length_map]; exact List.length_take_le _ _⟩) (fun D i ys H' hD ⟨_, f2⟩ => by rw [f2]; exact SqL.of (same_new hD _ _ _ hl)) ?_ ?_
  · rintro D i x ys H' K1 K2 hD hx ⟨f1, rfl⟩ k1 k2
    obtain ⟨z, hz, rfl⟩ := int_at hx
    have et : hs.take (i + 1) = hs.take i ++ [z] := by rw [List.take_succ, hz]; rfl
    obtain ⟨z0, z64⟩ := h64 z (List.mem_of_getElem? hz)
    refine yes (ifT rfl ?_)
    refine ⟨_, rfl, _, _, rfl, rfl, ⟨by omega, by omega, by decide⟩, ?_⟩
    refine k1 _ _ upd_same ⟨?_, by rw [upd_upd]⟩
    rw [f1, et, List.map_append, List.map_append]
    rfl
  · rintro D ys H' hD ⟨rfl, rfl⟩
    refine ⟨D, _, rfl, SqL.of upd_same, ?_⟩
    rw [List.length_map, List.take_length]
    exact q _ (same_new hD _)
theorem ok_law_number (T : Tx K mg base ad) : FnOk P w K mg base CX0 1 ad.f_law_number ad.d_law_number ["_law_cell_here", "_law_most"] spNumber16 := by
  refine T.F_law_number.ok sc_law_number (fun vs H Q E h => ?_) (fun cdv A outer s H vs Q E hr h => ?_)
  · obtain ⟨c, m, rfl, _⟩ := h
    rfl
  obtain ⟨c, m, rfl, szc, m1, m9, q⟩ := h
  refine ⟨_, (@pss_one _ _ _ (@ps_ret _ _ _ _ (@pe_op _ _ _ _ _ _ _ _ op_add pe_int (@pe_op _ _ _ _ _ _ _ _ op_modN (@pe_op _ _ _ _ _ _ _ _ op_modN (@pe_op _ _ _ _ _ _ _ _ op_add (@pe_op _ _ _ _ _ _ _ _ op_mulB (pv 0) pe_int) pe_int) pe_int) (pv 1))))), ?_⟩
  and_intros
  refine ⟨(by show (_ : Int) ≠ 0; omega), ?_⟩
  have k := fmod_in ((c * 48271 + 5).fmod 1000000007) (show (0 : Int) < m by omega)
  and_intros
  exact q _ (by omega) (by omega)
theorem ok_law_whole (T : Tx K mg base ad) : FnOk P w K mg base CX0 1 ad.f_law_whole ad.d_law_whole ["_law_found"] spWhole := by
  refine T.F_law_whole.ok sc_law_whole (fun vs H Q E h => ?_) (fun cdv A outer s H vs Q E hr h => ?_)
  · obtain ⟨c, rfl, _⟩ := h
    rfl
  obtain ⟨c, rfl, q⟩ := h
  refine ⟨_, (@pss_one _ _ _ (@ps_ret _ _ _ _ (@pe_and _ _ _ _ _ _ _ (@pe_callB _ _ _ _ _ _ _ _ _ call_isi (by rfl) T.z_isinstance PyProof.Rows.boot_isinstance (@pa_cons _ _ _ _ _ (pv 0) (@pa_cons _ _ _ _ _ (pe_bltn (v := .ty "int") rfl T.z_int PyProof.Rows.boot_int rfl) pa_nil (by rfl)) (by rfl)) (by decide) (by decide) (by rfl) (by rfl)) (@pe_one _ _ _ _ _ (@pe_not _ _ _ _ (@pe_callB _ _ _ _ _ _ _ _ _ call_isi (by rfl) T.z_isinstance PyProof.Rows.boot_isinstance (@pa_cons _ _ _ _ _ (pv 0) (@pa_cons _ _ _ _ _ (pe_bltn (v := .ty "bool") rfl T.z_bool PyProof.Rows.boot_bool rfl) pa_nil (by rfl)) (by rfl)) (by decide) (by decide) (by rfl) (by rfl))))))), ?_⟩
  refine ⟨_, rfl, _, _, _, _, rfl, TyOf.int c, kit_int_int, _, rfl, ?_⟩
  refine iteT ?_
  exact ⟨_, rfl, _, _, _, _, rfl, TyOf.int c, kit_int_bool, _, rfl, q⟩
theorem ok_law_turn (T : Tx K mg base ad) : FnOk P w K mg base CX0 1 ad.f_law_turn ad.d_law_turn ["_law_slip_here", "_law_x", "_law_y"] spTurn := by
  refine T.F_law_turn.ok sc_law_turn (fun vs H Q E h => ?_) (fun cdv A outer s H vs Q E hr h => ?_)
  · obtain ⟨t, ts, x, y, rfl, _⟩ := h
    rfl
  obtain ⟨t, ts, x, y, rfl, ht, pos, hx, hy, q⟩ := h
  refine ⟨_, (@pss_cons _ _ _ _ _ (@ps_if _ _ _ _ _ _ _ _ (PW.pt (@pw_and _ _ _ _ _ _ _ (@pt_cmpR _ _ _ _ _ _ _ _ (op_neT hr.units) (pv 0) (@pe_tup _ _ _ _ _ pa_nil) (nomark _)) (@pw_and1 _ _ _ _ (@pt_cmpR _ _ _ _ _ _ _ _ op_eq (@pe_ix _ _ _ _ _ _ _ ix_tup (pv 0) pe_int (fun _ _ => rfl)) (@pe_op _ _ _ _ _ _ _ _ op_shl pe_int (pv 1)) (nomark _))))) (@pss_one _ _ _ (@ps_ret _ _ _ _ pe_int)) pss_nil) (@pss_cons _ _ _ _ _ (@ps_if _ _ _ _ _ _ _ _ (PW.pt (@pw_or _ _ _ _ _ _ _ (@pt_cmpR _ _ _ _ _ _ _ _ (op_eqT hr.units0) (pv 0) (@pe_tup _ _ _ _ _ pa_nil) (nomark _)) (@pw_or1 _ _ _ _ (@pt_cmpR _ _ _ _ _ _ _ _ op_eq (@pe_op _ _ _ _ _ _ _ _ op_and (@pe_op _ _ _ _ _ _ _ _ op_shr (@pe_ix _ _ _ _ _ _ _ ix_tup (pv 0) pe_int (fun _ _ => rfl)) (pv 2)) pe_int) pe_int (nomark _))))) (@pss_one _ _ _ (@ps_ret _ _ _ _ pe_int)) pss_nil) (@pss_one _ _ _ (@ps_ret _ _ _ _ pe_int)))), ?_⟩
  and_intros
  refine ⟨(by show 0 ≤ sizeLine; decide), fun t0 ht0 => ?_⟩
  have s1 := same_new ht0 (.tup [])
  have e1 : (upd H t0 (.tup [])) t0 = some (.tup (([] : List Int).map V.int)) := upd_same
  generalize upd H t0 (.tup []) = H1 at s1 e1 ⊢
  have h1 := s1 _ _ ht
  and_intros
  refine ⟨t, t0, ts, [], rfl, rfl, SqT.of h1, SqT.of e1, ?_⟩
  and_intros
  cases ts with
  | nil =>
    refine ifF (by rw [decide_eq_true rfl]; rfl) ?_
    and_intros
    refine ⟨(by show 0 ≤ sizeLine; decide), fun t2 ht2 => ?_⟩
    have s2 := same_new ht2 (.tup [])
    have e2 : (upd H1 t2 (.tup [])) t2 = some (.tup (([] : List Int).map V.int)) := upd_same
    generalize upd H1 t2 (.tup []) = H2 at s2 e2 ⊢
    refine ⟨t, t2, [], [], rfl, rfl, SqT.of (s2 _ _ h1), SqT.of e2, ?_⟩
    and_intros
    refine ifT (decide_eq_true rfl) ?_
    exact q H2 (s1.trans s2)
  | cons a r =>
    refine ifT (by rw [decide_eq_false (fun z => nomatch z)]; rfl) ?_
    have pa := pos a (List.mem_cons_self ..)
    have at0 : atI ((a :: r).map V.int) 0 = some (.int a) := atN (i := 0) rfl
    and_intros
    refine ⟨t, _, _, _, rfl, rfl, SqT.of h1, at0, ?_⟩
    and_intros
    refine ⟨pow_small (by omega), ?_⟩
    dsimp only
    rw [Int.toNat_natCast, Int.one_mul]
    and_intros
    by_cases c : a = 2 ^ x
    · refine ifT (eq_t c) ?_
      have q' := q H1 s1
      have q' : Q (.int (if a = 2 ^ x then 0 else if bit a y = true then 2 else 1)) H1 := q'
      rw [if_pos c] at q'
      exact q'
    · refine ifF (eq_f c) ?_
      and_intros
      refine ⟨(by show 0 ≤ sizeLine; decide), fun t2 ht2 => ?_⟩
      have s2 := same_new ht2 (.tup [])
      have e2 : (upd H1 t2 (.tup [])) t2 = some (.tup (([] : List Int).map V.int)) := upd_same
      generalize upd H1 t2 (.tup []) = H2 at s2 e2 ⊢
      have h2 := s2 _ _ h1
      refine ⟨t, t2, _, [], rfl, rfl, SqT.of h2, SqT.of e2, ?_⟩
      and_intros
      refine ⟨t, _, _, _, rfl, rfl, SqT.of h2, at0, ?_⟩
      and_intros
      refine ⟨by omega, ?_⟩
      and_intros
      have q' := q H2 (s1.trans s2)
      have q' : Q (.int (if a = 2 ^ x then 0 else if bit a y = true then 2 else 1)) H2 := q'
      rw [if_neg c] at q'
      cases b : bit a y with
      | true =>
        rw [if_pos b] at q'
        refine ifF ((holds_no a (y : Int)).trans (by rw [Int.toNat_natCast, b]; rfl)) ?_
        exact q'
      | false =>
        rw [if_neg (by rw [b]; decide)] at q'
        refine ifT ((holds_no a (y : Int)).trans (by rw [Int.toNat_natCast, b]; rfl)) ?_
        exact q'
theorem ok_free_for (T : Tx K mg base ad) : FnOk P w K mg base CX0 2 ad.f_free_for ad.d_free_for ["sheet", "slip"] spFree := by
  refine T.F_free_for.ok sc_free_for (fun vs H Q E h => ?_) (fun cdv A outer s H vs Q E hr h => ?_)
  · obtain ⟨l, t, ls, ts, rfl, _⟩ := h
    rfl
  obtain ⟨l, t, ls, ts, rfl, hl, gl, ht, l60, q⟩ := h
  refine ⟨_, (@pss_one _ _ _ (@ps_ret _ _ _ _ (@pe_op _ _ _ _ _ _ _ _ op_sub (@pe_call _ _ _ _ _ _ _ _ _ _ _ _ _ _ _ _ (ok_ballots_in T) (hr.mono (by decide)) rfl T.m_ballots_in T.F_ballots_in.kp T.b_ballots_in .nil pass0 (@pa_cons _ _ _ _ _ (pv 0) pa_nil (by rfl)) (by decide) (by rfl) (by rfl)) (@pe_call _ _ _ _ _ _ _ _ _ _ _ _ _ _ _ _ (ok_number_of T) (hr.mono (by decide)) rfl T.m_number_of T.F_number_of.kp T.b_number_of .nil pass0 (@pa_cons _ _ _ _ _ (pv 0) (@pa_cons _ _ _ _ _ (pv 1) pa_nil (by rfl)) (by rfl)) (by decide) (by rfl) (by rfl))))), ?_⟩
  and_intros
  refine ⟨l, ls, rfl, hl, gl, by omega, fun H1 s1 => ?_⟩
  and_intros
  refine ⟨l, t, ls, ts, rfl, s1 _ _ hl, gl.same s1, s1 _ _ ht, by omega, fun H2 s2 => ?_⟩
  and_intros
  exact q _ (s1.trans s2)
theorem ok_turn_of (T : Tx K mg base ad) : FnOk P w K mg base CX0 2 ad.f_turn_of ad.d_turn_of ["slip", "x", "y"] spTurn := by
  refine T.F_turn_of.ok sc_turn_of (fun vs H Q E h => ?_) (fun cdv A outer s H vs Q E hr h => ?_)
  · obtain ⟨t, ts, x, y, rfl, _⟩ := h
    rfl
  obtain ⟨t, ts, x, y, rfl, ht, pos, hx, hy, q⟩ := h
  refine ⟨_, (@pss_cons _ _ _ _ _ (@ps_if _ _ _ _ _ _ _ _ (@pt_cmpR _ _ _ _ _ _ _ _ (op_eqT hr.units0) (pv 0) (@pe_tup _ _ _ _ _ pa_nil) (nomark _)) (@pss_one _ _ _ (@ps_ret _ _ _ _ pe_int)) pss_nil) (@pss_cons _ _ _ _ _ (@ps_if _ _ _ _ _ _ _ _ (@pt_cmpR _ _ _ _ _ _ _ _ op_eq (@pe_ix _ _ _ _ _ _ _ ix_tup (pv 0) pe_int (fun _ _ => rfl)) (@pe_call _ _ _ _ _ _ _ _ _ _ _ _ _ _ _ _ (ok_with_one T) (hr.mono (by decide)) rfl T.m_with_one T.F_with_one.kp T.b_with_one .nil pass0 (@pa_cons _ _ _ _ _ pe_int (@pa_cons _ _ _ _ _ (pv 1) pa_nil (by rfl)) (by rfl)) (by decide) (by rfl) (by rfl)) (nomark _)) (@pss_one _ _ _ (@ps_ret _ _ _ _ pe_int)) pss_nil) (@pss_one _ _ _ (@ps_ret _ _ _ _ (pe_ifExp (@pt_val _ _ _ (@pe_call _ _ _ _ _ _ _ _ _ _ _ _ _ _ _ _ (ok_holds T) (hr.mono (by decide)) rfl T.m_holds T.F_holds.kp T.b_holds .nil pass0 (@pa_cons _ _ _ _ _ (@pe_ix _ _ _ _ _ _ _ ix_tup (pv 0) pe_int (fun _ _ => rfl)) (@pa_cons _ _ _ _ _ (pv 2) pa_nil (by rfl)) (by rfl)) (by decide) (by rfl) (by rfl)) (by intro _; rfl)) pe_int pe_int))))), ?_⟩
  and_intros
  refine ⟨(by show 0 ≤ sizeLine; decide), fun t0 ht0 => ?_⟩
  have s1 := same_new ht0 (.tup [])
  have e1 : (upd H t0 (.tup [])) t0 = some (.tup (([] : List Int).map V.int)) := upd_same
  generalize upd H t0 (.tup []) = H1 at s1 e1 ⊢
  have h1 := s1 _ _ ht
  and_intros
  refine ⟨t, t0, ts, [], rfl, rfl, SqT.of h1, SqT.of e1, ?_⟩
  have q' := q H1 s1
  and_intros
  cases ts with
  | nil =>
    refine ifT (decide_eq_true rfl) ?_
    exact q'
  | cons a r =>
    refine ifF (decide_eq_false (fun z => nomatch z)) ?_
    have pa := pos a (List.mem_cons_self ..)
    have at0 : atI ((a :: r).map V.int) 0 = some (.int a) := atN (i := 0) rfl
    and_intros
    refine ⟨t, _, _, _, rfl, rfl, SqT.of h1, at0, ?_⟩
    and_intros
    refine ⟨0, (x : Int), rfl, by omega, by omega, ?_⟩
    rw [Int.toNat_natCast, one12 ⟨x, hx⟩]
    have q' : Q (.int (if a = 2 ^ x then 0 else if bit a y = true then 2 else 1)) H1 := q'
    dsimp only
    and_intros
    by_cases c : a = 2 ^ x
    · rw [if_pos c] at q'
      exact ifT (eq_t c) q'
    · rw [if_neg c] at q'
      refine ifF (eq_f c) ?_
      and_intros
      refine ⟨t, _, _, _, rfl, rfl, SqT.of h1, at0, ?_⟩
      and_intros
      refine ⟨a, (y : Int), rfl, by omega, ?_⟩
      rw [Int.toNat_natCast]
      and_intros
      cases b : bit a y with
      | true =>
        rw [if_pos b] at q'
        exact ifT rfl q'
      | false =>
        rw [if_neg (by rw [b]; decide)] at q'
        exact ifF rfl q'
theorem ok_law_slip (T : Tx K mg base ad) : FnOk P w K mg base CX0 2 ad.f_law_slip ad.d_law_slip ["_law_cell_here", "_law_hands"] spSlip16 := by
  refine T.F_law_slip.ok sc_law_slip (fun vs H Q E h => ?_) (fun cdv A outer s H vs Q E hr h => ?_)
  · obtain ⟨c, n, rfl, _⟩ := h
    rfl
  obtain ⟨c, n, rfl, szc, n1, n12, q⟩ := h
  refine ⟨_, (@pss_cons _ _ _ _ _ (@ps_set _ _ (2) _ _ _ _ sc_law_slip.nd rfl (Or.inl rfl) (@pe_call _ _ _ _ _ _ _ _ _ _ _ _ _ _ _ _ (ok_law_mixed T) (hr.mono (by decide)) rfl T.m_law_mixed T.F_law_mixed.kp T.b_law_mixed .nil pass0 (@pa_cons _ _ _ _ _ (pv 0) (@pa_cons _ _ _ _ _ (pv 1) pa_nil (by rfl)) (by rfl)) (by decide) (by rfl) (by rfl)) (by rfl) (by first | exact .inl rfl | exact .inr rfl | assumption)) (@pss_cons _ _ _ _ _ (@ps_set _ _ (3) _ _ _ _ sc_law_slip.nd rfl (Or.inl rfl) (@pe_op _ _ _ _ _ _ _ _ op_modN (pv 2) pe_int) (by rfl) (by first | exact .inl rfl | exact .inr rfl | assumption)) (@pss_cons _ _ _ _ _ (@ps_set _ _ (4) _ _ _ _ sc_law_slip.nd rfl (Or.inl rfl) (@pe_op _ _ _ _ _ _ _ _ op_modN (@pe_op _ _ _ _ _ _ _ _ op_fdivB (pv 2) pe_int) (@pe_op _ _ _ _ _ _ _ _ op_add (pv 1) pe_int)) (by rfl) (by first | exact .inl rfl | exact .inr rfl | assumption)) (@pss_cons _ _ _ _ _ (@ps_set _ _ (2) _ _ _ _ sc_law_slip.nd rfl (Or.inl rfl) (@pe_op _ _ _ _ _ _ _ _ op_fdivB (pv 2) pe_int) (by rfl) (by first | exact .inl rfl | exact .inr rfl | assumption)) (@pss_cons _ _ _ _ _ (@ps_set _ _ (5) _ _ _ _ sc_law_slip.nd rfl (Or.inl rfl) (pe_listrange rfl (by rfl) T.z_list (by rfl) T.z_range (pv 1)) (by rfl) (by first | exact .inl rfl | exact .inr rfl | assumption)) (@pss_cons _ _ _ _ _ (@ps_set _ _ (6) _ _ _ _ sc_law_slip.nd rfl (Or.inr rfl) pe_dnewK (by rfl) (by first | exact .inl rfl | exact .inr rfl | assumption)) (@pss_cons _ _ _ _ _ (ps_for PassesOwn.never rfl (pi_range1 rfl T.z_range (@pa_cons _ _ _ _ _ (pv 1) pa_nil (by rfl))) (pg_name (i := 7) sc_law_slip.nd rfl (Or.inl rfl)) (@pss_cons _ _ _ _ _ (@ps_set _ _ (8) _ _ _ _ sc_law_slip.nd rfl (Or.inl rfl) (@pe_ix _ _ _ _ _ _ _ ix_list (@pe_lst _ _ _ _ (@pa_cons _ _ _ _ _ (@pe_callB _ _ _ _ _ _ _ _ _ call_len_seq (by rfl) T.z_len PySem.boot_len (@pa_cons _ _ _ _ _ (pv 5) pa_nil (by rfl)) (by decide) (by decide) (by rfl) (by rfl)) (@pa_cons _ _ _ _ _ (@pe_op _ _ _ _ _ _ _ _ op_add (pv 1) pe_int) (@pa_cons _ _ _ _ _ pe_int (@pa_cons _ _ _ _ _ (@pe_callB _ _ _ _ _ _ _ _ _ call_len_seq (by rfl) T.z_len PySem.boot_len (@pa_cons _ _ _ _ _ (pv 5) pa_nil (by rfl)) (by decide) (by decide) (by rfl) (by rfl)) pa_nil (by rfl)) (by rfl)) (by rfl)) (by rfl))) (pv 3) (fun _ _ => rfl)) (by rfl) (by first | exact .inl rfl | exact .inr rfl | assumption)) (@pss_cons _ _ _ _ _ (@ps_set _ _ (9) _ _ _ _ sc_law_slip.nd rfl (Or.inl rfl) (@pe_op _ _ _ _ _ _ _ _ op_modN (pv 2) (pv 8)) (by rfl) (by first | exact .inl rfl | exact .inr rfl | assumption)) (@pss_cons _ _ _ _ _ (@ps_set _ _ (2) _ _ _ _ sc_law_slip.nd rfl (Or.inl rfl) (@pe_op _ _ _ _ _ _ _ _ op_fdivB (pv 2) (pv 8)) (by rfl) (by first | exact .inl rfl | exact .inr rfl | assumption)) (@pss_cons _ _ _ _ _ (@ps_ifJ _ _ _ _ _ _ _ _ (PW.pt (@pw_or _ _ _ _ _ _ _ (@pt_cmpR _ _ _ _ _ _ _ _ op_eq (pv 3) pe_int (nomark _)) (@pw_or1 _ _ _ _ (PW.pt (@pw_and _ _ _ _ _ _ _ (@pt_cmpR _ _ _ _ _ _ _ _ op_eq (pv 3) pe_int (nomark _)) (@pw_and1 _ _ _ _ (@pt_cmpR _ _ _ _ _ _ _ _ op_lt (pv 7) (pv 4) (nomark _)))))))) (@pss_one _ _ _ (ps_dput (u1 hr.units) (pv 6) (pv 7) (@pe_lst _ _ _ _ (@pa_cons _ _ _ _ _ (pe_bm PySem.F.plainAttrs_list PySem.F.slot_list_pop PySem.F.type_list_pop mt_popAt (pv 5) (@pa_cons _ _ _ _ _ (pv 9) pa_nil (by rfl))) pa_nil (by rfl))) rfl)) pss_nil) (@pss_one _ _ _ (@ps_ifJ _ _ _ _ _ _ _ _ (PW.pt (@pw_and _ _ _ _ _ _ _ (@pt_cmpR _ _ _ _ _ _ _ _ op_in_seq (pv 3) (@pe_tup _ _ _ _ _ (@pa_cons _ _ _ _ _ pe_int (@pa_cons _ _ _ _ _ pe_int pa_nil (by rfl)) (by rfl))) (by with_unfolding_all rfl)) (@pw_and1 _ _ _ _ (@pt_cmpR _ _ _ _ _ _ _ _ op_gt (pv 9) pe_int (nomark _))))) (@pss_one _ _ _ (ps_dput (u1 hr.units) (pv 6) (pv 9) (@pe_op _ _ _ _ _ _ _ _ op_cat (pe_dget2 (u1 hr.units) (pv 6) (pv 9) (@pe_lst _ _ _ _ pa_nil) ⟨rfl, rfl, rfl, rfl⟩) (@pe_lst _ _ _ _ (@pa_cons _ _ _ _ _ (pv 7) pa_nil (by rfl)))) rfl)) pss_nil))))))) (@pss_one _ _ _ (@ps_ret _ _ _ _ (@pe_callTy _ _ _ _ _ _ _ _ _ call_tuple_of (by rfl) T.z_tuple PyProof.Rows.boot_tuple (@pa_cons _ _ _ _ _ (pe_comp (fsc := defScope s_law_slip) (N := ["_law_cell_here", "_law_hands", "_law_number_here", "_law_way", "_law_many_here", "_law_left", "_law_tiers", "_law_k", "_law_base", "_law_lot"]) (Nc := ["_law_cell_here", "_law_hands", "_law_number_here", "_law_way", "_law_many_here", "_law_left", "_law_tiers", "_law_k", "_law_base", "_law_lot", "_law_rank"]) rfl rfl ⟨rfl, by decide +kernel, by decide +kernel, rfl, by decide +kernel, rfl, by decide +kernel, rfl, by decide +kernel⟩ rfl (pi_list (@pe_callB _ _ _ _ _ _ _ _ _ (call_sortedDI rfl) (by rfl) T.z_sorted PyProof.Rows.boot_sorted (@pa_cons _ _ _ _ _ (pv 6) pa_nil (by rfl)) (by decide) (by decide) (by rfl) (by rfl))) (fun _ _ _ _ => pif_nil) (fun _ _ _ _ => (@pe_call _ _ _ _ _ _ _ _ _ _ _ _ _ _ _ _ (ok_law_mask T) (hr.mono (by decide)) rfl T.m_law_mask T.F_law_mask.kp T.b_law_mask .nil pass0 (@pa_cons _ _ _ _ _ (pe_dget (u1 hr.units) (pv 6) (pv 10) (fun _ _ => rfl)) pa_nil (by rfl)) (by decide) (by rfl) (by rfl)))) pa_nil (by rfl)) (by decide) (by decide) (by rfl) (by rfl))))))))))), ?_⟩
  and_intros
  refine ⟨c, (n : Int), rfl, szc, by omega, by omega, fun z z0 z1 => ?_⟩
  have szz : Sz 200 z := sz40 z0 (Int.lt_trans z1 (by decide))
  and_intros
  refine ⟨(by show (_ : Int) ≠ 0; omega), ?_⟩
  and_intros
  refine ⟨by omega, fun l hl => ?_⟩
  rw [show (List.map (fun i : Nat => V.int (i : Int)) (List.range n)) = ((List.range n).map fun i : Nat => (i : Int)).map V.int from (by rw [List.map_map]; rfl)]
  have rl : ((List.range n).map fun i : Nat => (i : Int)).length = n := by rw [List.length_map, List.length_range]
  have rin : ∀ x ∈ ((List.range n).map fun i : Nat => (i : Int)), 0 ≤ x ∧ x < (n : Int) := fun x m => by
    obtain ⟨i, im, rfl⟩ := List.mem_map.mp m
    have := List.mem_range.mp im
    omega
  generalize ((List.range n).map fun i : Nat => (i : Int)) = left at rl rin ⊢
  have s1 := same_new hl (.lst (left.map V.int))
  have e1 : (upd H l (.lst (left.map V.int))) l = some (.lst (left.map V.int)) := upd_same
  generalize upd H l (.lst (left.map V.int)) = H1 at s1 e1 ⊢
  intro d hd
  have s2 := same_new hd (.dK [])
  have e2 : (upd H1 d (.dK [])) d = some (.dK []) := upd_same
  generalize upd H1 d (.dK []) = H2 at s2 e2 ⊢
  have dl : d ≠ l := fun z => by rw [z, e1] at hd; cases hd
  have hdH := none_of s1 hd
  have mw := fmod_in z (show (0 : Int) < 4 by decide)
  have lc := low_cut (d := 64) z0 (by decide) z1
  dsimp only
  generalize (z.fdiv 4).fmod ((n : Int) + 1) = m
  generalize z.fmod 4 = w at mw ⊢
  generalize z.fdiv 64 = z at lc ⊢
  and_intros
  refine ⟨by omega, by omega, for_range (fun i σ' J => ∃ (v7 v8 v9 : Option V) (z : Int) (left : List Int) (kvs : List (Key × V)), σ' = [some (.int c), some (.int (n : Int)), some (.int z), some (.int w), some (.int m), some (.ref l), some (.ref d), v7, v8, v9] ∧ 0 ≤ z ∧ z < 10 ^ 31 ∧ Same H J ∧ J l = some (.lst (left.map V.int)) ∧ J d = some (.dK kvs) ∧ n ≤ left.length + i ∧ left.length ≤ n ∧ (∀ x ∈ left, 0 ≤ x ∧ x < (n : Int)) ∧ kvs.length ≤ i ∧ TierD J l n i w kvs) ⟨none, none, none, z, left, [], rfl, lc.1, lc.2, s1.trans s2, s2 _ _ e1, e2, by omega, by omega, rin, Nat.le_refl _, List.nodup_nil, fun _ m => nomatch m⟩ ?_ ?_⟩
  · rintro i σ' J hi ⟨v7, v8, v9, z, left, kvs, rfl, z0, z1, sJ, eL, eD, ln, ln2, rin, kl, td⟩
    rw [Int.toNat_natCast] at hi
    have szz : Sz 200 z := sz40 z0 (Int.lt_trans z1 (by decide))
    have ll : (left.map V.int).length = left.length := List.length_map _
    and_intros
    refine ⟨(by show 4 ≤ sizeLine; decide), fun b4 hb4 => ?_⟩
    dsimp only
    rw [ll]
    have sj1 := same_new hb4 (.lst [V.int (left.length : Nat), V.int ((n : Int) + 1), V.int 3, V.int (left.length : Nat)])
    have ej1 : (upd J b4 (.lst [V.int (left.length : Nat), V.int ((n : Int) + 1), V.int 3, V.int (left.length : Nat)])) b4 = some (.lst [V.int (left.length : Nat), V.int ((n : Int) + 1), V.int 3, V.int (left.length : Nat)]) := upd_same
    generalize upd J b4 (.lst [V.int (left.length : Nat), V.int ((n : Int) + 1), V.int 3, V.int (left.length : Nat)]) = J1 at sj1 ej1 ⊢
    obtain ⟨b, hb, b1, b13, bw⟩ : ∃ b : Int, atI [V.int (left.length : Nat), V.int ((n : Int) + 1), V.int 3, V.int (left.length : Nat)] w = some (.int b) ∧ 1 ≤ b ∧ b ≤ 13 ∧ (w = 0 ∨ w = 3 → b = (left.length : Nat)) := by
      rcases (by omega : w = 0 ∨ w = 1 ∨ w = 2 ∨ w = 3) with rfl | rfl | rfl | rfl
      · exact ⟨_, rfl, by omega, by omega, fun _ => rfl⟩
      · exact ⟨_, rfl, by omega, by omega, fun k => by omega⟩
      · exact ⟨_, rfl, by omega, by omega, fun k => by omega⟩
      · exact ⟨_, rfl, by omega, by omega, fun _ => rfl⟩
    and_intros
    refine ⟨b4, _, _, _, rfl, rfl, SqL.of ej1, hb, ?_⟩
    and_intros
    refine ⟨(by show (_ : Int) ≠ 0; omega), ?_⟩
    have lt := fmod_in z (show 0 < b by omega)
    have lc := low_cut (d := b) z0 b1 z1
    have szb : Sz 64 b := sz_of (by omega) (by omega)
    and_intros
    refine ⟨⟨by show (_ : Int) ≠ 0; omega, szb.mono (by decide)⟩, ?_⟩
    dsimp only
    generalize z.fmod b = lo at lt ⊢
    generalize z.fdiv b = z at lc ⊢
    have sJ1 := sJ.trans sj1
    have tJ := td.same sj1
    have eL1 := sj1 _ _ eL
    have eD1 := sj1 _ _ eD
    and_intros
    refine ⟨fun σ' J => ∃ (left : List Int) (kvs : List (Key × V)), σ' = [some (.int c), some (.int (n : Int)), some (.int z), some (.int w), some (.int m), some (.ref l), some (.ref d), some (.int (0 + (i : Int))), some (.int b), some (.int lo)] ∧ Same H J ∧ J l = some (.lst (left.map V.int)) ∧ J d = some (.dK kvs) ∧ n ≤ left.length + (i + 1) ∧ left.length ≤ n ∧ (∀ x ∈ left, 0 ≤ x ∧ x < (n : Int)) ∧ kvs.length ≤ i + 1 ∧ (w = 1 ∨ w = 2 → kvs.length ≤ i) ∧ TierD J l n i w kvs, ?_, ?_⟩
    · refine or_test (decide (w = 3 ∨ (w = 0 ∧ 0 + (i : Int) < m))) (fun R r => ?_) ?_
      · and_intros
        by_cases c3 : w = 3
        · refine ifT (eq_t c3) ?_
          rw [decide_eq_true (Or.inl c3)] at r
          exact r
        · refine ifF (eq_f c3) ?_
          and_intros
          by_cases c0 : w = 0
          · refine ifT (eq_t c0) ?_
            and_intros
            rw [show decide (w = 3 ∨ (w = 0 ∧ 0 + (i : Int) < m)) = decide (0 + (i : Int) < m) from by congr 1; apply propext; omega] at r
            exact r
          · refine ifF (eq_f c0) ?_
            rw [decide_eq_false (by omega)] at r
            exact r
      by_cases c : w = 3 ∨ (w = 0 ∧ 0 + (i : Int) < m)
      · refine ifT (decide_eq_true c) ?_
        have lo' : lo < (left.length : Int) := by rw [← bw (by omega)]; exact lt.2
        obtain ⟨j, rfl⟩ : ∃ j : Nat, lo = (j : Int) := ⟨lo.toNat, by omega⟩
        have hj : j < left.length := by omega
        have xin := rin left[j] (List.getElem_mem hj)
        and_intros
        refine ⟨.inl ⟨rfl, _, SqL.of eL1⟩, ?_⟩
        and_intros
        refine ⟨l, _, _, j, V.int left[j], rfl, rfl, eL1, by omega, by omega, seqAt (by rw [List.length_map]; exact hj), (by rw [List.getElem?_map, List.getElem?_eq_getElem hj]; rfl), ?_⟩
        have s4 := same_upd (o := .lst ((left.map V.int).eraseIdx j)) sJ1 hl
        have g1 : (upd J1 l (.lst ((left.map V.int).eraseIdx j))) l = some (.lst ((left.eraseIdx j).map V.int)) := by rw [upd_same, map_erase]
        have g2 : (upd J1 l (.lst ((left.map V.int).eraseIdx j))) d = some (.dK kvs) := by rw [upd_ne dl]; exact eD1
        have t4 : TierD (upd J1 l (.lst ((left.map V.int).eraseIdx j))) l n i w kvs := tJ.off
        generalize upd J1 l (.lst ((left.map V.int).eraseIdx j)) = J4 at s4 g1 g2 t4 ⊢
        refine ⟨(by show 1 ≤ sizeLine; decide), fun a ha => ?_⟩
        have sj5 := same_new ha (.lst [V.int left[j]])
        have ej5 : (upd J4 a (.lst [V.int left[j]])) a = some (.lst [V.int left[j]]) := upd_same
        generalize upd J4 a (.lst [V.int left[j]]) = J5 at sj5 ej5 ⊢
        have al : a ≠ l := fun z => by rw [z, g1] at ha; cases ha
        refine ⟨_, rfl, _, rfl, d, _, rfl, DPut.k (k := Sum.inl (0 + (i : Int))) (sj5 _ _ g2) (small1000 (by omega)), ?_⟩
        have tt : TierL n i w [left[j]] := ⟨(fun z => nomatch z), List.pairwise_singleton _ _, fun x xm => by
          rw [List.mem_singleton.mp xm]
          exact ⟨xin.1, xin.2, fun k => by omega⟩⟩
        have dK := (t4.same sj5).put (z := 0 + (i : Int)) (sj5 _ _ g2) ej5 al tt
        exact ⟨left.eraseIdx j, _, rfl, same_upd (s4.trans sj5) hdH, (by rw [upd_ne (Ne.symm dl)]; exact sj5 _ _ g1), upd_same, (by rw [List.length_eraseIdx, if_pos hj]; omega), (by rw [List.length_eraseIdx, if_pos hj]; omega), (fun x xm => rin x (List.mem_of_mem_eraseIdx xm)), Nat.le_trans (length_putK ..) (Nat.succ_le_succ kl), (fun k => by omega), dK⟩
      · refine ifF (decide_eq_false c) ?_
        exact ⟨left, kvs, rfl, sJ1, eL1, eD1, by omega, ln2, rin, by omega, (fun _ => kl), tJ⟩
    clear ll hb szb bw eL1 eD1 tJ sJ1 sJ eL eD ln ln2 rin td kl
    rintro σ' J2 ⟨left, kvs, rfl, sJ, eL, eD, ln, ln2, rin, kl, kw, td⟩
    and_intros
    refine ⟨fun σ' J => ∃ (left : List Int) (kvs : List (Key × V)), σ' = [some (.int c), some (.int (n : Int)), some (.int z), some (.int w), some (.int m), some (.ref l), some (.ref d), some (.int (0 + (i : Int))), some (.int b), some (.int lo)] ∧ Same H J ∧ J l = some (.lst (left.map V.int)) ∧ J d = some (.dK kvs) ∧ n ≤ left.length + (i + 1) ∧ left.length ≤ n ∧ (∀ x ∈ left, 0 ≤ x ∧ x < (n : Int)) ∧ kvs.length ≤ i + 1 ∧ TierD J l n (i + 1) w kvs, ?_, ?_⟩
    · refine test_s (decide ((w = 1 ∨ w = 2) ∧ 0 < lo)) (fun R r => ?_) (fun J3 s3 => ?_)
      · and_intros
        refine ⟨(by show 2 ≤ sizeLine; decide), fun t ht => ?_⟩
        have st := same_new ht (.tup [V.int 1, V.int 2])
        have et : (upd J2 t (.tup [V.int 1, V.int 2])) t = some (.tup [V.int 1, V.int 2]) := upd_same
        generalize upd J2 t (.tup [V.int 1, V.int 2]) = J3 at st et ⊢
        refine ⟨t, _, rfl, .inr (SqT.of et), rfl, rfl, ?_⟩
        have r' := r J3 st
        have ew : inV (.int w) [V.int 1, V.int 2] = decide (w = 1 ∨ w = 2) := by
          rcases (by omega : w = 0 ∨ w = 1 ∨ w = 2 ∨ w = 3) with rfl | rfl | rfl | rfl <;> rfl
        by_cases c : w = 1 ∨ w = 2
        · refine ⟨_, rfl, ifT (by show inV (.int w) [V.int 1, V.int 2] = true; exact ew.trans (decide_eq_true c)) ?_⟩
          and_intros
          rw [show decide ((w = 1 ∨ w = 2) ∧ 0 < lo) = decide (0 < lo) from by congr 1; apply propext; exact ⟨fun z => z.2, fun z => ⟨c, z⟩⟩] at r'
          exact r'
        · refine ⟨_, rfl, ifF (by show inV (.int w) [V.int 1, V.int 2] = false; exact ew.trans (decide_eq_false c)) ?_⟩
          rw [decide_eq_false (fun z => c z.1)] at r'
          exact r'
      have sJ := sJ.trans s3
      have eL := s3 _ _ eL
      have eD := s3 _ _ eD
      have td := td.same s3
      by_cases c : (w = 1 ∨ w = 2) ∧ 0 < lo
      · refine ifT (decide_eq_true c) ?_
        and_intros
        refine ⟨.inl ⟨_, .inl eD⟩, ?_⟩
        and_intros
        refine ⟨(by show 0 ≤ sizeLine; decide), fun e0 he0 => ?_⟩
        have s4 := same_new he0 (.lst [])
        have ee0 : (upd J3 e0 (.lst [])) e0 = some (.lst []) := upd_same
        generalize upd J3 e0 (.lst []) = J4 at s4 ee0 ⊢
        have e0l : e0 ≠ l := fun z => by rw [z, eL] at he0; cases he0
        refine ⟨_, DGet.k (k := (Sum.inl lo : Key)) (s4 _ _ eD), ?_⟩
        have old : ∃ (a : Addr) (hs : List Int), (valV kvs (Sum.inl lo : Key)).getD (.ref e0) = .ref a ∧ J4 a = some (.lst (hs.map V.int)) ∧ a ≠ l ∧ hs.Pairwise (· < ·) ∧ ∀ h ∈ hs, 0 ≤ h ∧ h < (i : Int) := by
          cases e : valV kvs (Sum.inl lo : Key) with
          | none => exact ⟨e0, [], rfl, ee0, e0l, List.Pairwise.nil, fun _ m => nomatch m⟩
          | some v =>
            obtain ⟨z', a, hs, eq, h1, h2, h3, h4, h5⟩ := td.2 _ (valV_mem e)
            injection eq with eq1 eq2
            exact ⟨a, hs, by rw [eq2]; rfl, s4 _ _ h1, h2, h4, fun h hm => ⟨(h5 h hm).1, (h5 h hm).2.2 c.1⟩⟩
        obtain ⟨a, hs, ea, ha, al, pw, hin⟩ := old
        rw [ea]
        and_intros
        refine ⟨(by show 1 ≤ sizeLine; decide), fun f0 hf0 => ?_⟩
        have s5 := same_new hf0 (.lst [V.int (0 + (i : Int))])
        have ef0 : (upd J4 f0 (.lst [V.int (0 + (i : Int))])) f0 = some (.lst [V.int (0 + (i : Int))]) := upd_same
        generalize upd J4 f0 (.lst [V.int (0 + (i : Int))]) = J5 at s5 ef0 ⊢
        have hl12 : hs.length ≤ 12 := by
          have nd : hs.Nodup := pw.imp fun h e => by omega
          have := nodup_len (p := (List.range n).map fun i : Nat => (i : Int)) nd (fun h hm => List.mem_map.mpr ⟨h.toNat, List.mem_range.mpr (by have := hin h hm; omega), by have := hin h hm; omega⟩)
          rw [List.length_map, List.length_range] at this
          omega
        refine ⟨a, f0, _, _, rfl, rfl, s5 _ _ ha, ef0, (by simp only [List.length_map, List.length_cons, List.length_nil]; exact small900 (by omega)), fun g hg => ?_⟩
        have s6 := same_new hg (.lst (hs.map V.int ++ [V.int (0 + (i : Int))]))
        have eg : (upd J5 g (.lst (hs.map V.int ++ [V.int (0 + (i : Int))]))) g = some (.lst ((hs ++ [(i : Int)]).map V.int)) := by rw [upd_same, List.map_append, Int.zero_add]; rfl
        generalize upd J5 g (.lst (hs.map V.int ++ [V.int (0 + (i : Int))])) = J6 at s6 eg ⊢
        have s36 := (s4.trans s5).trans s6
        have gl : g ≠ l := fun z => by rw [z, (s4.trans s5) _ _ eL] at hg; cases hg
        refine ⟨_, rfl, _, rfl, d, _, rfl, DPut.k (k := Sum.inl lo) (s36 _ _ eD) (small1000 (by omega)), ?_⟩
        have tt : TierL n (i + 1) w (hs ++ [(i : Int)]) := ⟨(fun z => by have := congrArg List.length z; rw [List.length_append] at this; exact nomatch this), (by
          rw [List.pairwise_append]
          exact ⟨pw, List.pairwise_singleton _ _, fun x xm y ym => by rw [List.mem_singleton.mp ym]; exact (hin x xm).2⟩), fun x xm => by
          rcases List.mem_append.mp xm with xm | xm
          · have := hin x xm
            exact ⟨this.1, by omega, fun _ => by omega⟩
          · rw [List.mem_singleton.mp xm]
            exact ⟨by omega, by omega, fun _ => by omega⟩⟩
        have dK := (td.up.same s36).put (z := lo) (s36 _ _ eD) eg gl tt
        have kl' := kw c.1
        exact ⟨left, _, rfl, same_upd (sJ.trans s36) hdH, (by rw [upd_ne (Ne.symm dl)]; exact s36 _ _ eL), upd_same, ln, ln2, rin, Nat.le_trans (length_putK ..) (Nat.succ_le_succ kl'), dK⟩
      · refine ifF (decide_eq_false c) ?_
        exact ⟨left, kvs, rfl, sJ, eL, eD, ln, ln2, rin, kl, td.up⟩
    · rintro σ' J3 ⟨left, kvs, rfl, sJ, eL, eD, ln, ln2, rin, kl, td⟩
      exact ⟨_, _, _, _, _, _, rfl, lc.1, lc.2, sJ, eL, eD, ln, ln2, rin, kl, td⟩
  · rintro σ' J ⟨v7, v8, v9, z, left, kvs, rfl, z0, z1, sJ, eL, eD, ln, ln2, rin, kl, td⟩
    rw [Int.toNat_natCast] at kl td
    obtain ⟨ns, k1, k2, k3⟩ := td.keys
    and_intros
    refine ⟨d, kvs, ns, rfl, .inl eD, k1, by omega, fun l2 ms p1 p2 hl2 => ?_⟩
    have s1 := same_new hl2 (.lst (ms.map V.int))
    have e1 : (upd J l2 (.lst (ms.map V.int))) l2 = some (.lst (ms.map V.int)) := upd_same
    generalize upd J l2 (.lst (ms.map V.int)) = J1 at s1 e1 ⊢
    refine ⟨l2, rfl, ⟨_, SqL.of e1⟩, ?_⟩
    have ml : ms.length = kvs.length := by rw [p1.length_eq, k2]
    refine comp_list (xs := ms.map V.int) (by rw [List.length_map]; exact small63 (by omega)) (fun D i ys H' => ∃ ts : List Int, ys = ts.map V.int ∧ ts.length = i ∧ H' D = some (.lst ys) ∧ Same J1 H' ∧ ∀ x ∈ ts, 0 < x ∧ x < 2 ^ n) (fun D hD => ⟨[], rfl, rfl, upd_same, same_new hD _, fun _ m => nomatch m⟩) (fun D i ys H' ⟨ts, f1, f2, f3, _⟩ => ⟨f3, by rw [f1, List.length_map, f2]; exact Nat.le_refl _⟩) (fun D i ys H' hD ⟨ts, _, _, _, f4, _⟩ => SqL.of (f4 _ _ e1)) ?_ ?_
    · rintro D i x ys H' K1 K2 hD hx ⟨ts, rfl, f2, f3, f4, f5⟩ kk1 kk2
      obtain ⟨r, hr', rfl⟩ := int_at hx
      obtain ⟨a, hs, a1, a2, a3, a4, a5⟩ := k3 r (p1.mem_iff.mp (List.mem_of_getElem? hr'))
      have sH := s1.trans f4
      have dg := DGet.k (k := (Sum.inl r : Key)) (sH _ _ eD)
      rw [a1] at dg
      have hl12 : hs.length ≤ 12 := by
        have nd : hs.Nodup := a4.imp fun h e => by omega
        have := nodup_len (p := (List.range n).map fun i : Nat => (i : Int)) nd (fun h hm => List.mem_map.mpr ⟨h.toNat, List.mem_range.mpr (by have := a5 h hm; omega), by have := a5 h hm; omega⟩)
        rw [List.length_map, List.length_range] at this
        omega
      refine yes (ifT rfl ?_)
      refine ⟨_, rfl, _, rfl, d, _, rfl, dg, ?_⟩
      and_intros
      refine ⟨a, hs, rfl, sH _ _ a2, by omega, (fun h hm => by have := a5 h hm; omega), fun H5 s5 => ?_⟩
      have mi := mask_in (n := n) a4 (fun h hm => ⟨(a5 h hm).1, (a5 h hm).2.1⟩) a3
      refine kk1 _ _ (s5 _ _ f3) ⟨ts ++ [maskOf hs], by rw [List.map_append]; rfl, by rw [List.length_append, f2]; rfl, upd_same, same_upd (f4.trans s5) hD, fun y ym => ?_⟩
      rcases List.mem_append.mp ym with ym | ym
      · exact f5 y ym
      · rw [List.mem_singleton.mp ym]
        exact mi
    · rintro D ys H' hD ⟨ts, rfl, f2, f3, f4, f5⟩
      rw [List.length_map] at f2
      refine ⟨D, _, rfl, .inl ⟨SqL.of f3, fun t ht => ?_⟩⟩
      have s9 := ((sJ.trans s1).trans f4)
      exact q t ts _ (none_of s9 ht) (s9.trans (same_new ht _)) upd_same ⟨f5, by omega⟩
theorem ok_law_put (T : Tx K mg base ad) : FnOk P w K mg base CX0 2 ad.f_law_put ad.d_law_put ["_law_script", "_law_sheet_here", "_law_hands", "_law_x", "_law_y"] (spPut K) := by
  refine T.F_law_put.ok sc_law_put (fun vs H Q E h => ?_) (fun cdv A outer s H vs Q E hr h => ?_)
  · obtain ⟨p, l, ns, ls, n, x, y, rfl, _⟩ := h
    rfl
  obtain ⟨p, l, ns, ls, n, x, y, rfl, hS, h63, hl, gl, l13, n12, hx, hy, q⟩ := h
  refine ⟨_, (@pss_cons _ _ _ _ _ (@ps_set _ _ (5) _ _ _ _ sc_law_put.nd rfl (Or.inr rfl) (@pe_call _ _ _ _ _ _ _ _ _ _ _ _ _ _ _ _ (ok_law_mixed T) (hr.mono (by decide)) rfl T.m_law_mixed T.F_law_mixed.kp T.b_law_mixed .nil pass0 (@pa_cons _ _ _ _ _ (@pe_call _ _ _ _ _ _ _ _ _ _ _ _ _ _ _ _ (ok_law_cell T) (hr.mono (by decide)) rfl T.m_law_cell T.F_law_cell.kp T.b_law_cell .nil pass0 (@pa_cons _ _ _ _ _ (pv 0) (@pa_cons _ _ _ _ _ pe_int pa_nil (by rfl)) (by rfl)) (by decide) (by rfl) (by rfl)) (@pa_cons _ _ _ _ _ pe_int pa_nil (by rfl)) (by rfl)) (by decide) (by rfl) (by rfl)) (by rfl) (by first | exact .inl rfl | exact .inr rfl | assumption)) (@pss_cons _ _ _ _ _ (ps_setC (j := 6) (fsc := defScope s_law_put) (N := ["_law_script", "_law_sheet_here", "_law_hands", "_law_x", "_law_y", "_law_cell_here", "_law_others", "_law_some", "_law_slip_here", "_law_number_here"]) (Nc := ["_law_script", "_law_sheet_here", "_law_hands", "_law_x", "_law_y", "_law_cell_here", "_law_others", "_law_some", "_law_slip_here", "_law_number_here", "_law_hand"]) rfl rfl ⟨rfl, by decide +kernel, by decide +kernel, rfl, by decide +kernel, rfl, by decide +kernel, rfl, by decide +kernel⟩ rfl sc_law_put.nd rfl rfl (pi_range1 rfl T.z_range (@pa_cons _ _ _ _ _ (pv 2) pa_nil (by rfl))) (fun _ _ _ _ => (pif_one (PW.pt (@pw_and _ _ _ _ _ _ _ (@pt_cmpR _ _ _ _ _ _ _ _ op_ne (pv 10) (pv 3) (nomark _)) (@pw_and1 _ _ _ _ (@pt_cmpR _ _ _ _ _ _ _ _ op_ne (pv 10) (pv 4) (nomark _))))))) (fun _ _ _ _ => (pv 10)) rfl) (@pss_cons _ _ _ _ _ (ps_setC (j := 7) (fsc := defScope s_law_put) (N := ["_law_script", "_law_sheet_here", "_law_hands", "_law_x", "_law_y", "_law_cell_here", "_law_others", "_law_some", "_law_slip_here", "_law_number_here"]) (Nc := ["_law_script", "_law_sheet_here", "_law_hands", "_law_x", "_law_y", "_law_cell_here", "_law_others", "_law_some", "_law_slip_here", "_law_number_here", "_law_hand"]) rfl rfl ⟨rfl, by decide +kernel, by decide +kernel, rfl, by decide +kernel, rfl, by decide +kernel, rfl, by decide +kernel⟩ rfl sc_law_put.nd rfl rfl (pi_list (pv 6)) (fun _ _ _ _ => (pif_one (@pt_cmpR _ _ _ _ _ _ _ _ op_eq (@pe_op _ _ _ _ _ _ _ _ op_and (@pe_op _ _ _ _ _ _ _ _ op_shr (pv 5) (@pe_op _ _ _ _ _ _ _ _ op_add (pv 10) pe_int)) pe_int) pe_int (nomark _)))) (fun _ _ _ _ => (pv 10)) rfl) (@pss_cons _ _ _ _ _ (@ps_if _ _ _ _ _ _ _ _ (@pt_cmpR _ _ _ _ _ _ _ _ op_eq (@pe_op _ _ _ _ _ _ _ _ op_modN (pv 5) pe_int) pe_int (nomark _)) (@pss_one _ _ _ (@ps_ret _ _ _ _ (@pe_tup _ _ _ _ _ (@pa_cons _ _ _ _ _ (@pe_call _ _ _ _ _ _ _ _ _ _ _ _ _ _ _ _ (ok_law_mask T) (hr.mono (by decide)) rfl T.m_law_mask T.F_law_mask.kp T.b_law_mask .nil pass0 (@pa_cons _ _ _ _ _ (@pe_op _ _ _ _ _ _ _ _ op_cat (@pe_lst _ _ _ _ (@pa_cons _ _ _ _ _ (pv 4) pa_nil (by rfl))) (pv 7)) pa_nil (by rfl)) (by decide) (by rfl) (by rfl)) pa_nil (by rfl))))) pss_nil) (@pss_cons _ _ _ _ _ (@ps_ifJ _ _ _ _ _ _ _ _ (PW.pt (@pw_and _ _ _ _ _ _ _ (@pt_cmpR _ _ _ _ _ _ _ _ op_eq (@pe_op _ _ _ _ _ _ _ _ op_modN (pv 5) pe_int) pe_int (nomark _)) (@pw_and1 _ _ _ _ (@pt_cmpR _ _ _ _ _ _ _ _ (op_neL hr.units) (pv 7) (@pe_lst _ _ _ _ pa_nil) (nomark _))))) (@pss_one _ _ _ (@ps_ret _ _ _ _ (@pe_tup _ _ _ _ _ (@pa_cons _ _ _ _ _ (@pe_op _ _ _ _ _ _ _ _ op_shl pe_int (pv 4)) (@pa_cons _ _ _ _ _ (@pe_call _ _ _ _ _ _ _ _ _ _ _ _ _ _ _ _ (ok_law_mask T) (hr.mono (by decide)) rfl T.m_law_mask T.F_law_mask.kp T.b_law_mask .nil pass0 (@pa_cons _ _ _ _ _ (pv 7) pa_nil (by rfl)) (by decide) (by rfl) (by rfl)) pa_nil (by rfl)) (by rfl))))) pss_nil) (@pss_cons _ _ _ _ _ (@ps_ifJ _ _ _ _ _ _ _ _ (@pt_cmpR _ _ _ _ _ _ _ _ op_eq (@pe_op _ _ _ _ _ _ _ _ op_modN (pv 5) pe_int) pe_int (nomark _)) (@pss_one _ _ _ (ps_for PassesOwn.never rfl (pi_list (pv 1)) (pg_tup rfl (pgs_cons (pg_name (i := 8) sc_law_put.nd rfl (Or.inl rfl)) (pgs_cons (pg_name (i := 9) sc_law_put.nd rfl (Or.inl rfl)) pgs_nil))) (@pss_one _ _ _ (@ps_if _ _ _ _ _ _ _ _ (PW.pt (@pw_and _ _ _ _ _ _ _ (@pt_cmpR _ _ _ _ _ _ _ _ (op_neT hr.units) (pv 8) (@pe_tup _ _ _ _ _ pa_nil) (nomark _)) (@pw_and _ _ _ _ _ _ _ (@pt_cmpR _ _ _ _ _ _ _ _ op_eq (@pe_op _ _ _ _ _ _ _ _ op_and (@pe_op _ _ _ _ _ _ _ _ op_shr (@pe_ix _ _ _ _ _ _ _ ix_tup (pv 8) pe_int (fun _ _ => rfl)) (pv 4)) pe_int) pe_int (nomark _)) (@pw_and1 _ _ _ _ (@pt_cmpR _ _ _ _ _ _ _ _ op_eq (@pe_op _ _ _ _ _ _ _ _ op_and (@pe_op _ _ _ _ _ _ _ _ op_shr (@pe_ix _ _ _ _ _ _ _ ix_tup (pv 8) pe_int (fun _ _ => rfl)) (pv 3)) pe_int) pe_int (nomark _)))))) (@pss_one _ _ _ (@ps_ret _ _ _ _ (pv 8))) pss_nil)))) pss_nil) (@pss_one _ _ _ (@ps_ret _ _ _ _ (@pe_tup _ _ _ _ _ (@pa_cons _ _ _ _ _ (@pe_op _ _ _ _ _ _ _ _ op_shl pe_int (pv 4)) pa_nil (by rfl))))))))))), ?_⟩
  and_intros
  refine ⟨p, ns, 1, rfl, hS, h63, by decide, by decide, fun c c0 c1 => ?_⟩
  and_intros
  refine ⟨c, 4, rfl, sz40 c0 c1, by decide, by decide, fun z z0 z1 => ?_⟩
  have szz : Sz 200 z := sz_of (by omega) (by omega)
  and_intros
  refine ⟨by omega, by omega, ?_⟩
  rw [Int.toNat_natCast]
  refine comp_range (small63 (by omega)) (fun D i ys G => ∃ os : List Int, ys = os.map V.int ∧ G = upd H D (.lst ys) ∧ os.length ≤ i ∧ ∀ h ∈ os, 0 ≤ h ∧ h < 12) (fun D hD => ⟨[], rfl, rfl, Nat.le_refl _, (fun _ m => nomatch m)⟩) (fun D i ys G ⟨os, f1, f2, f3, _⟩ => ⟨by rw [f2]; exact upd_same, by rw [f1, List.length_map]; exact f3⟩) ?_ ?_
  · rintro D i ys G K1 K2 hD hi ⟨os, rfl, rfl, f3, f4⟩ kk1 kk2
    have no := kk2 _ ⟨os, rfl, rfl, Nat.le_succ_of_le f3, f4⟩
    and_intros
    by_cases a1 : (0 : Int) + (i : Int) = (x : Int)
    · exact ifF (ne_f a1) no
    refine ifT (ne_t a1) ?_
    and_intros
    by_cases a2 : (0 : Int) + (i : Int) = (y : Int)
    · exact ifF (ne_f a2) no
    refine ifT (ne_t a2) ?_
    and_intros
    refine kk1 _ _ upd_same ⟨os ++ [0 + (i : Int)], by rw [List.map_append]; rfl, by rw [upd_upd], by rw [List.length_append, List.length_singleton]; omega, fun h m => ?_⟩
    rcases List.mem_append.mp m with m | m
    · exact f4 h m
    · rw [List.mem_singleton.mp m]; omega
  rintro D ys G hD ⟨os, rfl, rfl, f3, f4⟩
  have s1 := same_new hD (.lst (os.map V.int))
  have e1 : (upd H D (.lst (os.map V.int))) D = some (.lst (os.map V.int)) := upd_same
  generalize upd H D (.lst (os.map V.int)) = H1 at s1 e1 ⊢
  and_intros
  refine ⟨⟨_, SqL.of e1⟩, ?_⟩
  refine comp_list (xs := os.map V.int) (by rw [List.length_map]; exact small63 (by omega)) (fun D2 i ys G => ∃ us : List Int, ys = us.map V.int ∧ G = upd H1 D2 (.lst ys) ∧ us.length ≤ i ∧ ∀ h ∈ us, 0 ≤ h ∧ h < 12) (fun D2 hD2 => ⟨[], rfl, rfl, Nat.le_refl _, (fun _ m => nomatch m)⟩) (fun D2 i ys G ⟨us, g1, g2, g3, _⟩ => ⟨by rw [g2]; exact upd_same, by rw [g1, List.length_map]; exact g3⟩) (fun D2 i ys G hD2 ⟨_, _, g2, _⟩ => by rw [g2]; exact SqL.of (same_new hD2 _ _ _ e1)) ?_ ?_
  · rintro D2 i w ys G K1 K2 hD2 hw ⟨us, rfl, rfl, g3, g4⟩ kk1 kk2
    obtain ⟨h, hh, rfl⟩ := int_at hw
    have hb := f4 h (List.mem_of_getElem? hh)
    and_intros
    refine ⟨by omega, ?_⟩
    and_intros
    by_cases a1 : decide (V.int (Builtin.bitAnd (z / 2 ^ (h + 9).toNat) 1) = V.int 1) = true
    · refine ifT a1 ?_
      and_intros
      refine kk1 _ _ upd_same ⟨us ++ [h], by rw [List.map_append]; rfl, by rw [upd_upd], by rw [List.length_append, List.length_singleton]; omega, fun k m => ?_⟩
      rcases List.mem_append.mp m with m | m
      · exact g4 k m
      · rw [List.mem_singleton.mp m]; exact hb
    · refine ifF (Bool.eq_false_iff.mpr a1) ?_
      exact kk2 _ ⟨us, rfl, rfl, Nat.le_succ_of_le g3, g4⟩
  rintro D2 ys G hD2 ⟨us, rfl, rfl, g3, g4⟩
  rw [List.length_map] at g3
  have s2 := s1.trans (same_new hD2 (.lst (us.map V.int)))
  have e2 : (upd H1 D2 (.lst (us.map V.int))) D2 = some (.lst (us.map V.int)) := upd_same
  generalize upd H1 D2 (.lst (us.map V.int)) = H2 at s2 e2 ⊢
  and_intros
  by_cases a1 : Int.fmod z 4 = 1
  · refine ifT (eq_t a1) ?_
    and_intros
    refine ⟨(by show 1 ≤ sizeLine; decide), fun d hd => ?_⟩
    have s3 := same_new hd (.lst [V.int (y : Int)])
    have e3 : (upd H2 d (.lst [V.int (y : Int)])) d = some (.lst ([(y : Int)].map V.int)) := upd_same
    generalize upd H2 d (.lst [V.int (y : Int)]) = H3 at s3 e3 ⊢
    have e23 := s3 _ _ e2
    and_intros
    refine ⟨d, D2, _, _, rfl, rfl, e3, e23, (by rw [List.length_map]; show 1 + _ ≤ _; rw [List.length_map]; exact Nat.le_of_lt (small1000 (by omega))), fun c' hc' => ?_⟩
    rw [← List.map_append]
    have s4 := same_new hc' (.lst (([(y : Int)] ++ us).map V.int))
    have e4 : (upd H3 c' (.lst (([(y : Int)] ++ us).map V.int))) c' = some (.lst (([(y : Int)] ++ us).map V.int)) := upd_same
    generalize upd H3 c' (.lst (([(y : Int)] ++ us).map V.int)) = H4 at s4 e4 ⊢
    and_intros
    refine ⟨c', [(y : Int)] ++ us, rfl, e4, (by rw [List.length_append]; show 1 + _ ≤ 100; omega), fun h m => ?_, fun H5 s5 => ?_⟩
    · rcases List.mem_append.mp m with m | m
      · rw [List.mem_singleton.mp m]; omega
      · have := g4 h m; omega
    and_intros
    refine ⟨(by show 1 ≤ sizeLine; decide), fun t ht => ?_⟩
    and_intros
    exact q t [maskOf ([(y : Int)] ++ us)] _ ((((s2.trans s3).trans s4).trans s5).trans (same_new ht _)) upd_same
  refine ifF (eq_f a1) ?_
  have py : CPow 1 (y : Int) := pow_small (by omega)
  have last : ∀ {G : Hp}, Same H G → ∀ t, G t = none → Q (.ref t) (upd G t (.tup [V.int (1 * 2 ^ (y : Int).toNat)])) := fun sG t ht => q t [1 * 2 ^ (y : Int).toNat] _ (sG.trans (same_new ht _)) upd_same
  have fin : ∀ {G : Hp}, Same H G → Int.fmod z 4 ≠ 2 ∨ us = [] → True := fun _ _ => trivial
  clear fin
  and_intros
  refine ⟨fun σ' J => σ' = [some (.ref p), some (.ref l), some (.int (n : Int)), some (.int (x : Int)), some (.int (y : Int)), some (.int z), some (.ref D), some (.ref D2), none, none] ∧ Same H J, ?_, ?_⟩
  · and_intros
    by_cases a2 : Int.fmod z 4 = 2
    · refine ifT (eq_t a2) ?_
      and_intros
      refine ⟨(by show 0 ≤ sizeLine; decide), fun d hd => ?_⟩
      have s3 := same_new hd (.lst [])
      have e3 : (upd H2 d (.lst [])) d = some (.lst (([] : List Int).map V.int)) := upd_same
      generalize upd H2 d (.lst []) = H3 at s3 e3 ⊢
      have e23 := s3 _ _ e2
      refine ⟨D2, d, _, _, rfl, rfl, SqL.of e23, SqL.of e3, ?_⟩
      and_intros
      by_cases a3 : us = []
      · refine ifF (by rw [decide_eq_true a3]; rfl) ?_
        exact ⟨rfl, s2.trans s3⟩
      · refine ifT (by rw [decide_eq_false a3]; rfl) ?_
        and_intros
        refine ⟨py, ?_⟩
        and_intros
        refine ⟨D2, us, rfl, e23, by omega, fun h m => ?_, fun H5 s5 => ?_⟩
        · have := g4 h m; omega
        and_intros
        refine ⟨(by show 2 ≤ sizeLine; decide), fun t ht => ?_⟩
        and_intros
        exact q t [1 * 2 ^ (y : Int).toNat, maskOf us] _ (((s2.trans s3).trans s5).trans (same_new ht _)) upd_same
    · refine ifF (eq_f a2) ?_
      exact ⟨rfl, s2⟩
  rintro σ' J ⟨rfl, sJ⟩
  have hlJ := sJ _ _ hl
  and_intros
  refine ⟨fun σ' J => ∃ v8 v9 : Option V, σ' = [some (.ref p), some (.ref l), some (.int (n : Int)), some (.int (x : Int)), some (.int (y : Int)), some (.int z), some (.ref D), some (.ref D2), v8, v9] ∧ Same H J, ?_, ?_⟩
  · and_intros
    by_cases a3 : Int.fmod z 4 = 3
    · refine ifT (eq_t a3) ?_
      and_intros
      refine ⟨⟨_, SqL.of hlJ⟩, for_list (xs := vls ls) (fun i σ' J => ∃ v8 v9 : Option V, σ' = [some (.ref p), some (.ref l), some (.int (n : Int)), some (.int (x : Int)), some (.int (y : Int)), some (.int z), some (.ref D), some (.ref D2), v8, v9] ∧ Same H J) ⟨none, none, rfl, sJ⟩ (fun i σ' J _ ⟨_, _, _, e⟩ => SqL.of (e _ _ hl)) ?_ ?_⟩
      · rintro i w σ' J hw ⟨v8, v9, rfl, sJ⟩
        obtain ⟨f, hf, rfl, fm, et⟩ := vls_get hw
        refine ⟨f.1, _, rfl, SqT.of (sJ _ _ (gl f fm).1), rfl, _, _, rfl, _, _, rfl, rfl, ?_⟩
        and_intros
        refine ⟨(by show 0 ≤ sizeLine; decide), fun t0 ht0 => ?_⟩
        have j1 := same_new ht0 (.tup [])
        have et0 : (upd J t0 (.tup [])) t0 = some (.tup (([] : List Int).map V.int)) := upd_same
        generalize upd J t0 (.tup []) = J1 at j1 et0 ⊢
        have sJ1 := sJ.trans j1
        have e2' := sJ1 _ _ (gl f fm).2
        have out : ∃ v8 v9 : Option V, [some (.ref p), some (.ref l), some (.int (n : Int)), some (.int (x : Int)), some (.int (y : Int)), some (.int z), some (.ref D), some (.ref D2), some (.ref f.2.1), some (.int f.2.2.2)] = [some (.ref p), some (.ref l), some (.int (n : Int)), some (.int (x : Int)), some (.int (y : Int)), some (.int z), some (.ref D), some (.ref D2), v8, v9] ∧ Same H J1 := ⟨_, _, rfl, sJ1⟩
        refine ⟨f.2.1, t0, f.2.2.1, [], rfl, rfl, SqT.of e2', SqT.of et0, ?_⟩
        and_intros
        have ret := q f.2.1 f.2.2.1 J1 sJ1 e2'
        generalize f.2.2.1 = ts at e2' ret ⊢
        cases ts with
        | nil => exact ifF (by rw [decide_eq_true rfl]; rfl) out
        | cons u r =>
          refine ifT (by rw [decide_eq_false (fun z => nomatch z)]; rfl) ?_
          have at0 : atI ((u :: r).map V.int) 0 = some (.int u) := atN (i := 0) rfl
          and_intros
          refine ⟨f.2.1, _, _, _, rfl, rfl, SqT.of e2', at0, ?_⟩
          and_intros
          refine ⟨by omega, ?_⟩
          and_intros
          by_cases b1 : decide (V.int (Builtin.bitAnd (u / 2 ^ (y : Int).toNat) 1) = V.int 1) = true
          · refine ifT b1 ?_
            and_intros
            refine ⟨f.2.1, _, _, _, rfl, rfl, SqT.of e2', at0, ?_⟩
            and_intros
            refine ⟨by omega, ?_⟩
            and_intros
            by_cases b2 : decide (V.int (Builtin.bitAnd (u / 2 ^ (x : Int).toNat) 1) = V.int 0) = true
            · refine ifT b2 ?_
              and_intros
              exact ret
            · exact ifF (Bool.eq_false_iff.mpr b2) out
          · exact ifF (Bool.eq_false_iff.mpr b1) out
      · rintro σ' J ⟨v8, v9, rfl, sJ⟩
        exact ⟨v8, v9, rfl, sJ⟩
    · refine ifF (eq_f a3) ?_
      exact ⟨none, none, rfl, sJ⟩
  rintro σ' J ⟨v8, v9, rfl, sJ⟩
  and_intros
  refine ⟨py, ?_⟩
  and_intros
  refine ⟨(by show 1 ≤ sizeLine; decide), fun t ht => ?_⟩
  and_intros
  exact last sJ t ht
theorem ok_law_due (T : Tx K mg base ad) : FnOk P w K mg base CX0 2 ad.f_law_due ad.d_law_due ["_law_sheet_here", "_law_x", "_law_y", "_law_put_here", "_law_many_here"] spDue := by
  refine T.F_law_due.ok sc_law_due (fun vs H Q E h => ?_) (fun cdv A outer s H vs Q E hr h => ?_)
  · obtain ⟨l, sl, ls, put, x, y, m, rfl, _⟩ := h
    rfl
  obtain ⟨l, sl, ls, put, x, y, m, rfl, hl, gl, ok, l13, hs, hx, hy, m0, q⟩ := h
  refine ⟨_, (@pss_cons _ _ _ _ _ (@ps_set _ _ (5) _ _ _ _ sc_law_due.nd rfl (Or.inl rfl) (@pe_lst _ _ _ _ pa_nil) (by rfl) (by first | exact .inl rfl | exact .inr rfl | assumption)) (@pss_cons _ _ _ _ _ (ps_for PassesOwn.never rfl (pi_range1 rfl T.z_range (@pa_cons _ _ _ _ _ pe_int pa_nil (by rfl))) (pg_name (i := 6) sc_law_due.nd rfl (Or.inl rfl)) (@pss_one _ _ _ (ps_for PassesOwn.never rfl (pi_list (pv 0)) (pg_tup rfl (pgs_cons (pg_name (i := 7) sc_law_due.nd rfl (Or.inl rfl)) (pgs_cons (pg_name (i := 8) sc_law_due.nd rfl (Or.inl rfl)) pgs_nil))) (@pss_cons _ _ _ _ _ (@ps_set _ _ (9) _ _ _ _ sc_law_due.nd rfl (Or.inl rfl) (@pe_callB _ _ _ _ _ _ _ _ _ (call_min2 rfl) (by rfl) T.z_min PyProof.Rows.boot_min (@pa_cons _ _ _ _ _ (pv 4) (@pa_cons _ _ _ _ _ (pv 8) pa_nil (by rfl)) (by rfl)) (by decide) (by decide) (by rfl) (by rfl)) (by rfl) (by first | exact .inl rfl | exact .inr rfl | assumption)) (@pss_one _ _ _ (@ps_if _ _ _ _ _ _ _ _ (PW.pt (@pw_and _ _ _ _ _ _ _ (@pt_cmpR _ _ _ _ _ _ _ _ (op_neT (K := K) hr.units) (pv 7) (pv 3) (nomark _)) (@pw_and _ _ _ _ _ _ _ (@pt_cmpR _ _ _ _ _ _ _ _ op_eq (@pe_call _ _ _ _ _ _ _ _ _ _ _ _ _ _ _ _ (ok_law_turn T) (hr.mono (by decide)) rfl T.m_law_turn T.F_law_turn.kp T.b_law_turn .nil pass0 (@pa_cons _ _ _ _ _ (pv 7) (@pa_cons _ _ _ _ _ (pv 1) (@pa_cons _ _ _ _ _ (pv 2) pa_nil (by rfl)) (by rfl)) (by rfl)) (by decide) (by rfl) (by rfl)) (pv 6) (nomark _)) (@pw_and1 _ _ _ _ (@pt_cmpR _ _ _ _ _ _ _ _ op_gt (pv 9) pe_int (nomark _)))))) (@pss_cons _ _ _ _ _ (@ps_expr _ _ _ _ (pe_bm PySem.F.plainAttrs_list PySem.F.slot_list_append PySem.F.type_list_append mt_append (pv 5) (@pa_cons _ _ _ _ _ (@pe_tup _ _ _ _ _ (@pa_cons _ _ _ _ _ (pv 7) (@pa_cons _ _ _ _ _ (pv 3) (@pa_cons _ _ _ _ _ (pv 9) pa_nil (by rfl)) (by rfl)) (by rfl))) pa_nil (by rfl))) (by rfl)) (@pss_one _ _ _ (@ps_set _ _ (4) _ _ _ _ sc_law_due.nd rfl (Or.inl rfl) (@pe_op _ _ _ _ _ _ _ _ op_sub (pv 4) (pv 9)) (by rfl) (by first | exact .inl rfl | exact .inr rfl | assumption)))) pss_nil)))))) (@pss_one _ _ _ (@ps_ret _ _ _ _ (pv 5))))), ?_⟩
  and_intros
  refine ⟨(by show 0 ≤ sizeLine; decide), fun r hr0 => ?_⟩
  have s1 := same_new hr0 (.lst [])
  have e1 : (upd H r (.lst [])) r = some (.lst (vrw [])) := upd_same
  generalize upd H r (.lst []) = H1 at s1 e1 ⊢
  have dl : (dsOf ls).length ≤ 13 := by unfold dsOf; rw [List.length_map]; exact l13
  and_intros
  refine ⟨by omega, by omega, for_range (fun k σ' J => ∃ (v6 v7 v8 v9 : Option V) (rs : Rw), σ' = [some (.ref l), some (.int (x : Int)), some (.int (y : Int)), some (.ref sl), some (.int (restI (passI put x y (dsOf ls) k) m)), some (.ref r), v6, v7, v8, v9] ∧ Same H J ∧ J r = some (.lst (vrw rs)) ∧ RwAt sl J rs ∧ rs.map (·.2.2) = takeI (passI put x y (dsOf ls) k) m) ⟨none, none, none, none, [], rfl, s1, e1, (fun _ m => nomatch m), rfl⟩ ?_ ?_⟩
  · rintro k σ' J hk ⟨v6, v7, v8, v9, rs, rfl, sJ, eR, gr, er⟩
    have hk3 : k < 3 := by omega
    have ek0 : (0 : Int) + (k : Int) = (k : Int) := Int.zero_add _
    have hlJ := sJ _ _ hl
    have w0 := rest_pos (passI put x y (dsOf ls) k) m0
    obtain ⟨P0, eP⟩ : ∃ P0, P0 = passI put x y (dsOf ls) k := ⟨_, rfl⟩
    have pl : P0.length ≤ 39 := by
      have := pass_len put x y (dsOf ls) k
      have b := Nat.mul_le_mul (show k ≤ 2 by omega) dl
      rw [eP]
      omega
    have es : passI put x y (dsOf ls) (k + 1) = P0 ++ ofTurn put x y (k : Int) (dsOf ls) := by rw [eP]; rfl
    rw [es]
    rw [← eP] at er w0 ⊢
    and_intros
    refine ⟨⟨_, SqL.of hlJ⟩, for_list (xs := vls ls) (fun i σ' J => ∃ (v7 v8 v9 : Option V) (rs : Rw), σ' = [some (.ref l), some (.int (x : Int)), some (.int (y : Int)), some (.ref sl), some (.int (restI (P0 ++ ofTurn put x y (k : Int) (dsOf (ls.take i))) m)), some (.ref r), some (.int (0 + (k : Int))), v7, v8, v9] ∧ Same H J ∧ J r = some (.lst (vrw rs)) ∧ RwAt sl J rs ∧ rs.map (·.2.2) = takeI (P0 ++ ofTurn put x y (k : Int) (dsOf (ls.take i))) m) ⟨_, _, _, rs, by rw [show P0 ++ ofTurn put x y (k : Int) (dsOf (ls.take 0)) = P0 from List.append_nil _]; rfl, sJ, eR, gr, by rw [show P0 ++ ofTurn put x y (k : Int) (dsOf (ls.take 0)) = P0 from List.append_nil _]; exact er⟩ (fun i σ' J _ ⟨_, _, _, _, _, e, _⟩ => SqL.of (e _ _ hl)) ?_ ?_⟩
    · rintro i w σ' J hw ⟨v7, v8, v9, rs, rfl, sJ, eR, gr, er⟩
      obtain ⟨f, hf, rfl, fm, et⟩ := vls_get hw
      have kA : ofTurn put x y (k : Int) (dsOf (ls.take (i + 1))) = ofTurn put x y (k : Int) (dsOf (ls.take i)) ++ ofTurn put x y (k : Int) [(f.2.2.1, f.2.2.2)] := by rw [et, dsOf_append, turn_more]; rfl
      rw [kA, ← List.append_assoc]
      have tl : (ofTurn put x y (k : Int) (dsOf (ls.take i))).length ≤ 13 := by
        refine Nat.le_trans (List.length_filter_le _ _) ?_
        unfold dsOf
        rw [List.length_map, List.length_take]
        omega
      generalize ofTurn put x y (k : Int) (dsOf (ls.take i)) = T0 at er tl ⊢
      obtain ⟨ta, tr⟩ := take_append (P0 ++ T0) (ofTurn put x y (k : Int) [(f.2.2.1, f.2.2.2)]) m
      have w1 := rest_pos (P0 ++ T0) m0
      have rl : rs.length ≤ 60 := by
        have a := congrArg List.length er
        rw [List.length_map] at a
        have b := take_len (P0 ++ T0) m
        rw [List.length_append] at b
        omega
      rw [ta, tr]
      generalize restI (P0 ++ T0) m = wn at w1 ⊢
      generalize takeI (P0 ++ T0) m = tk at er ⊢
      have okf := ok (f.2.2.1, f.2.2.2) (List.mem_map.mpr ⟨f, fm, rfl⟩)
      have f1 : 1 ≤ f.2.2.2 := okf.2
      have e2 := sJ _ _ (gl f fm).2
      refine ⟨f.1, _, rfl, SqT.of (sJ _ _ (gl f fm).1), rfl, _, _, rfl, _, _, rfl, rfl, ?_⟩
      and_intros
      refine ⟨_, _, rfl, ?_⟩
      obtain ⟨z, ez⟩ : ∃ z, z = min f.2.2.2 wn := ⟨_, rfl⟩
      rw [show (if f.2.2.2 < wn then f.2.2.2 else wn) = z from by rw [ez]; split <;> omega]
      and_intros
      refine ⟨f.2.1, sl, _, _, rfl, rfl, SqT.of e2, SqT.of (sJ _ _ hs), ?_⟩
      and_intros
      by_cases c1 : f.2.2.1 = put
      · refine ifF (by rw [decide_eq_true c1]; rfl) ?_
        rw [turn_no (q := (f.2.2.1, f.2.2.2)) (.inl c1)]
        exact ⟨_, _, _, rs, rfl, sJ, eR, gr, by rw [er]; exact (List.append_nil _).symm⟩
      refine ifT (by rw [decide_eq_false c1]; rfl) ?_
      and_intros
      refine ⟨f.2.1, f.2.2.1, x, y, rfl, e2, okf.1, hx, hy, fun J1 j1 => ?_⟩
      have sJ1 := sJ.trans j1
      have eR1 := j1 _ _ eR
      and_intros
      by_cases c2 : turnI f.2.2.1 x y = (k : Int)
      · refine ifT (eq_t (by omega)) ?_
        rw [turn_yes (q := (f.2.2.1, f.2.2.2)) c1 c2, show restI [(f.2.2.1, f.2.2.2)] wn = wn - z from by rw [ez]; rfl, show takeI [(f.2.2.1, f.2.2.2)] wn = if 0 < z then [(f.2.2.1, z)] else [] from by rw [ez]; exact List.append_nil _]
        and_intros
        by_cases c3 : 0 < z
        · refine ifT (decide_eq_true c3) ?_
          and_intros
          refine ⟨.inl ⟨rfl, _, SqL.of eR1⟩, ?_⟩
          and_intros
          refine ⟨(by show 3 ≤ sizeLine; decide), fun t ht => ?_⟩
          have j2 := same_new ht (.tup [V.ref f.2.1, V.ref sl, V.int z])
          have et2 : (upd J1 t (.tup [V.ref f.2.1, V.ref sl, V.int z])) t = some (.tup [V.ref f.2.1, V.ref sl, V.int z]) := upd_same
          generalize upd J1 t (.tup [V.ref f.2.1, V.ref sl, V.int z]) = J2 at j2 et2 ⊢
          have eR2 := j2 _ _ eR1
          refine ⟨r, _, _, rfl, rfl, eR2, (by rw [vrw_len]; exact small1000 (by omega)), ?_⟩
          and_intros
          exact ⟨_, _, _, rs ++ [(t, f.2.1, f.2.2.1, z)], rfl, same_upd (sJ1.trans j2) hr0, by rw [upd_same]; unfold vrw; rw [List.map_append]; rfl, RwAt.upd eR2 ((gr.same (j1.trans j2)).push et2 ((j1.trans j2) _ _ e2)), by rw [List.map_append, er, if_pos c3]; rfl⟩
        · refine ifF (decide_eq_false c3) ?_
          have z0 : z = 0 := by omega
          exact ⟨_, _, _, rs, by rw [z0, Int.sub_zero]; rfl, sJ1, eR1, gr.same j1, by rw [er, if_neg c3, List.append_nil]⟩
      · refine ifF (eq_f (by omega)) ?_
        rw [turn_no (q := (f.2.2.1, f.2.2.2)) (.inr c2)]
        exact ⟨_, _, _, rs, rfl, sJ1, eR1, gr.same j1, by rw [er]; exact (List.append_nil _).symm⟩
    · rintro σ' J ⟨v7, v8, v9, rs, rfl, sJ, eR, gr, er⟩
      rw [vls_len, List.take_length] at er ⊢
      exact ⟨_, _, _, _, rs, rfl, sJ, eR, gr, er⟩
  · rintro σ' J ⟨v6, v7, v8, v9, rs, rfl, sJ, eR, gr, er⟩
    and_intros
    exact q r rs J hr0 sJ eR gr er
theorem ok_law_alike (T : Tx K mg base ad) : FnOk P w K mg base CX0 2 ad.f_law_alike ad.d_law_alike ["_law_found", "_law_due_here"] spAlike := by
  refine T.F_law_alike.ok sc_law_alike (fun vs H Q E h => ?_) (fun cdv A outer s H vs Q E hr h => ?_)
  · obtain ⟨a, b, sl, rs, us, put, rfl, _⟩ := h
    rfl
  obtain ⟨a, b, sl, rs, us, put, rfl, ha, hb, gr, gu, hs, e, q⟩ := h
  refine ⟨_, (@pss_cons _ _ _ _ _ (@ps_if _ _ _ _ _ _ _ _ (PW.pt (@pw_or _ _ _ _ _ _ _ (@pt_not _ _ _ _ (@pt_val _ _ _ (@pe_callB _ _ _ _ _ _ _ _ _ call_isi (by rfl) T.z_isinstance PyProof.Rows.boot_isinstance (@pa_cons _ _ _ _ _ (pv 0) (@pa_cons _ _ _ _ _ (pe_bltn (v := .ty "list") rfl T.z_list PyProof.Rows.boot_list rfl) pa_nil (by rfl)) (by rfl)) (by decide) (by decide) (by rfl) (by rfl)) (by intro _; rfl))) (@pw_or1 _ _ _ _ (@pt_cmpR _ _ _ _ _ _ _ _ op_ne (@pe_callB _ _ _ _ _ _ _ _ _ call_len_seq (by rfl) T.z_len PySem.boot_len (@pa_cons _ _ _ _ _ (pv 0) pa_nil (by rfl)) (by decide) (by decide) (by rfl) (by rfl)) (@pe_callB _ _ _ _ _ _ _ _ _ call_len_seq (by rfl) T.z_len PySem.boot_len (@pa_cons _ _ _ _ _ (pv 1) pa_nil (by rfl)) (by decide) (by decide) (by rfl) (by rfl)) (nomark _))))) (@pss_one _ _ _ (@ps_ret _ _ _ _ pe_bl)) pss_nil) (@pss_cons _ _ _ _ _ (ps_for PassesOwn.never rfl (pi_list (pv 0)) (pg_name (i := 2) sc_law_alike.nd rfl (Or.inl rfl)) (@pss_cons _ _ _ _ _ (@ps_if _ _ _ _ _ _ _ _ (PW.pt (@pw_or _ _ _ _ _ _ _ (@pt_not _ _ _ _ (@pt_val _ _ _ (@pe_callB _ _ _ _ _ _ _ _ _ call_isi (by rfl) T.z_isinstance PyProof.Rows.boot_isinstance (@pa_cons _ _ _ _ _ (pv 2) (@pa_cons _ _ _ _ _ (pe_bltn (v := .ty "tuple") rfl T.z_tuple PyProof.Rows.boot_tuple rfl) pa_nil (by rfl)) (by rfl)) (by decide) (by decide) (by rfl) (by rfl)) (by intro _; rfl))) (@pw_or _ _ _ _ _ _ _ (@pt_cmpR _ _ _ _ _ _ _ _ op_ne (@pe_callB _ _ _ _ _ _ _ _ _ call_len_seq (by rfl) T.z_len PySem.boot_len (@pa_cons _ _ _ _ _ (pv 2) pa_nil (by rfl)) (by decide) (by decide) (by rfl) (by rfl)) pe_int (nomark _)) (@pw_or1 _ _ _ _ (@pt_not _ _ _ _ (@pt_val _ _ _ (@pe_call _ _ _ _ _ _ _ _ _ _ _ _ _ _ _ _ (ok_law_whole T) (hr.mono (by decide)) rfl T.m_law_whole T.F_law_whole.kp T.b_law_whole .nil pass0 (@pa_cons _ _ _ _ _ (@pe_ix _ _ _ _ _ _ _ ix_tup (pv 2) pe_int (fun _ _ => rfl)) pa_nil (by rfl)) (by decide) (by rfl) (by rfl)) (by intro _; rfl))))))) (@pss_one _ _ _ (@ps_ret _ _ _ _ pe_bl)) pss_nil) (@pss_one _ _ _ (@ps_if _ _ _ _ _ _ _ _ (PW.pt (@pw_or _ _ _ _ _ _ _ (@pt_not _ _ _ _ (@pt_val _ _ _ (@pe_callB _ _ _ _ _ _ _ _ _ call_isi (by rfl) T.z_isinstance PyProof.Rows.boot_isinstance (@pa_cons _ _ _ _ _ (@pe_ix _ _ _ _ _ _ _ ix_tup (pv 2) pe_int (fun _ _ => rfl)) (@pa_cons _ _ _ _ _ (pe_bltn (v := .ty "tuple") rfl T.z_tuple PyProof.Rows.boot_tuple rfl) pa_nil (by rfl)) (by rfl)) (by decide) (by decide) (by rfl) (by rfl)) (by intro _; rfl))) (@pw_or1 _ _ _ _ (@pt_not _ _ _ _ (@pt_val _ _ _ (@pe_callB _ _ _ _ _ _ _ _ _ call_isi (by rfl) T.z_isinstance PyProof.Rows.boot_isinstance (@pa_cons _ _ _ _ _ (@pe_ix _ _ _ _ _ _ _ ix_tup (pv 2) pe_int (fun _ _ => rfl)) (@pa_cons _ _ _ _ _ (pe_bltn (v := .ty "tuple") rfl T.z_tuple PyProof.Rows.boot_tuple rfl) pa_nil (by rfl)) (by rfl)) (by decide) (by decide) (by rfl) (by rfl)) (by intro _; rfl)))))) (@pss_one _ _ _ (@ps_ret _ _ _ _ pe_bl)) pss_nil)))) (@pss_one _ _ _ (@ps_ret _ _ _ _ (@pe_cmpR _ _ _ _ _ _ _ _ (op_eqD (K := K) hr.units) (pv 0) (pv 1) (nomark _)))))), ?_⟩
  have el : rs.length = us.length := by
    have := congrArg List.length e
    rwa [List.length_map, List.length_map] at this
  and_intros
  refine ⟨_, _, _, _, rfl, TyOf.lst ha, kit_list_list, ?_⟩
  and_intros
  refine ifF (ne_f (by rw [vrw_len, vrw_len, el])) ?_
  and_intros
  refine ⟨⟨_, SqL.of ha⟩, for_list (xs := vrw rs) (fun i σ' J => ∃ v2 : Option V, σ' = [some (.ref a), some (.ref b), v2] ∧ H = J) ⟨none, rfl, rfl⟩ (fun i σ' J _ ⟨_, _, e⟩ => by rw [← e]; exact SqL.of ha) ?_ ?_⟩
  · rintro i w σ' J hw ⟨v2, rfl, rfl⟩
    obtain ⟨f, hf, rfl, fm, _⟩ := vls_get (ls := rs) hw
    obtain ⟨g1, g2⟩ := gr f fm
    and_intros
    refine ⟨_, _, _, _, rfl, TyOf.tup g1, kit_tuple_tuple, ?_⟩
    and_intros
    refine ⟨_, _, _, _, rfl, TyOf.tup g2, kit_tuple_tuple, ?_⟩
    and_intros
    refine ⟨_, _, _, _, rfl, TyOf.tup hs, kit_tuple_tuple, ?_⟩
    and_intros
    rfl
  · rintro σ' J ⟨v2, rfl, rfl⟩
    have dl : Lay 3 (.list ((rs.map (·.2.2)).map (rwD put))) := lay_list (lay_map (lay_rw put) _)
    have r2 := reps_rw (K := K) gu hs
    rw [← e] at r2
    and_intros
    refine ⟨.list ((rs.map (·.2.2)).map (rwD put)), .list ((rs.map (·.2.2)).map (rwD put)), .lst (SqL.of ha) (reps_rw gr hs), .lst (SqL.of hb) r2, dl.shaped (by decide), dl.shaped (by decide), ?_⟩
    rw [dl.eqv]
    and_intros
    exact q
theorem ok_law_many (T : Tx K mg base ad) : FnOk P w K mg base CX0 2 ad.f_law_many ad.d_law_many ["_law_script", "_law_sheet_here", "_law_put_here", "_law_most"] (spMany K) := by
  refine T.F_law_many.ok sc_law_many (fun vs H Q E h => ?_) (fun cdv A outer s H vs Q E hr h => ?_)
  · obtain ⟨p, l, sl, ns, ls, put, M, rfl, _⟩ := h
    rfl
  obtain ⟨p, l, sl, ns, ls, put, M, rfl, hS, h63, hl, gl, ok, l13, hs, eM, q⟩ := h
  refine ⟨_, (@pss_cons _ _ _ _ _ (@ps_set _ _ (4) _ _ _ _ sc_law_many.nd rfl (Or.inl rfl) (@pe_call _ _ _ _ _ _ _ _ _ _ _ _ _ _ _ _ (ok_law_mixed T) (hr.mono (by decide)) rfl T.m_law_mixed T.F_law_mixed.kp T.b_law_mixed .nil pass0 (@pa_cons _ _ _ _ _ (@pe_call _ _ _ _ _ _ _ _ _ _ _ _ _ _ _ _ (ok_law_cell T) (hr.mono (by decide)) rfl T.m_law_cell T.F_law_cell.kp T.b_law_cell .nil pass0 (@pa_cons _ _ _ _ _ (pv 0) (@pa_cons _ _ _ _ _ pe_int pa_nil (by rfl)) (by rfl)) (by decide) (by rfl) (by rfl)) (@pa_cons _ _ _ _ _ pe_int pa_nil (by rfl)) (by rfl)) (by decide) (by rfl) (by rfl)) (by rfl) (by first | exact .inl rfl | exact .inr rfl | assumption)) (@pss_cons _ _ _ _ _ (ps_setC2 (j := 5) (fsc := defScope s_law_many) (N := ["_law_script", "_law_sheet_here", "_law_put_here", "_law_most", "_law_cell_here", "_law_other", "_law_ends"]) (Nc := ["_law_script", "_law_sheet_here", "_law_put_here", "_law_most", "_law_cell_here", "_law_other", "_law_ends", "_law_slip_here", "_law_number_here"]) rfl rfl ⟨rfl, by decide +kernel, by decide +kernel, by decide +kernel, by decide +kernel, rfl, by decide +kernel, rfl, by decide +kernel⟩ rfl sc_law_many.nd rfl rfl (pi_list (pv 1)) (fun _ _ _ _ => (pif_one (@pt_cmpR _ _ _ _ _ _ _ _ (op_neT (K := K) hr.units) (pv 7) (pv 2) (nomark _)))) (fun _ _ _ _ => (pv 8)) rfl) (@pss_cons _ _ _ _ _ (@ps_set _ _ (6) _ _ _ _ sc_law_many.nd rfl (Or.inl rfl) (@pe_callB _ _ _ _ _ _ _ _ _ (call_sum rfl) (by rfl) T.z_sum PyProof.Rows.boot_sum (@pa_cons _ _ _ _ _ (pe_slice sl_list (pv 5) po_none (po_some (@pe_op _ _ _ _ _ _ _ _ op_modN (@pe_op _ _ _ _ _ _ _ _ op_fdivB (pv 4) pe_int) (@pe_op _ _ _ _ _ _ _ _ op_add (@pe_callB _ _ _ _ _ _ _ _ _ call_len_seq (by rfl) T.z_len PySem.boot_len (@pa_cons _ _ _ _ _ (pv 5) pa_nil (by rfl)) (by decide) (by decide) (by rfl) (by rfl)) pe_int)))) pa_nil (by rfl)) (by decide) (by decide) (by rfl) (by rfl)) (by rfl) (by first | exact .inl rfl | exact .inr rfl | assumption)) (@pss_one _ _ _ (@ps_ret _ _ _ _ (@pe_ix _ _ _ _ _ _ _ ix_list (@pe_lst _ _ _ _ (@pa_cons _ _ _ _ _ pe_int (@pa_cons _ _ _ _ _ (pv 3) (@pa_cons _ _ _ _ _ (pv 6) (@pa_cons _ _ _ _ _ (@pe_op _ _ _ _ _ _ _ _ op_modN (@pe_op _ _ _ _ _ _ _ _ op_fdivB (pv 4) pe_int) (@pe_op _ _ _ _ _ _ _ _ op_add (pv 3) pe_int)) (@pa_cons _ _ _ _ _ (@pe_op _ _ _ _ _ _ _ _ op_modN (@pe_op _ _ _ _ _ _ _ _ op_fdivB (pv 4) pe_int) (@pe_op _ _ _ _ _ _ _ _ op_add (pv 3) pe_int)) pa_nil (by rfl)) (by rfl)) (by rfl)) (by rfl)) (by rfl))) (@pe_op _ _ _ _ _ _ _ _ op_modN (pv 4) pe_int) (fun _ _ => rfl))))))), ?_⟩
  and_intros
  refine ⟨p, ns, 2, rfl, hS, h63, by decide, by decide, fun c c0 c1 => ?_⟩
  and_intros
  refine ⟨c, 8, rfl, sz40 c0 c1, by decide, by decide, fun z z0 z1 => ?_⟩
  have szz : Sz 200 z := sz_of (by omega) (by omega)
  and_intros
  refine ⟨⟨_, SqL.of hl⟩, ?_⟩
  refine comp_pairs (zs := vls ls) rfl rfl (by rw [vls_len]; exact small63 (by omega)) (fun D i ys G => ys = (othN put (dsOf (ls.take i))).map V.int ∧ G = upd H D (.lst ys)) (fun D hD => ⟨rfl, rfl⟩) (fun D i ys G ⟨f1, f2⟩ => ⟨by rw [f2]; exact upd_same, by
    rw [f1, List.length_map]
    unfold othN
    rw [List.length_map]
    refine Nat.le_trans (List.length_filter_le _ _) ?_
    unfold dsOf
    rw [List.length_map]
    exact List.length_take_le _ _⟩) (fun D i ys G hD ⟨_, f2⟩ => by rw [f2]; exact SqL.of (same_new hD _ _ _ hl)) ?_ ?_
  · rintro D i w ys G K1 K2 hD hw ⟨f1, rfl⟩ kk1 kk2
    obtain ⟨f, hf, rfl, fm, et⟩ := vls_get hw
    have g1 := same_new hD (.lst ys) _ _ (gl f fm).1
    have g2 := same_new hD (.lst ys) _ _ (gl f fm).2
    have g3 := same_new hD (.lst ys) _ _ hs
    refine ⟨f.1, _, _, rfl, SqT.of g1, ?_⟩
    and_intros
    refine ⟨f.2.1, sl, _, _, rfl, rfl, SqT.of g2, SqT.of g3, ?_⟩
    and_intros
    have ed : dsOf (ls.take (i + 1)) = dsOf (ls.take i) ++ [(f.2.2.1, f.2.2.2)] := by rw [et, dsOf_append]; rfl
    by_cases c : f.2.2.1 = put
    · refine ifF (by rw [decide_eq_true c]; rfl) ?_
      refine kk2 _ ⟨?_, rfl⟩
      rw [f1, ed]
      unfold othN
      rw [List.filter_append, List.filter_cons_of_neg (by rw [decide_eq_true c]; decide), List.filter_nil, List.append_nil]
    · refine ifT (by rw [decide_eq_false c]; rfl) ?_
      and_intros
      refine kk1 _ _ upd_same ⟨?_, by rw [upd_upd]⟩
      rw [f1, ed]
      unfold othN
      rw [List.filter_append, List.filter_cons_of_pos (by rw [decide_eq_false c]; rfl), List.filter_nil, List.map_append, List.map_append]
      rfl
  rintro D ys G hD ⟨rfl, rfl⟩
  rw [vls_len, List.take_length]
  have s1 := same_new hD (.lst ((othN put (dsOf ls)).map V.int))
  have e1 : (upd H D (.lst ((othN put (dsOf ls)).map V.int))) D = some (.lst ((othN put (dsOf ls)).map V.int)) := upd_same
  generalize upd H D (.lst ((othN put (dsOf ls)).map V.int)) = H1 at s1 e1 ⊢
  have on : ∀ a ∈ othN put (dsOf ls), 0 ≤ a ∧ a ≤ 10 ^ 11 := fun a m => by
    obtain ⟨q0, m0, rfl⟩ := List.mem_map.mp m
    exact ok q0 (List.mem_filter.mp m0).1
  have ol : (othN put (dsOf ls)).length ≤ 13 := by
    unfold othN dsOf
    rw [List.length_map]
    refine Nat.le_trans (List.length_filter_le _ _) ?_
    rw [List.length_map]
    exact l13
  generalize othN put (dsOf ls) = os at e1 on ol eM
  have olm : (os.map V.int).length = os.length := List.length_map _
  and_intros
  rw [olm]
  refine ⟨(by show (_ : Int) ≠ 0; omega), ?_⟩
  have md := fmod_in (z.fdiv 8) (show (0 : Int) < (os.length : Int) + 1 by omega)
  dsimp only
  obtain ⟨j, ej⟩ : ∃ j : Nat, (z.fdiv 8).fmod ((os.length : Int) + 1) = (j : Int) := ⟨((z.fdiv 8).fmod ((os.length : Int) + 1)).toNat, by omega⟩
  rw [ej]
  refine ⟨_, rfl, D, _, rfl, SqL.of e1, fun r hr => ?_⟩
  rw [cut_take, ← List.map_take]
  have s2 := same_new hr (.lst ((os.take j).map V.int))
  have e2 : (upd H1 r (.lst ((os.take j).map V.int))) r = some (.lst ((os.take j).map V.int)) := upd_same
  generalize upd H1 r (.lst ((os.take j).map V.int)) = H2 at s2 e2 ⊢
  and_intros
  refine ⟨r, _, rfl, SqL.of e2, ?_⟩
  have s12 := s1.trans s2
  obtain ⟨w0, w1, w2⟩ := sums_in (j := j) on
  rw [← eM] at w1 w2
  have szM : Sz 64 M := sz_of (by omega) (by
    have := Int.mul_le_mul_of_nonneg_right (show (os.length : Int) ≤ 13 by omega) (show (0 : Int) ≤ 10 ^ 11 by decide)
    omega)
  generalize (os.take j).sum = e at w0 w1 ⊢
  have m1 := fmod_in (z.fdiv 8) (show (0 : Int) < M + 1 by omega)
  have m2 := fmod_in (z.fdiv 64) (show (0 : Int) < M + 1 by omega)
  have m5 := fmod_in z (show (0 : Int) < 5 by decide)
  and_intros
  refine ⟨(by show (_ : Int) ≠ 0; omega), ?_⟩
  and_intros
  refine ⟨(by show (_ : Int) ≠ 0; omega), ?_⟩
  dsimp only
  generalize (z.fdiv 8).fmod (M + 1) = u1 at m1 ⊢
  generalize (z.fdiv 64).fmod (M + 1) = u2 at m2 ⊢
  refine ⟨(by show 5 ≤ sizeLine; decide), fun d hd => ?_⟩
  have s3 := same_new hd (.lst [V.int 0, V.int M, V.int e, V.int u1, V.int u2])
  have e3 : (upd H2 d (.lst [V.int 0, V.int M, V.int e, V.int u1, V.int u2])) d = some (.lst [V.int 0, V.int M, V.int e, V.int u1, V.int u2]) := upd_same
  generalize upd H2 d (.lst [V.int 0, V.int M, V.int e, V.int u1, V.int u2]) = H3 at s3 e3 ⊢
  and_intros
  obtain ⟨w, ew⟩ : ∃ w, w = z.fmod 5 := ⟨_, rfl⟩
  rw [← ew] at m5
  obtain ⟨v, av, v0, v1⟩ : ∃ v : Int, atI [V.int 0, V.int M, V.int e, V.int u1, V.int u2] w = some (.int v) ∧ 0 ≤ v ∧ v ≤ M := by
    rcases (by omega : w = 0 ∨ w = 1 ∨ w = 2 ∨ w = 3 ∨ w = 4) with rfl | rfl | rfl | rfl | rfl
    · exact ⟨0, rfl, by omega, by omega⟩
    · exact ⟨M, rfl, by omega, by omega⟩
    · exact ⟨e, rfl, by omega, by omega⟩
    · exact ⟨u1, rfl, by omega, by omega⟩
    · exact ⟨u2, rfl, by omega, by omega⟩
  rw [ew] at av
  refine ⟨d, _, _, _, rfl, rfl, SqL.of e3, av, ?_⟩
  and_intros
  exact q v _ (s12.trans s3) v0 v1
theorem ok_law_sheet (T : Tx K mg base ad) : FnOk P w K mg base CX0 3 ad.f_law_sheet ad.d_law_sheet ["_law_script", "_law_at", "_law_hands", "_law_lines", "_law_most"] (spSheet16 K) := by
  refine T.F_law_sheet.ok sc_law_sheet (fun vs H Q E h => ?_) (fun cdv A outer s H vs Q E hr h => ?_)
  · obtain ⟨p, ns, k, n, m, most, rfl, _⟩ := h
    rfl
  obtain ⟨p, ns, k, n, m, most, rfl, hS, h63, k0, k9, n1, n12, m1, m12, mo1, mo9, q⟩ := h
  refine ⟨_, (@pss_cons _ _ _ _ _ (ps_setC (j := 5) (fsc := defScope s_law_sheet) (N := ["_law_script", "_law_at", "_law_hands", "_law_lines", "_law_most", "_law_slips", "_law_many_here", "_law_k", "_law_slip_here", "_law_lead"]) (Nc := ["_law_script", "_law_at", "_law_hands", "_law_lines", "_law_most", "_law_slips", "_law_many_here", ".s7", "_law_slip_here", "_law_lead", "_law_k"]) rfl rfl ⟨rfl, by decide +kernel, by decide +kernel, rfl, by decide +kernel, rfl, by decide +kernel, rfl, by decide +kernel⟩ rfl sc_law_sheet.nd rfl rfl (pi_range1 rfl T.z_range (@pa_cons _ _ _ _ _ (pv 3) pa_nil (by rfl))) (fun _ _ _ _ => pif_nil) (fun _ _ _ _ => (@pe_call _ _ _ _ _ _ _ _ _ _ _ _ _ _ _ _ (ok_law_slip T) (hr.mono (by decide)) rfl T.m_law_slip T.F_law_slip.kp T.b_law_slip .nil pass0 (@pa_cons _ _ _ _ _ (@pe_call _ _ _ _ _ _ _ _ _ _ _ _ _ _ _ _ (ok_law_cell T) (hr.mono (by decide)) rfl T.m_law_cell T.F_law_cell.kp T.b_law_cell .nil pass0 (@pa_cons _ _ _ _ _ (pv 0) (@pa_cons _ _ _ _ _ (@pe_op _ _ _ _ _ _ _ _ op_add (pv 1) (pv 10)) pa_nil (by rfl)) (by rfl)) (by decide) (by rfl) (by rfl)) (@pa_cons _ _ _ _ _ (pv 2) pa_nil (by rfl)) (by rfl)) (by decide) (by rfl) (by rfl))) rfl) (@pss_cons _ _ _ _ _ (@ps_set _ _ (6) _ _ _ _ sc_law_sheet.nd rfl (Or.inr rfl) pe_dnewT (by rfl) (by first | exact .inl rfl | exact .inr rfl | assumption)) (@pss_cons _ _ _ _ _ (ps_for PassesOwn.never rfl (pi_range1 rfl T.z_range (@pa_cons _ _ _ _ _ (@pe_callB _ _ _ _ _ _ _ _ _ (call_max2 rfl) (by rfl) T.z_max PyProof.Rows.boot_max (@pa_cons _ _ _ _ _ (pv 3) (@pa_cons _ _ _ _ _ (@pe_callB _ _ _ _ _ _ _ _ _ (call_min2 rfl) (by rfl) T.z_min PyProof.Rows.boot_min (@pa_cons _ _ _ _ _ pe_int (@pa_cons _ _ _ _ _ (@pe_op _ _ _ _ _ _ _ _ op_sub (@pe_callB _ _ _ _ _ _ _ _ _ call_len_seq (by rfl) T.z_len PySem.boot_len (@pa_cons _ _ _ _ _ (pv 0) pa_nil (by rfl)) (by decide) (by decide) (by rfl) (by rfl)) (pv 1)) pa_nil (by rfl)) (by rfl)) (by decide) (by decide) (by rfl) (by rfl)) pa_nil (by rfl)) (by rfl)) (by decide) (by decide) (by rfl) (by rfl)) pa_nil (by rfl))) (pg_name (i := 7) sc_law_sheet.nd rfl (Or.inl rfl)) (@pss_cons _ _ _ _ _ (@ps_set _ _ (8) _ _ _ _ sc_law_sheet.nd rfl (Or.inl rfl) (@pe_ix _ _ _ _ _ _ _ ix_list (pv 5) (@pe_op _ _ _ _ _ _ _ _ op_modN (pv 7) (pv 3)) (fun _ _ => rfl)) (by rfl) (by first | exact .inl rfl | exact .inr rfl | assumption)) (@pss_one _ _ _ (ps_dput (u1 hr.units) (pv 6) (pv 8) (@pe_op _ _ _ _ _ _ _ _ op_add (pe_dget2 (u1 hr.units) (pv 6) (pv 8) pe_int ⟨rfl, rfl, rfl, rfl⟩) (@pe_call _ _ _ _ _ _ _ _ _ _ _ _ _ _ _ _ (ok_law_number T) (hr.mono (by decide)) rfl T.m_law_number T.F_law_number.kp T.b_law_number .nil pass0 (@pa_cons _ _ _ _ _ (@pe_call _ _ _ _ _ _ _ _ _ _ _ _ _ _ _ _ (ok_law_cell T) (hr.mono (by decide)) rfl T.m_law_cell T.F_law_cell.kp T.b_law_cell .nil pass0 (@pa_cons _ _ _ _ _ (pv 0) (@pa_cons _ _ _ _ _ (@pe_op _ _ _ _ _ _ _ _ op_add (pv 1) (pv 7)) pa_nil (by rfl)) (by rfl)) (by decide) (by rfl) (by rfl)) (@pa_cons _ _ _ _ _ (pv 4) pa_nil (by rfl)) (by rfl)) (by decide) (by rfl) (by rfl))) rfl)))) (@pss_cons _ _ _ _ _ (@ps_set _ _ (9) _ _ _ _ sc_law_sheet.nd rfl (Or.inl rfl) (@pe_call _ _ _ _ _ _ _ _ _ _ _ _ _ _ _ _ (ok_law_mixed T) (hr.mono (by decide)) rfl T.m_law_mixed T.F_law_mixed.kp T.b_law_mixed .nil pass0 (@pa_cons _ _ _ _ _ (@pe_call _ _ _ _ _ _ _ _ _ _ _ _ _ _ _ _ (ok_law_cell T) (hr.mono (by decide)) rfl T.m_law_cell T.F_law_cell.kp T.b_law_cell .nil pass0 (@pa_cons _ _ _ _ _ (pv 0) (@pa_cons _ _ _ _ _ pe_int pa_nil (by rfl)) (by rfl)) (by decide) (by rfl) (by rfl)) (@pa_cons _ _ _ _ _ pe_int pa_nil (by rfl)) (by rfl)) (by decide) (by rfl) (by rfl)) (by rfl) (by first | exact .inl rfl | exact .inr rfl | assumption)) (@pss_cons _ _ _ _ _ (@ps_ifJ _ _ _ _ _ _ _ _ (@pt_cmpR _ _ _ _ _ _ _ _ op_gt (@pe_op _ _ _ _ _ _ _ _ op_modN (pv 9) pe_int) pe_int (nomark _)) (@pss_cons _ _ _ _ _ (@ps_set _ _ (8) _ _ _ _ sc_law_sheet.nd rfl (Or.inl rfl) (@pe_tup _ _ _ _ _ (@pa_cons _ _ _ _ _ (@pe_op _ _ _ _ _ _ _ _ op_shl pe_int (@pe_op _ _ _ _ _ _ _ _ op_modN (@pe_op _ _ _ _ _ _ _ _ op_fdivB (pv 9) pe_int) (pv 2))) pa_nil (by rfl))) (by rfl) (by first | exact .inl rfl | exact .inr rfl | assumption)) (@pss_one _ _ _ (ps_dput (u1 hr.units) (pv 6) (pv 8) (@pe_op _ _ _ _ _ _ _ _ op_add (@pe_op _ _ _ _ _ _ _ _ op_add (pe_dget2 (u1 hr.units) (pv 6) (pv 8) pe_int ⟨rfl, rfl, rfl, rfl⟩) pe_int) (@pe_op _ _ _ _ _ _ _ _ op_modN (@pe_op _ _ _ _ _ _ _ _ op_fdivB (pv 9) pe_int) (@pe_op _ _ _ _ _ _ _ _ op_mulB pe_int (pv 4)))) rfl))) pss_nil) (@pss_one _ _ _ (@ps_ret _ _ _ _ (pe_comp (fsc := defScope s_law_sheet) (N := ["_law_script", "_law_at", "_law_hands", "_law_lines", "_law_most", "_law_slips", "_law_many_here", "_law_k", "_law_slip_here", "_law_lead"]) (Nc := ["_law_script", "_law_at", "_law_hands", "_law_lines", "_law_most", "_law_slips", "_law_many_here", "_law_k", ".s8", "_law_lead", "_law_slip_here"]) rfl rfl ⟨rfl, by decide +kernel, by decide +kernel, rfl, by decide +kernel, rfl, by decide +kernel, rfl, by decide +kernel⟩ rfl (pi_list (@pe_callB _ _ _ _ _ _ _ _ _ (call_sortedDT rfl hr.units) (by rfl) T.z_sorted PyProof.Rows.boot_sorted (@pa_cons _ _ _ _ _ (pv 6) pa_nil (by rfl)) (by decide) (by decide) (by rfl) (by rfl))) (fun _ _ _ _ => pif_nil) (fun _ _ _ _ => (@pe_tup _ _ _ _ _ (@pa_cons _ _ _ _ _ (pv 10) (@pa_cons _ _ _ _ _ (pe_dget (u1 hr.units) (pv 6) (pv 10) (fun _ _ => rfl)) pa_nil (by rfl)) (by rfl)))))))))))), ?_⟩
  have hl' : (ns.map V.int).length = ns.length := List.length_map _
  and_intros
  refine ⟨by omega, by omega, ?_⟩
  rw [Int.toNat_natCast]
  refine comp_range (small63 (by omega)) (fun D i ys H' => ∃ zs : List (Addr × List Int), ys = (zs.map fun z => V.ref z.1) ∧ zs.length = i ∧ H' D = some (.lst ys) ∧ Same H H' ∧ ∀ z ∈ zs, H' z.1 = some (.tup (z.2.map V.int)) ∧ OkT n z.2) (fun D hD => ⟨[], rfl, rfl, upd_same, same_new hD _, fun _ m => nomatch m⟩) (fun D i ys H' ⟨zs, f1, f2, f3, _⟩ => ⟨f3, by rw [f1, List.length_map, f2]; exact Nat.le_refl _⟩) ?_ ?_
  · rintro D i ys H' K1 K2 hD hi ⟨zs, rfl, f2, f3, f4, f5⟩ k1 k2
    refine yes (ifT rfl ?_)
    and_intros
    refine ⟨p, ns, k + (0 + (i : Int)), rfl, f4.seq hS, h63, by omega, by omega, fun z z0 z1 => ?_⟩
    and_intros
    refine ⟨z, n, rfl, sz40 z0 z1, n1, n12, fun t ts H5 ht s5 et ok => ?_⟩
    have tD : t ≠ D := fun z => by rw [z, f3] at ht; cases ht
    refine k1 _ _ (s5 _ _ f3) ⟨zs ++ [(t, ts)], by rw [List.map_append]; rfl, by rw [List.length_append, f2]; rfl, upd_same, same_upd (f4.trans s5) hD, fun z m => ?_⟩
    rcases List.mem_append.mp m with m | m
    · have := f5 z m
      exact ⟨by rw [upd_ne (ne_of (s5 _ _ this.1) (s5 _ _ f3) (fun z => nomatch z))]; exact s5 _ _ this.1, this.2⟩
    · rw [List.mem_singleton.mp m]
      exact ⟨by rw [upd_ne tD]; exact et, ok⟩
  rintro sl ys H1 hsl ⟨zs, rfl, zl, esl, s1, zok⟩
  and_intros
  intro d hd
  have s2 := same_new hd (.dT [])
  have e2 : (upd H1 d (.dT [])) d = some (.dT []) := upd_same
  generalize upd H1 d (.dT []) = H2 at s2 e2 ⊢
  have hdH := none_of s1 hd
  have s12 := s1.trans s2
  and_intros
  refine ⟨p, _, rfl, .inl (s12.seq hS), ?_⟩
  and_intros
  refine ⟨_, _, rfl, ?_⟩
  refine ⟨_, _, rfl, ?_⟩
  have hM : (m : Int) ≤ (if (if ((ns.map V.int).length : Int) - k < 40 then ((ns.map V.int).length : Int) - k else 40) > (m : Int) then (if ((ns.map V.int).length : Int) - k < 40 then ((ns.map V.int).length : Int) - k else 40) else (m : Int)) ∧ (if (if ((ns.map V.int).length : Int) - k < 40 then ((ns.map V.int).length : Int) - k else 40) > (m : Int) then (if ((ns.map V.int).length : Int) - k < 40 then ((ns.map V.int).length : Int) - k else 40) else (m : Int)) ≤ 40 := by
    split <;> split at * <;> omega
  generalize (if (if ((ns.map V.int).length : Int) - k < 40 then ((ns.map V.int).length : Int) - k else 40) > (m : Int) then (if ((ns.map V.int).length : Int) - k < 40 then ((ns.map V.int).length : Int) - k else 40) else (m : Int)) = M at hM ⊢
  refine ⟨M, rfl, by omega, by omega, for_range (fun i σ' J => ∃ (v7 v8 : Option V) (ds : Ds) (kvs : List (List Key × V)), σ' = [some (.ref p), some (.int k), some (.int (n : Int)), some (.int (m : Int)), some (.int most), some (.ref sl), some (.ref d), v7, v8, none] ∧ Same H J ∧ Same H1 J ∧ J d = some (.dT kvs) ∧ DictOf ds kvs ∧ (∀ q ∈ ds, q.1 ∈ zs.map (·.2)) ∧ ds.length = i ∧ ∀ q ∈ ds, 1 ≤ q.2 ∧ q.2 ≤ most) ⟨none, none, [], [], rfl, s12, s2, e2, DictOf.nil, (fun _ m => nomatch m), rfl, (fun _ m => nomatch m)⟩ ?_ ?_⟩
  · rintro i σ' J hi ⟨v7, v8, ds, kvs, rfl, sJ, sJ1, eD, dk, sub, dl, po⟩
    have my := fmod_in (0 + (i : Int)) (show (0 : Int) < (m : Int) by omega)
    obtain ⟨j, hj⟩ : ∃ j : Nat, (0 + (i : Int)).fmod (m : Int) = (j : Int) := ⟨((0 + (i : Int)).fmod (m : Int)).toNat, by omega⟩
    obtain ⟨z, ez⟩ : ∃ z, zs[j]? = some z := ⟨_, List.getElem?_eq_getElem (by omega)⟩
    have zm := List.mem_of_getElem? ez
    and_intros
    refine ⟨(by show (_ : Int) ≠ 0; omega), ?_⟩
    refine ⟨sl, _, _, _, rfl, rfl, SqL.of (sJ1 _ _ esl), (by rw [hj]; exact atI_nat (by rw [List.getElem?_map, ez]; rfl)), ?_⟩
    have kt : J z.1 = some (.tup ((z.2.map Sum.inl : List Key).map kV)) := by rw [kv_map]; exact sJ1 _ _ (zok z zm).1
    have lim := dk.len sub
    rw [List.length_map] at lim
    and_intros
    refine ⟨.inr ⟨_, .inl eD⟩, ?_⟩
    refine ⟨_, rfl, _, DGet.t eD kt, ?_⟩
    rw [old_val dk]
    and_intros
    refine ⟨p, ns, k + (0 + (i : Int)), rfl, sJ.seq hS, h63, by omega, by omega, fun c c0 c1 => ?_⟩
    and_intros
    refine ⟨c, most, rfl, sz40 c0 c1, mo1, by omega, fun y y1 y2 => ?_⟩
    refine ⟨_, _, rfl, rfl, ?_⟩
    refine ⟨_, rfl, _, rfl, d, _, rfl, DPut.t eD kt (small1000 (by omega)), ?_⟩
    refine ⟨_, _, ds ++ [(z.2, y)], _, rfl, same_upd sJ hdH, same_upd sJ1 hd, upd_same, dk.put z.2 y, fun q m => ?_, by rw [List.length_append, dl]; rfl, fun q m => ?_⟩
    · rcases List.mem_append.mp m with m | m
      · exact sub q m
      · rw [List.mem_singleton.mp m]
        exact List.mem_map.mpr ⟨z, zm, rfl⟩
    · rcases List.mem_append.mp m with m | m
      · exact po q m
      · rw [List.mem_singleton.mp m]
        exact ⟨y1, y2⟩
  rintro σ' J ⟨v7, v8, ds, kvs, rfl, sJ, sJ1, eD, dk, sub, dl, po⟩
  have pos : Pos ds := fun q m => (po q m).1
  have bnd : ∀ ts, tot ds ts ≤ 40 * most := fun ts => by
    have a := tot_most (ts := ts) po (by omega)
    have b : (ds.length : Int) * most ≤ 40 * most := Int.mul_le_mul_of_nonneg_right (by omega) (by omega)
    omega
  have ne : ds ≠ [] := fun z => by rw [z] at dl; have : M.toNat = 0 := dl.symm; omega
  have okp : ∀ t ∈ zs.map (·.2), OkT n t := fun t tm => by
    obtain ⟨z, zm, rfl⟩ := List.mem_map.mp tm
    exact (zok z zm).2
  have pl : (zs.map (·.2)).length ≤ 12 := by rw [List.length_map]; omega
  and_intros
  refine ⟨p, ns, 1, rfl, sJ.seq hS, h63, by decide, by decide, fun c c0 c1 => ?_⟩
  and_intros
  refine ⟨c, 97, rfl, sz40 c0 c1, by decide, by decide, fun y y0 y1 => ?_⟩
  have szy : Sz 200 y := sz40 y0 (Int.lt_trans y1 (by decide))
  and_intros
  refine ⟨fun σ' J => ∃ (v8 : Option V) (ds : Ds) (kvs : List (List Key × V)) (pp : List (List Int)), σ' = [some (.ref p), some (.int k), some (.int (n : Int)), some (.int (m : Int)), some (.int most), some (.ref sl), some (.ref d), v7, v8, some (.int y)] ∧ Same H J ∧ J d = some (.dT kvs) ∧ DictOf ds kvs ∧ (∀ q ∈ ds, q.1 ∈ pp) ∧ (∀ t ∈ pp, OkT n t) ∧ pp.length ≤ 13 ∧ ds ≠ [] ∧ Pos ds ∧ ∀ ts, tot ds ts ≤ 64 * most, ?_, ?_⟩
  · and_intros
    refine ite2 (fun _ => ?_) (fun _ => ?_)
    · have mh := fmod_in (y.fdiv 3) (show (0 : Int) < (n : Int) by omega)
      have mb := fmod_in (y.fdiv 36) (show (0 : Int) < 3 * most by omega)
      have szo : Sz 64 most := sz_of (by omega) (by omega)
      and_intros
      refine ⟨(by show (_ : Int) ≠ 0; omega), ?_⟩
      obtain ⟨j, hj⟩ : ∃ j : Nat, (y.fdiv 3).fmod (n : Int) = (j : Int) := ⟨((y.fdiv 3).fmod (n : Int)).toNat, by omega⟩
      dsimp only
      rw [hj]
      refine ⟨_, _, rfl, rfl, pow_small (by omega), ?_⟩
      dsimp only
      rw [Int.toNat_natCast, Int.one_mul]
      refine ⟨(by show 1 ≤ sizeLine; decide), fun t ht => ?_⟩
      have s3 := same_new ht (.tup [V.int (2 ^ j)])
      have et : (upd J t (.tup [V.int (2 ^ j)])) t = some (.tup [V.int (2 ^ j)]) := upd_same
      generalize upd J t (.tup [V.int (2 ^ j)]) = J2 at s3 et ⊢
      have eD2 := s3 _ _ eD
      have kt : J2 t = some (.tup (([(2 : Int) ^ j].map Sum.inl : List Key).map kV)) := et
      have lim := dk.len sub
      and_intros
      refine ⟨.inr ⟨_, .inl eD2⟩, ?_⟩
      refine ⟨_, rfl, _, DGet.t eD2 kt, ?_⟩
      rw [old_val dk]
      and_intros
      refine ⟨(by show (_ : Int) ≠ 0; omega), ?_⟩
      dsimp only
      refine ⟨_, _, rfl, rfl, ?_⟩
      dsimp only
      rw [Int.add_assoc]
      refine ⟨_, rfl, _, rfl, d, _, rfl, DPut.t eD2 kt (small1000 (by omega)), ?_⟩
      have p2 : (0 : Int) < 2 ^ j := Int.pow_pos (by decide)
      have p2' : (2 : Int) ^ j < 2 ^ n := by
        have := Nat.pow_lt_pow_right (show 1 < 2 by decide) (show j < n by omega)
        exact_mod_cast this
      refine ⟨_, ds ++ [([(2 : Int) ^ j], 1 + (y.fdiv 36).fmod (3 * most))], _, zs.map (·.2) ++ [[(2 : Int) ^ j]], rfl, same_upd (sJ.trans s3) hdH, upd_same, dk.put _ _, fun q m => ?_, fun t m => ?_, by rw [List.length_append]; exact Nat.succ_le_succ pl, fun z => ne (List.append_eq_nil_iff.mp z).1, fun q m => ?_, fun ts => ?_⟩
      · rcases List.mem_append.mp m with m | m
        · exact List.mem_append_left _ (sub q m)
        · rw [List.mem_singleton.mp m]
          exact List.mem_append_right _ (List.mem_singleton.mpr rfl)
      · rcases List.mem_append.mp m with m | m
        · exact okp t m
        · rw [List.mem_singleton.mp m]
          exact ⟨fun x xm => by rw [List.mem_singleton.mp xm]; exact ⟨p2, p2'⟩, by show 1 ≤ 12; decide⟩
      · rcases List.mem_append.mp m with m | m
        · exact pos q m
        · rw [List.mem_singleton.mp m]
          show 1 ≤ 1 + (y.fdiv 36).fmod (3 * most)
          omega
      · rw [tot_append]
        have b := bnd ts
        show _ + ((if [(2 : Int) ^ j] = ts then 1 + (y.fdiv 36).fmod (3 * most) else 0) + 0) ≤ _
        split <;> omega
    · exact ⟨_, ds, kvs, zs.map (·.2), rfl, sJ, eD, dk, sub, okp, by omega, ne, pos, fun ts => by have := bnd ts; omega⟩
  clear sJ sJ1 eD dk sub dl po pos bnd ne okp pl
  rintro σ' J ⟨v8, ds, kvs, pp, rfl, sJ, eD, dk, sub, okp, pl, ne, pos, bnd⟩
  have fin : ∀ (D : Addr) (ms : Ls) (H2 : Hp), J D = none → Same J H2 → H2 D = some (.lst (vls ms)) → GoodL H2 ms → Sheet ds (dsOf ms) → ms.length < 64 → Q (.ref D) H2 := fun D ms H2 hD s e g sh _ => q D ms H2 (none_of sJ hD) (sJ.trans s) e g (sh.drawn pos sub okp pl ne bnd)
  have k64 := dk.len sub
  obtain ⟨ks, k1, k2, knd, kmem⟩ := dk.vd.keys
  and_intros
  refine ⟨d, kvs, ks, rfl, .inl eD, k1, by omega, fun l2 rs r1 r2 r3 hl2 => ?_⟩
  have sl := same_new hl2 (.lst (rs.map fun q => V.ref q.1))
  have el : (upd J l2 (.lst (rs.map fun q => V.ref q.1))) l2 = some (.lst (rs.map fun q => V.ref q.1)) := upd_same
  generalize upd J l2 (.lst (rs.map fun q => V.ref q.1)) = G1 at sl el ⊢
  have rl : rs.length = ks.length := by
    have := r2.length_eq
    rw [List.length_map] at this
    exact this
  have ov : ∀ r ∈ rs, valV kvs (r.2.map Sum.inl : List Key) = some (.int (oldV kvs r.2)) := fun r m => by
    obtain ⟨n, e⟩ := (kmem r.2).mp (r2.mem_iff.mp (List.mem_map.mpr ⟨r, m, rfl⟩))
    unfold oldV
    rw [e]
  refine ⟨l2, rfl, ⟨_, SqL.of el⟩, ?_⟩
  refine comp_list (xs := rs.map fun q => V.ref q.1) (by rw [List.length_map]; exact small63 (by omega)) (fun D i ys H2 => ∃ ms : Ls, ys = vls ms ∧ ms.length = i ∧ H2 D = some (.lst ys) ∧ Same G1 H2 ∧ GoodL H2 ms ∧ dsOf ms = (rs.take i).map fun r => (r.2, oldV kvs r.2)) (fun D hD => ⟨[], rfl, rfl, upd_same, same_new hD _, (fun _ m => nomatch m), rfl⟩) (fun D i ys H2 ⟨ms, f1, f2, f3, _⟩ => ⟨f3, by rw [f1, vls_len, f2]; exact Nat.le_refl _⟩) (fun D i ys H2 hD ⟨ms, _, _, _, f4, _⟩ => SqL.of (f4 _ _ el)) ?_ ?_
  · rintro D i x ys H2 K1 K2 hD hx ⟨ms, rfl, f2, f3, f4, f5, f6⟩ kk1 kk2
    rw [List.getElem?_map] at hx
    obtain ⟨r, er, rfl⟩ := Option.map_eq_some_iff.mp hx
    have rm := List.mem_of_getElem? er
    have et : rs.take (i + 1) = rs.take i ++ [r] := by rw [List.take_succ, er]; rfl
    have sH := sl.trans f4
    have ek := sH _ _ (r1 r rm)
    have dg := DGet.t (k := (r.2.map Sum.inl : List Key)) (sH _ _ eD) (by rw [kv_map]; exact ek)
    rw [ov r rm] at dg
    refine yes (ifT rfl ?_)
    refine ⟨_, rfl, _, rfl, _, rfl, d, _, rfl, dg, (by show 2 ≤ sizeLine; decide), fun t ht => ?_⟩
    have s6 := same_new ht (.tup [V.ref r.1, V.int (oldV kvs r.2)])
    refine kk1 _ _ (s6 _ _ f3) ⟨ms ++ [(t, r.1, r.2, oldV kvs r.2)], by rw [vls_append]; rfl, by rw [List.length_append, f2]; rfl, upd_same, same_upd (f4.trans s6) hD, ?_, ?_⟩
    · refine GoodL.upd (s6 _ _ f3) ((f5.same s6).append fun q m => ?_)
      rw [List.mem_singleton.mp m]
      exact ⟨upd_same, s6 _ _ ek⟩
    · rw [dsOf_append, f6, et, List.map_append]
      rfl
  · rintro D ys H2 hD ⟨ms, rfl, f2, f3, f4, f5, f6⟩
    rw [List.length_map] at f2 f6
    rw [List.take_length] at f6
    have rnd : (rs.map (·.2)).Nodup := r2.nodup_iff.mpr knd
    have pv : ∀ (ts : List Int) (n : Int), valV kvs (ts.map Sum.inl) = some (.int n) → 0 < n := fun ts n e => by
      rw [dk.val] at e
      by_cases c : ts ∈ ds.map (·.1)
      · rw [if_pos c] at e
        injection e with e
        injection e with e
        rw [← e]
        exact tot_in pos c
      · rw [if_neg c] at e
        cases e
    refine fin D ms H2 (none_of sl hD) (sl.trans f4) f3 f5 (dk.sheet pos ?_ (fun ts n => ?_)) (by omega)
    · rw [f6, List.pairwise_map]
      have nd2 : rs.Pairwise (fun x y => x.2 ≠ y.2) := List.pairwise_map.mp rnd
      exact (r3.and nd2).imp fun ⟨h1, h2⟩ => lex_tot h1 h2
    · rw [f6]
      constructor
      · intro m
        obtain ⟨r, rm, e⟩ := List.mem_map.mp m
        injection e with e1 e2
        subst e1
        subst e2
        exact ⟨ov r rm, pv _ _ (ov r rm)⟩
      · rintro ⟨e, n0⟩
        have tk : ts ∈ ks := (kmem ts).mpr ⟨n, e⟩
        obtain ⟨r, rm, rfl⟩ := List.mem_map.mp (r2.mem_iff.mpr tk)
        have o := ov r rm
        rw [e] at o
        injection o with o
        injection o with o
        exact List.mem_map.mpr ⟨r, rm, by rw [← o]⟩
theorem ok_shift (T : Tx K mg base ad) : FnOk P w K mg base CX0 4 ad.f_shift ad.d_shift ["sheet", "x", "y", "slip", "many"] (spShift ad.lP) := by
  refine T.F_shift.okC sc_shift (fun vs H Q E h => ?_) (fun cdv hcd A outer s H vs Q E hr h => ?_)
  · obtain ⟨l, sl, ls, put, x, y, m, rfl, _⟩ := h
    rfl
  obtain ⟨l, sl, ls, put, x, y, m, rfl, hl, gl, ok, l13, hs, hx, hy, lt, q⟩ := h
  refine ⟨_, (@pss_cons _ _ _ _ _ (ps_setC (j := 5) (fsc := defScope s_shift) (N := ["sheet", "x", "y", "slip", "many", "others"]) (Nc := ["sheet", "x", "y", "slip", "many", "others", "line"]) rfl rfl ⟨rfl, by decide +kernel, by decide +kernel, rfl, by decide +kernel, rfl, by decide +kernel, rfl, by decide +kernel⟩ rfl sc_shift.nd rfl rfl (pi_list (pv 0)) (fun _ _ _ _ => (pif_one (@pt_cmpR _ _ _ _ _ _ _ _ (op_neT (K := K) hr.units) (@pe_ix _ _ _ _ _ _ _ (ix_tupK K) (pv 6) pe_int (fun _ _ => rfl)) (pv 3) (nomark _)))) (fun _ _ _ _ => (pv 6)) rfl) (@pss_one _ _ _ (@ps_ret _ _ _ _ (@pe_call _ _ _ _ _ _ _ _ _ _ _ _ _ _ _ _ (ok_rows_to T) (hr.mono (by decide)) rfl T.m_rows_to T.F_rows_to.kp T.b_rows_to .nil pass0 (@pa_cons _ _ _ _ _ (pe_sortkey (fsc := defScope s_shift) (N := ["sheet", "x", "y", "slip", "many", "others"]) (Nc := ["sheet", "x", "y", "slip", "many", "others", "line"]) (x := "line") rfl T.lam (hcd.symm.trans T.lcode) (hr.mono (by decide)) rfl T.z_sorted rfl rfl ⟨rfl, by decide +kernel, by decide +kernel, rfl, by decide +kernel, rfl, by decide +kernel, rfl, by decide +kernel⟩ rfl rfl (pv 5) (fun _ _ _ _ _ => (@pe_call _ _ _ _ _ _ _ _ _ _ _ _ _ _ _ _ (ok_turn_of T) (Room.lam (hr.mono (by decide)) _) rfl T.m_turn_of T.F_turn_of.kp T.b_turn_of .nil pass0 (@pa_cons _ _ _ _ _ (@pe_ix _ _ _ _ _ _ _ (ix_tupK K) (pv 6) pe_int (fun _ _ => rfl)) (@pa_cons _ _ _ _ _ (pv 1) (@pa_cons _ _ _ _ _ (pv 2) pa_nil (by rfl)) (by rfl)) (by rfl)) (by decide) (by rfl) (by rfl)))) (@pa_cons _ _ _ _ _ (pv 3) (@pa_cons _ _ _ _ _ (pv 4) pa_nil (by rfl)) (by rfl)) (by rfl)) (by decide) (by rfl) (by rfl))))), ?_⟩
  and_intros
  refine ⟨⟨_, SqL.of hl⟩, ?_⟩
  refine comp_list (xs := vls ls) (by rw [vls_len]; exact small63 (by omega)) (fun D i ys G => ys = vls (othersL put (ls.take i)) ∧ G = upd H D (.lst ys)) (fun D hD => ⟨rfl, rfl⟩) (fun D i ys G ⟨f1, f2⟩ => ⟨by rw [f2]; exact upd_same, by
    rw [f1, vls_len]
    exact Nat.le_trans (List.length_filter_le _ _) (List.length_take_le _ _)⟩) (fun D i ys G hD ⟨_, f2⟩ => by rw [f2]; exact SqL.of (same_new hD _ _ _ hl)) ?_ ?_
  · rintro D i w ys G K1 K2 hD hw ⟨f1, rfl⟩ kk1 kk2
    obtain ⟨f, hf, rfl, fm, et⟩ := vls_get hw
    have g1 := same_new hD (.lst ys) _ _ (gl f fm).1
    have g2 := same_new hD (.lst ys) _ _ (gl f fm).2
    have g3 := same_new hD (.lst ys) _ _ hs
    and_intros
    refine ⟨f.2.1, sl, _, _, rfl, rfl, SqT.of g2, SqT.of g3, ?_⟩
    and_intros
    by_cases c : f.2.2.1 = put
    · refine ifF (by rw [decide_eq_true c]; rfl) ?_
      refine kk2 _ ⟨?_, rfl⟩
      rw [f1, et]
      unfold othersL
      rw [List.filter_append, List.filter_cons_of_neg (by rw [decide_eq_true c]; decide), List.filter_nil, List.append_nil]
    · refine ifT (by rw [decide_eq_false c]; rfl) ?_
      and_intros
      refine kk1 _ _ upd_same ⟨?_, by rw [upd_upd]⟩
      rw [f1, et]
      unfold othersL
      rw [List.filter_append, List.filter_cons_of_pos (by rw [decide_eq_false c]; rfl), List.filter_nil]
      unfold vls
      rw [List.map_append]
      rfl
  rintro D ys G hD ⟨rfl, rfl⟩
  rw [vls_len, List.take_length]
  have s1 := same_new hD (.lst (vls (othersL put ls)))
  have e1 : (upd H D (.lst (vls (othersL put ls)))) D = some (.lst (vls (othersL put ls))) := upd_same
  generalize upd H D (.lst (vls (othersL put ls))) = H1 at s1 e1 ⊢
  obtain ⟨OL, eO⟩ : ∃ OL, OL = othersL put ls := ⟨_, rfl⟩
  have sub : ∀ q ∈ OL, q ∈ ls := by rw [eO]; exact others_in put ls
  have ol : OL.length ≤ 13 := by rw [eO]; exact Nat.le_trans (List.length_filter_le _ _) l13
  rw [← eO] at e1
  and_intros
  refine ⟨D, vls OL, fun i => turnI (OL.getD i (0, 0, [], 0)).2.2.1 x y, rfl, by rw [vls_len]; omega, lt.same s1, fun H2 l2 sm l12 fr => ⟨SqL.of (sm.at (lt.same s1) e1 (fun _ z => nomatch z)), fun i z G hz sG => ?_, fun R p G pm st sG hR => ?_⟩⟩
  · obtain ⟨f, hf, rfl, fm, _⟩ := vls_get hz
    have fl := sub f fm
    have g1 := sG _ _ (sm.at (lt.same s1) (s1 _ _ (gl f fl).1) (fun _ z => nomatch z))
    have g2 := sG _ _ (sm.at (lt.same s1) (s1 _ _ (gl f fl).2) (fun _ z => nomatch z))
    and_intros
    refine ⟨f.2.1, f.2.2.1, x, y, rfl, g2, ok (f.2.2.1, f.2.2.2) (List.mem_map.mpr ⟨f, fl, rfl⟩), hx, hy, fun G' sG' => ⟨?_, sG'⟩⟩
    show V.int (turnI f.2.2.1 x y) = V.int (turnI (OL.getD i (0, 0, [], 0)).2.2.1 x y)
    rw [List.getD_eq_getElem?_getD, hf]
    rfl
  · have smH : Sm H H2 := (Sm.of s1).trans (sm_lam (lt.same s1) sm fr)
    have e3 : (p.toList.map fun i => (vls OL).getD i .non) = vls (p.toList.map fun i => OL.getD i (0, 0, [], 0)) := by
      unfold vls
      rw [List.map_map]
      refine List.map_congr_left fun i m => ?_
      have hi : i < OL.length := by
        have := List.mem_range.mp (pm.mem_iff.mp m)
        rwa [vls_len] at this
      show (OL.map fun q => V.ref q.1).getD i .non = V.ref (OL.getD i (0, 0, [], 0)).1
      rw [List.getD_eq_getElem?_getD, List.getD_eq_getElem?_getD, List.getElem?_map, List.getElem?_eq_getElem hi]
      rfl
    rw [vls_len] at pm st
    have e4 := stable3 OL (0, 0, [], 0) (fun i => turnI (OL.getD i (0, 0, [], 0)).2.2.1 x y) (fun q => turnI q.2.2.1 x y) (fun i _ => rfl) (fun q => turn_in _ x y) pm st
    rw [e3, e4]
    obtain ⟨SL, eS⟩ : ∃ SL, SL = OL.filter (fun q => decide (turnI q.2.2.1 x y = 0)) ++ OL.filter (fun q => decide (turnI q.2.2.1 x y = 1)) ++ OL.filter (fun q => decide (turnI q.2.2.1 x y = 2)) := ⟨_, rfl⟩
    have ed : dsOf SL = inTurn put x y (dsOf ls) := by
      rw [eS, dsOf_append, dsOf_append, eO, others_turn, others_turn, others_turn]
      rfl
    have subS : ∀ q ∈ SL, q ∈ ls := fun q m => sub q (by
      rw [eS] at m
      rcases List.mem_append.mp m with m | m
      · rcases List.mem_append.mp m with m | m
        · exact (List.mem_filter.mp m).1
        · exact (List.mem_filter.mp m).1
      · exact (List.mem_filter.mp m).1)
    have sl60 : SL.length ≤ 60 := by
      have a := congrArg List.length ed
      have b := inTurn_len put x y (dsOf ls)
      unfold dsOf at a b
      rw [List.length_map] at a
      rw [List.length_map] at b
      omega
    rw [← eS]
    have sG2 : Same H2 (upd G R (.lst (vls SL))) := same_upd sG hR
    have gS : GoodL (upd G R (.lst (vls SL))) SL := fun q m => ⟨sG2 _ _ (smH.tup (gl q (subS q m)).1), sG2 _ _ (smH.tup (gl q (subS q m)).2)⟩
    have eR : (upd G R (.lst (vls SL))) R = some (.lst (vls SL)) := upd_same
    generalize upd G R (.lst (vls SL)) = G2 at sG2 gS eR ⊢
    and_intros
    refine ⟨R, sl, SL, m, rfl, eR, gS, sl60, fun r rs H' hr' s' er gr' et => ?_⟩
    and_intros
    exact q r rs H' (smH.gone _ (none_of sG2 hr')) (smH.trans (Sm.of (sG2.trans s'))) (.inr (l2.same (sG2.trans s'))) er gr' (by rw [et, ed])
theorem ok_law (T : Tx K mg base ad) : FnOk P w K mg base CX0 5 ad.f_law ad.d_law ["_law_script"] (spLaw K ad.lP) := by
  refine T.F_law.ok sc_law (fun vs H Q E h => ?_) (fun cdv A outer s H vs Q E hr h => ?_)
  · obtain ⟨p, ns, rfl, _⟩ := h
    rfl
  obtain ⟨p, ns, rfl, hS, h63, hP, q⟩ := h
  refine ⟨_, (@pss_cons _ _ _ _ _ (@ps_set _ _ (1) _ _ _ _ sc_law.nd rfl (Or.inl rfl) (@pe_op _ _ _ _ _ _ _ _ op_add pe_int (@pe_op _ _ _ _ _ _ _ _ op_modN (@pe_call _ _ _ _ _ _ _ _ _ _ _ _ _ _ _ _ (ok_law_cell T) (hr.mono (by decide)) rfl T.m_law_cell T.F_law_cell.kp T.b_law_cell .nil pass0 (@pa_cons _ _ _ _ _ (pv 0) (@pa_cons _ _ _ _ _ pe_int pa_nil (by rfl)) (by rfl)) (by decide) (by rfl) (by rfl)) pe_int)) (by rfl) (by first | exact .inl rfl | exact .inr rfl | assumption)) (@pss_cons _ _ _ _ _ (@ps_set _ _ (2) _ _ _ _ sc_law.nd rfl (Or.inl rfl) (@pe_op _ _ _ _ _ _ _ _ op_modN (@pe_op _ _ _ _ _ _ _ _ op_fdivB (@pe_call _ _ _ _ _ _ _ _ _ _ _ _ _ _ _ _ (ok_law_cell T) (hr.mono (by decide)) rfl T.m_law_cell T.F_law_cell.kp T.b_law_cell .nil pass0 (@pa_cons _ _ _ _ _ (pv 0) (@pa_cons _ _ _ _ _ pe_int pa_nil (by rfl)) (by rfl)) (by decide) (by rfl) (by rfl)) pe_int) (pv 1)) (by rfl) (by first | exact .inl rfl | exact .inr rfl | assumption)) (@pss_cons _ _ _ _ _ (@ps_set _ _ (3) _ _ _ _ sc_law.nd rfl (Or.inl rfl) (@pe_op _ _ _ _ _ _ _ _ op_modN (@pe_op _ _ _ _ _ _ _ _ op_add (@pe_op _ _ _ _ _ _ _ _ op_add (pv 2) pe_int) (@pe_op _ _ _ _ _ _ _ _ op_modN (@pe_op _ _ _ _ _ _ _ _ op_fdivB (@pe_call _ _ _ _ _ _ _ _ _ _ _ _ _ _ _ _ (ok_law_cell T) (hr.mono (by decide)) rfl T.m_law_cell T.F_law_cell.kp T.b_law_cell .nil pass0 (@pa_cons _ _ _ _ _ (pv 0) (@pa_cons _ _ _ _ _ pe_int pa_nil (by rfl)) (by rfl)) (by decide) (by rfl) (by rfl)) pe_int) (@pe_op _ _ _ _ _ _ _ _ op_sub (pv 1) pe_int))) (pv 1)) (by rfl) (by first | exact .inl rfl | exact .inr rfl | assumption)) (@pss_cons _ _ _ _ _ (@ps_set _ _ (4) _ _ _ _ sc_law.nd rfl (Or.inl rfl) (@pe_call _ _ _ _ _ _ _ _ _ _ _ _ _ _ _ _ (ok_law_sheet T) (hr.mono (by decide)) rfl T.m_law_sheet T.F_law_sheet.kp T.b_law_sheet .nil pass0 (@pa_cons _ _ _ _ _ (pv 0) (@pa_cons _ _ _ _ _ pe_int (@pa_cons _ _ _ _ _ (pv 1) (@pa_cons _ _ _ _ _ (@pe_op _ _ _ _ _ _ _ _ op_add pe_int (@pe_op _ _ _ _ _ _ _ _ op_modN (@pe_op _ _ _ _ _ _ _ _ op_fdivB (@pe_call _ _ _ _ _ _ _ _ _ _ _ _ _ _ _ _ (ok_law_cell T) (hr.mono (by decide)) rfl T.m_law_cell T.F_law_cell.kp T.b_law_cell .nil pass0 (@pa_cons _ _ _ _ _ (pv 0) (@pa_cons _ _ _ _ _ pe_int pa_nil (by rfl)) (by rfl)) (by decide) (by rfl) (by rfl)) pe_int) pe_int)) (@pa_cons _ _ _ _ _ (@pe_op _ _ _ _ _ _ _ _ op_pow pe_int pe_int) pa_nil (by rfl)) (by rfl)) (by rfl)) (by rfl)) (by rfl)) (by decide) (by rfl) (by rfl)) (by rfl) (by first | exact .inl rfl | exact .inr rfl | assumption)) (@pss_cons _ _ _ _ _ (@ps_set _ _ (5) _ _ _ _ sc_law.nd rfl (Or.inr rfl) (@pe_call _ _ _ _ _ _ _ _ _ _ _ _ _ _ _ _ (ok_law_put T) (hr.mono (by decide)) rfl T.m_law_put T.F_law_put.kp T.b_law_put .nil pass0 (@pa_cons _ _ _ _ _ (pv 0) (@pa_cons _ _ _ _ _ (pv 4) (@pa_cons _ _ _ _ _ (pv 1) (@pa_cons _ _ _ _ _ (pv 2) (@pa_cons _ _ _ _ _ (pv 3) pa_nil (by rfl)) (by rfl)) (by rfl)) (by rfl)) (by rfl)) (by decide) (by rfl) (by rfl)) (by rfl) (by first | exact .inl rfl | exact .inr rfl | assumption)) (@pss_cons _ _ _ _ _ (@ps_set _ _ (6) _ _ _ _ sc_law.nd rfl (Or.inl rfl) (@pe_callB _ _ _ _ _ _ _ _ _ (call_sum rfl) (by rfl) T.z_sum PyProof.Rows.boot_sum (@pa_cons _ _ _ _ _ (pe_comp2 (fsc := defScope s_law) (N := ["_law_script", "_law_hands", "_law_x", "_law_y", "_law_sheet_here", "_law_put_here", "_law_most", "_law_lent", "_law_found", "_law_many_here", "_law_number_here"]) (Nc := ["_law_script", "_law_hands", "_law_x", "_law_y", "_law_sheet_here", "_law_put_here", "_law_most", "_law_lent", "_law_found", "_law_many_here", ".s10", "_law_slip_here", "_law_number_here"]) rfl rfl ⟨rfl, by decide +kernel, by decide +kernel, by decide +kernel, by decide +kernel, rfl, by decide +kernel, rfl, by decide +kernel⟩ rfl (pi_list (pv 4)) (fun _ _ _ _ => (pif_one (@pt_cmpR _ _ _ _ _ _ _ _ (op_neT (K := K) hr.units) (pv 11) (pv 5) (nomark _)))) (fun _ _ _ _ => (pv 12))) pa_nil (by rfl)) (by decide) (by decide) (by rfl) (by rfl)) (by rfl) (by first | exact .inl rfl | exact .inr rfl | assumption)) (@pss_cons _ _ _ _ _ (@ps_set _ _ (7) _ _ _ _ sc_law.nd rfl (Or.inl rfl) (@pe_callTy _ _ _ _ _ _ _ _ _ call_list_of (by rfl) T.z_list PyProof.Rows.boot_list (@pa_cons _ _ _ _ _ (pv 4) pa_nil (by rfl)) (by decide) (by decide) (by rfl) (by rfl)) (by rfl) (by first | exact .inl rfl | exact .inr rfl | assumption)) (@pss_cons _ _ _ _ _ (@ps_set _ _ (8) _ _ _ _ sc_law.nd rfl (Or.inl rfl) (@pe_call _ _ _ _ _ _ _ _ _ _ _ _ _ _ _ _ (ok_free_for T) (hr.mono (by decide)) rfl T.m_free_for T.F_free_for.kp T.b_free_for .nil pass0 (@pa_cons _ _ _ _ _ (pv 7) (@pa_cons _ _ _ _ _ (pv 5) pa_nil (by rfl)) (by rfl)) (by decide) (by rfl) (by rfl)) (by rfl) (by first | exact .inl rfl | exact .inr rfl | assumption)) (@pss_cons _ _ _ _ _ (@ps_if _ _ _ _ _ _ _ _ (PW.pt (@pw_or _ _ _ _ _ _ _ (@pt_not _ _ _ _ (@pt_val _ _ _ (@pe_call _ _ _ _ _ _ _ _ _ _ _ _ _ _ _ _ (ok_law_whole T) (hr.mono (by decide)) rfl T.m_law_whole T.F_law_whole.kp T.b_law_whole .nil pass0 (@pa_cons _ _ _ _ _ (pv 8) pa_nil (by rfl)) (by decide) (by rfl) (by rfl)) (by intro _; rfl))) (@pw_or1 _ _ _ _ (@pt_cmpR _ _ _ _ _ _ _ _ op_ne (pv 8) (pv 6) (nomark _))))) (@pss_one _ _ _ (@ps_ret _ _ _ _ pe_bl)) pss_nil) (@pss_cons _ _ _ _ _ (@ps_set _ _ (9) _ _ _ _ sc_law.nd rfl (Or.inl rfl) (@pe_call _ _ _ _ _ _ _ _ _ _ _ _ _ _ _ _ (ok_law_many T) (hr.mono (by decide)) rfl T.m_law_many T.F_law_many.kp T.b_law_many .nil pass0 (@pa_cons _ _ _ _ _ (pv 0) (@pa_cons _ _ _ _ _ (pv 4) (@pa_cons _ _ _ _ _ (pv 5) (@pa_cons _ _ _ _ _ (pv 6) pa_nil (by rfl)) (by rfl)) (by rfl)) (by rfl)) (by decide) (by rfl) (by rfl)) (by rfl) (by first | exact .inl rfl | exact .inr rfl | assumption)) (@pss_cons _ _ _ _ _ (ps_for PassesOwn.never rfl (pi_list (@pe_lst _ _ _ _ (@pa_cons _ _ _ _ _ (pv 9) (@pa_cons _ _ _ _ _ (@pe_op _ _ _ _ _ _ _ _ op_sub (pv 6) (pv 9)) (@pa_cons _ _ _ _ _ (pv 9) pa_nil (by rfl)) (by rfl)) (by rfl)))) (pg_name (i := 10) sc_law.nd rfl (Or.inl rfl)) (@pss_cons _ _ _ _ _ (@ps_set _ _ (8) _ _ _ _ sc_law.nd rfl (Or.inl rfl) (@pe_call _ _ _ _ _ _ _ _ _ _ _ _ _ _ _ _ (ok_shift T) (hr.mono (by decide)) rfl T.m_shift T.F_shift.kp T.b_shift .nil pass0 (@pa_cons _ _ _ _ _ (pv 7) (@pa_cons _ _ _ _ _ (pv 2) (@pa_cons _ _ _ _ _ (pv 3) (@pa_cons _ _ _ _ _ (pv 5) (@pa_cons _ _ _ _ _ (pv 10) pa_nil (by rfl)) (by rfl)) (by rfl)) (by rfl)) (by rfl)) (by decide) (by rfl) (by rfl)) (by rfl) (by first | exact .inl rfl | exact .inr rfl | assumption)) (@pss_cons _ _ _ _ _ (@ps_if _ _ _ _ _ _ _ _ (@pt_not _ _ _ _ (@pt_val _ _ _ (@pe_call _ _ _ _ _ _ _ _ _ _ _ _ _ _ _ _ (ok_law_alike T) (hr.mono (by decide)) rfl T.m_law_alike T.F_law_alike.kp T.b_law_alike .nil pass0 (@pa_cons _ _ _ _ _ (pv 8) (@pa_cons _ _ _ _ _ (@pe_call _ _ _ _ _ _ _ _ _ _ _ _ _ _ _ _ (ok_law_due T) (hr.mono (by decide)) rfl T.m_law_due T.F_law_due.kp T.b_law_due .nil pass0 (@pa_cons _ _ _ _ _ (pv 4) (@pa_cons _ _ _ _ _ (pv 2) (@pa_cons _ _ _ _ _ (pv 3) (@pa_cons _ _ _ _ _ (pv 5) (@pa_cons _ _ _ _ _ (pv 10) pa_nil (by rfl)) (by rfl)) (by rfl)) (by rfl)) (by rfl)) (by decide) (by rfl) (by rfl)) pa_nil (by rfl)) (by rfl)) (by decide) (by rfl) (by rfl)) (by intro _; rfl))) (@pss_one _ _ _ (@ps_ret _ _ _ _ pe_bl)) pss_nil) (@pss_one _ _ _ (@ps_expr _ _ _ _ (pe_bm PySem.F.plainAttrs_list PySem.F.slot_list_append PySem.F.type_list_append mt_append (pv 8) (@pa_cons _ _ _ _ _ (pv 10) pa_nil (by rfl))) (by rfl)))))) (@pss_one _ _ _ (@ps_ret _ _ _ _ (@pe_cmpR _ _ _ _ _ _ _ _ (op_eqD (K := K) hr.units) (pv 7) (pv 4) (nomark _))))))))))))))), ?_⟩
  and_intros
  refine ⟨p, ns, 0, rfl, hS, h63, by decide, by decide, fun c c0 c1 => ?_⟩
  have szc : Sz 200 c := sz40 c0 c1
  have mh := fmod_in c (show (0 : Int) < 11 by decide)
  and_intros
  obtain ⟨n, en, n2, n12⟩ : ∃ n : Nat, 2 + Int.fmod c 11 = (n : Int) ∧ 2 ≤ n ∧ n ≤ 12 := ⟨(2 + Int.fmod c 11).toNat, by omega, by omega, by omega⟩
  dsimp only
  rw [en]
  refine ⟨p, ns, 0, rfl, hS, h63, by decide, by decide, fun d d0 d1 => ?_⟩
  have szd' : Sz 200 d := sz40 d0 d1
  have mx := fmod_in (d.fdiv 11) (show (0 : Int) < (n : Int) by omega)
  and_intros
  refine ⟨(by show (_ : Int) ≠ 0; omega), ?_⟩
  dsimp only
  obtain ⟨x, ex, hx⟩ : ∃ x : Nat, (d.fdiv 11).fmod (n : Int) = (x : Int) ∧ x < n := ⟨((d.fdiv 11).fmod (n : Int)).toNat, by omega, by omega⟩
  rw [ex]
  and_intros
  refine ⟨p, ns, 0, rfl, hS, h63, by decide, by decide, fun e e0 e1 => ?_⟩
  have sze : Sz 200 e := sz40 e0 e1
  have my := fmod_in ((x : Int) + 1 + (e.fdiv 132).fmod ((n : Int) - 1)) (show (0 : Int) < (n : Int) by omega)
  and_intros
  refine ⟨(by show (_ : Int) ≠ 0; omega), ?_⟩
  and_intros
  refine ⟨(by show (_ : Int) ≠ 0; omega), ?_⟩
  dsimp only
  obtain ⟨y, ey, hy⟩ : ∃ y : Nat, ((x : Int) + 1 + (e.fdiv 132).fmod ((n : Int) - 1)).fmod (n : Int) = (y : Int) ∧ y < n := ⟨(((x : Int) + 1 + (e.fdiv 132).fmod ((n : Int) - 1)).fmod (n : Int)).toNat, by omega, by omega⟩
  rw [ey]
  and_intros
  refine ⟨p, ns, 1, rfl, hS, h63, by decide, by decide, fun g g0 g1 => ?_⟩
  have szg : Sz 200 g := sz40 g0 g1
  have mg' := fmod_in (g.fdiv 4) (show (0 : Int) < 12 by decide)
  and_intros
  obtain ⟨k, ek, k1, k12⟩ : ∃ k : Nat, 1 + (g.fdiv 4).fmod 12 = (k : Int) ∧ 1 ≤ k ∧ k ≤ 12 := ⟨(1 + (g.fdiv 4).fmod 12).toNat, by omega, by omega, by omega⟩
  dsimp only
  rw [ek]
  refine ⟨p, ns, 3, n, k, 10 ^ 9, rfl, hS, h63, by decide, by decide, by omega, n12, k1, k12, by decide, by decide, fun l ls H1 hl0 s1 el gl dr => ?_⟩
  have l13 : ls.length ≤ 13 := by have := dr.len; unfold dsOf at this; rwa [List.length_map] at this
  have okd : ∀ q ∈ dsOf ls, ∀ a ∈ q.1, 0 < a ∧ a < 2 ^ 12 := fun q m a ma => by
    have := (dr.ok q m).1.1 a ma
    refine ⟨this.1, Int.lt_of_lt_of_le this.2 ?_⟩
    rcases Nat.lt_or_eq_of_le n12 with h | h
    · exact Int.le_of_lt (Int.pow_lt_pow_of_lt (by decide) h)
    · rw [h]; exact Int.le_refl _
  have okn : ∀ q ∈ dsOf ls, 0 ≤ q.2 ∧ q.2 ≤ 10 ^ 11 := fun q m => by
    have := (dr.ok q m).2
    omega
  have hS1 := s1.seq hS
  and_intros
  refine ⟨p, l, ns, ls, n, x, y, rfl, hS1, h63, el, gl, l13, n12, hx, hy, fun sl put H2 s2 es => ?_⟩
  have el2 := s2 _ _ el
  have gl2 := gl.same s2
  and_intros
  refine ⟨⟨_, SqL.of el2⟩, ?_⟩
  refine comp_pairs (zs := vls ls) rfl rfl (by rw [vls_len]; exact small63 (by omega)) (fun D i ys G => ys = (othN put (dsOf (ls.take i))).map V.int ∧ G = upd H2 D (.lst ys)) (fun D hD => ⟨rfl, rfl⟩) (fun D i ys G ⟨f1, f2⟩ => ⟨by rw [f2]; exact upd_same, by
    rw [f1, List.length_map]
    unfold othN
    rw [List.length_map]
    refine Nat.le_trans (List.length_filter_le _ _) ?_
    unfold dsOf
    rw [List.length_map]
    exact List.length_take_le _ _⟩) (fun D i ys G hD ⟨_, f2⟩ => by rw [f2]; exact SqL.of (same_new hD _ _ _ el2)) ?_ ?_
  · rintro D i w ys G K1 K2 hD hw ⟨f1, rfl⟩ kk1 kk2
    obtain ⟨f, hf, rfl, fm, et⟩ := vls_get hw
    have g1 := same_new hD (.lst ys) _ _ (gl2 f fm).1
    have g2 := same_new hD (.lst ys) _ _ (gl2 f fm).2
    have g3 := same_new hD (.lst ys) _ _ es
    refine ⟨f.1, _, _, rfl, SqT.of g1, ?_⟩
    and_intros
    refine ⟨f.2.1, sl, _, _, rfl, rfl, SqT.of g2, SqT.of g3, ?_⟩
    and_intros
    have ed : dsOf (ls.take (i + 1)) = dsOf (ls.take i) ++ [(f.2.2.1, f.2.2.2)] := by rw [et, dsOf_append]; rfl
    by_cases c : f.2.2.1 = put
    · refine ifF (by rw [decide_eq_true c]; rfl) ?_
      refine kk2 _ ⟨?_, rfl⟩
      rw [f1, ed]
      unfold othN
      rw [List.filter_append, List.filter_cons_of_neg (by rw [decide_eq_true c]; decide), List.filter_nil, List.append_nil]
    · refine ifT (by rw [decide_eq_false c]; rfl) ?_
      and_intros
      refine kk1 _ _ upd_same ⟨?_, by rw [upd_upd]⟩
      rw [f1, ed]
      unfold othN
      rw [List.filter_append, List.filter_cons_of_pos (by rw [decide_eq_false c]; rfl), List.filter_nil, List.map_append, List.map_append]
      rfl
  rintro D ys G hD ⟨rfl, rfl⟩
  rw [vls_len, List.take_length]
  have s3 := same_new hD (.lst ((othN put (dsOf ls)).map V.int))
  have e3 : (upd H2 D (.lst ((othN put (dsOf ls)).map V.int))) D = some (.lst ((othN put (dsOf ls)).map V.int)) := upd_same
  generalize upd H2 D (.lst ((othN put (dsOf ls)).map V.int)) = H3 at s3 e3 ⊢
  refine ⟨D, _, rfl, SqL.of e3, ?_⟩
  obtain ⟨M, eM⟩ : ∃ M, M = (othN put (dsOf ls)).sum := ⟨_, rfl⟩
  rw [← eM]
  have on : ∀ a ∈ othN put (dsOf ls), 0 ≤ a ∧ a ≤ 10 ^ 11 := fun a m => by
    obtain ⟨q0, m0, rfl⟩ := List.mem_map.mp m
    exact okn q0 (List.mem_filter.mp m0).1
  obtain ⟨w0, w1, _⟩ := sums_in (j := 0) on
  have M0 : 0 ≤ M := by rw [eM]; exact Int.le_trans w0 w1
  have s13 := s2.trans s3
  have el3 := s13 _ _ el
  have gl3 := gl.same s13
  clear e3 el2 gl2
  and_intros
  intro lt hlt
  have s4 := same_new hlt (.lst (vls ls))
  have e4 : (upd H3 lt (.lst (vls ls))) lt = some (.lst (vls ls)) := upd_same
  generalize upd H3 lt (.lst (vls ls)) = H4 at s4 e4 ⊢
  have s14 := s13.trans s4
  have gl4 := gl.same s14
  have es4 := (s3.trans s4) _ _ es
  and_intros
  refine ⟨lt, sl, ls, put, rfl, e4, gl4, es4, by omega, fun H5 s5 => ?_⟩
  rw [← oth_sum, ← eM]
  and_intros
  refine ifF (ne_f rfl) ?_
  have s15 := s14.trans s5
  have el5 := s15 _ _ el
  have gl5 := gl.same s15
  have es5 := s5 _ _ es4
  have e5 := s5 _ _ e4
  have hS5 := s15.seq hS1
  have hP5 := (s1.trans s15) _ _ hP
  clear e4 es4 gl4 el3 gl3
  and_intros
  refine ⟨p, l, sl, ns, ls, put, M, rfl, hS5, h63, el5, gl5, okn, l13, es5, eM, fun a H6 s6 a0 aM => ?_⟩
  and_intros
  refine ⟨(by show 3 ≤ sizeLine; decide), fun lq hlq => ?_⟩
  have s7 := same_new hlq (.lst [V.int a, V.int (M - a), V.int a])
  have e7 : (upd H6 lq (.lst [V.int a, V.int (M - a), V.int a])) lq = some (.lst [V.int a, V.int (M - a), V.int a]) := upd_same
  generalize upd H6 lq (.lst [V.int a, V.int (M - a), V.int a]) = H7 at s7 e7 ⊢
  have s57 := s6.trans s7
  have el7 := s57 _ _ el5
  have gl7 := gl5.same s57
  have es7 := s57 _ _ es5
  have elt7 := s57 _ _ e5
  have lt7 : LT ad.lP H7 := .inl (s57 _ _ hP5)
  clear el5 gl5 es5 e5 hP5 hS5
  refine ⟨lq, rfl, ⟨_, SqL.of e7⟩, for_list (xs := [V.int a, V.int (M - a), V.int a]) (fun i σ' J => ∃ v8 v10 : Option V, σ' = [some (.ref p), some (.int (n : Int)), some (.int (x : Int)), some (.int (y : Int)), some (.ref l), some (.ref sl), some (.int M), some (.ref lt), v8, some (.int a), v10] ∧ Sm H7 J ∧ LT ad.lP J) ⟨_, none, rfl, Sm.refl _, lt7⟩ (fun i σ' J _ ⟨_, _, _, e, _⟩ => SqL.of (e.lst e7)) ?_ ?_⟩
  · rintro i w σ' J hw ⟨v8, v10, rfl, smJ, ltJ⟩
    obtain ⟨b, rfl, b0⟩ : ∃ b : Int, w = .int b ∧ 0 ≤ b := by
      rcases List.mem_cons.mp (List.mem_of_getElem? hw) with e | m
      · exact ⟨a, e, a0⟩
      rcases List.mem_cons.mp m with e | m
      · exact ⟨M - a, e, by omega⟩
      · exact ⟨a, List.mem_singleton.mp m, a0⟩
    have glJ : GoodL J ls := fun q m => ⟨smJ.tup (gl7 q m).1, smJ.tup (gl7 q m).2⟩
    and_intros
    refine ⟨lt, sl, ls, put, x, y, b, rfl, smJ.lst elt7, glJ, okd, l13, smJ.tup es7, by omega, by omega, ltJ, fun r rs G hr0 smG ltG er gr et => ?_⟩
    have sm2 := smJ.trans smG
    have glG : GoodL G ls := fun q m => ⟨sm2.tup (gl7 q m).1, sm2.tup (gl7 q m).2⟩
    and_intros
    refine ⟨l, sl, ls, put, x, y, b, rfl, sm2.lst el7, glG, fun q m => ⟨okd q m, (dr.ok q m).2.1⟩, l13, sm2.tup es7, by omega, by omega, b0, fun r2 rs2 G2 _ sG2 er2 gr2 et2 => ?_⟩
    have er' := sG2 _ _ er
    and_intros
    refine ⟨r, r2, sl, rs, rs2, put, rfl, er', er2, gr.same sG2, gr2, sG2 _ _ (sm2.tup es7), et.trans et2.symm, ?_⟩
    have rl : rs.length ≤ 39 := by
      have u := congrArg List.length et
      rw [List.length_map] at u
      have v := take_len (inTurn put x y (dsOf ls)) b
      have k := inTurn_len put x y (dsOf ls)
      have o := dr.len
      omega
    and_intros
    refine ⟨.inl ⟨rfl, _, SqL.of er'⟩, ?_⟩
    and_intros
    refine ⟨r, _, _, rfl, rfl, er', (by rw [vrw_len]; exact small1000 (by omega)), ?_⟩
    and_intros
    exact ⟨_, _, rfl, (sm2.trans (Sm.of sG2)).put (smJ.gone _ hr0), LamT.put (ltG.same sG2) er'⟩
  · rintro σ' J ⟨v8, v10, rfl, smJ, ltJ⟩
    have glJ : GoodL J ls := fun q m => ⟨smJ.tup (gl7 q m).1, smJ.tup (gl7 q m).2⟩
    have rl := reps_ln (K := K) glJ
    and_intros
    refine ⟨.list (ls.map lnD), .list (ls.map lnD), .lst (SqL.of (smJ.lst elt7)) rl, .lst (SqL.of (smJ.lst el7)) rl, (lay_lns ls).shaped (by decide), (lay_lns ls).shaped (by decide), ?_⟩
    rw [(lay_lns ls).eqv]
    and_intros
    exact q J
end
theorem all_mk {l : PySem.W.OpenLaw} {w : World} {K : PySem.W.Frag} {h : Heap} {mg : Str → Option Value} {fa f1 f2 f3 f4 f5 f6 f7 f8 f9 f10 f11 f12 f13 f14 f15 f16 f17 f18 f19 f20 f21 lf lc lP : Addr} (X : K.In h) (G : h.Ns mainGlobals mg) (hfa : mg "law" = some (.ref fa)) (hlf : mg "shift" = some (.ref lf)) (hlT : ∃ o fd, h.get? lf = some o ∧ o.data = .func fd ∧ fd.code = .ref lc)
    {od1 an1 od2 an2 od3 an3 od4 an4 od5 an5 od6 an6 od7 an7 od8 an8 od9 an9 od10 an10 od11 an11 od12 an12 od13 an13 od14 an14 od15 an15 od16 an16 od17 an17 od18 an18 od19 an19 od20 an20 od21 an21 : Option Addr} {sl1 sl2 sl3 sl4 sl5 sl6 sl7 sl8 sl9 sl10 sl11 sl12 sl13 sl14 sl15 sl16 sl17 sl18 sl19 sl20 sl21 : Array (Option Value)} {oc1 kV1 dc1 pm1 cd1 ct1 oc2 kV2 dc2 pm2 cd2 ct2 oc3 kV3 dc3 pm3 cd3 ct3 oc4 kV4 dc4 pm4 cd4 ct4 oc5 kV5 dc5 pm5 cd5 ct5 oc6 kV6 dc6 pm6 cd6 ct6 oc7 kV7 dc7 pm7 cd7 ct7 oc8 kV8 dc8 pm8 cd8 ct8 oc9 kV9 dc9 pm9 cd9 ct9 oc10 kV10 dc10 pm10 cd10 ct10 oc11 kV11 dc11 pm11 cd11 ct11 oc12 kV12 dc12 pm12 cd12 ct12 oc13 kV13 dc13 pm13 cd13 ct13 oc14 kV14 dc14 pm14 cd14 ct14 oc15 kV15 dc15 pm15 cd15 ct15 oc16 kV16 dc16 pm16 cd16 ct16 oc17 kV17 dc17 pm17 cd17 ct17 oc18 kV18 dc18 pm18 cd18 ct18 oc19 kV19 dc19 pm19 cd19 ct19 oc20 kV20 dc20 pm20 cd20 ct20 oc21 kV21 dc21 pm21 cd21 ct21 : Value}
    (a1 : PySem.W.nsIn K mainGlobals "holds" = some (some (.ref f1)))
    (l1 : K.lookup f1 = some ⟨oc1, od1, .func (PySem.W.fnOf "holds" "holds" (defArgs s_holds) (defBody s_holds) (defScope s_holds) .none kV1 dc1 pm1 an1 cd1 ct1), sl1⟩) (c1 : PySem.W.codeIn K cd1 "holds" = true) (k1 : PySem.W.keepIn K (.ref f1) = true)
    (a2 : PySem.W.nsIn K mainGlobals "with_one" = some (some (.ref f2)))
    (l2 : K.lookup f2 = some ⟨oc2, od2, .func (PySem.W.fnOf "with_one" "with_one" (defArgs s_with_one) (defBody s_with_one) (defScope s_with_one) .none kV2 dc2 pm2 an2 cd2 ct2), sl2⟩) (c2 : PySem.W.codeIn K cd2 "with_one" = true) (k2 : PySem.W.keepIn K (.ref f2) = true)
    (a3 : PySem.W.nsIn K mainGlobals "ballots_in" = some (some (.ref f3)))
    (l3 : K.lookup f3 = some ⟨oc3, od3, .func (PySem.W.fnOf "ballots_in" "ballots_in" (defArgs s_ballots_in) (defBody s_ballots_in) (defScope s_ballots_in) .none kV3 dc3 pm3 an3 cd3 ct3), sl3⟩) (c3 : PySem.W.codeIn K cd3 "ballots_in" = true) (k3 : PySem.W.keepIn K (.ref f3) = true)
    (a4 : PySem.W.nsIn K mainGlobals "number_of" = some (some (.ref f4)))
    (l4 : K.lookup f4 = some ⟨oc4, od4, .func (PySem.W.fnOf "number_of" "number_of" (defArgs s_number_of) (defBody s_number_of) (defScope s_number_of) .none kV4 dc4 pm4 an4 cd4 ct4), sl4⟩) (c4 : PySem.W.codeIn K cd4 "number_of" = true) (k4 : PySem.W.keepIn K (.ref f4) = true)
    (a5 : PySem.W.nsIn K mainGlobals "rows_to" = some (some (.ref f5)))
    (l5 : K.lookup f5 = some ⟨oc5, od5, .func (PySem.W.fnOf "rows_to" "rows_to" (defArgs s_rows_to) (defBody s_rows_to) (defScope s_rows_to) .none kV5 dc5 pm5 an5 cd5 ct5), sl5⟩) (c5 : PySem.W.codeIn K cd5 "rows_to" = true) (k5 : PySem.W.keepIn K (.ref f5) = true)
    (a6 : PySem.W.nsIn K mainGlobals "_law_cell" = some (some (.ref f6)))
    (l6 : K.lookup f6 = some ⟨oc6, od6, .func (PySem.W.fnOf "_law_cell" "_law_cell" (defArgs s_law_cell) (defBody s_law_cell) (defScope s_law_cell) .none kV6 dc6 pm6 an6 cd6 ct6), sl6⟩) (c6 : PySem.W.codeIn K cd6 "_law_cell" = true) (k6 : PySem.W.keepIn K (.ref f6) = true)
    (a7 : PySem.W.nsIn K mainGlobals "_law_mixed" = some (some (.ref f7)))
    (l7 : K.lookup f7 = some ⟨oc7, od7, .func (PySem.W.fnOf "_law_mixed" "_law_mixed" (defArgs s_law_mixed) (defBody s_law_mixed) (defScope s_law_mixed) .none kV7 dc7 pm7 an7 cd7 ct7), sl7⟩) (c7 : PySem.W.codeIn K cd7 "_law_mixed" = true) (k7 : PySem.W.keepIn K (.ref f7) = true)
    (a8 : PySem.W.nsIn K mainGlobals "_law_mask" = some (some (.ref f8)))
    (l8 : K.lookup f8 = some ⟨oc8, od8, .func (PySem.W.fnOf "_law_mask" "_law_mask" (defArgs s_law_mask) (defBody s_law_mask) (defScope s_law_mask) .none kV8 dc8 pm8 an8 cd8 ct8), sl8⟩) (c8 : PySem.W.codeIn K cd8 "_law_mask" = true) (k8 : PySem.W.keepIn K (.ref f8) = true)
    (a9 : PySem.W.nsIn K mainGlobals "_law_number" = some (some (.ref f9)))
    (l9 : K.lookup f9 = some ⟨oc9, od9, .func (PySem.W.fnOf "_law_number" "_law_number" (defArgs s_law_number) (defBody s_law_number) (defScope s_law_number) .none kV9 dc9 pm9 an9 cd9 ct9), sl9⟩) (c9 : PySem.W.codeIn K cd9 "_law_number" = true) (k9 : PySem.W.keepIn K (.ref f9) = true)
    (a10 : PySem.W.nsIn K mainGlobals "_law_whole" = some (some (.ref f10)))
    (l10 : K.lookup f10 = some ⟨oc10, od10, .func (PySem.W.fnOf "_law_whole" "_law_whole" (defArgs s_law_whole) (defBody s_law_whole) (defScope s_law_whole) .none kV10 dc10 pm10 an10 cd10 ct10), sl10⟩) (c10 : PySem.W.codeIn K cd10 "_law_whole" = true) (k10 : PySem.W.keepIn K (.ref f10) = true)
    (a11 : PySem.W.nsIn K mainGlobals "_law_turn" = some (some (.ref f11)))
    (l11 : K.lookup f11 = some ⟨oc11, od11, .func (PySem.W.fnOf "_law_turn" "_law_turn" (defArgs s_law_turn) (defBody s_law_turn) (defScope s_law_turn) .none kV11 dc11 pm11 an11 cd11 ct11), sl11⟩) (c11 : PySem.W.codeIn K cd11 "_law_turn" = true) (k11 : PySem.W.keepIn K (.ref f11) = true)
    (a12 : PySem.W.nsIn K mainGlobals "free_for" = some (some (.ref f12)))
    (l12 : K.lookup f12 = some ⟨oc12, od12, .func (PySem.W.fnOf "free_for" "free_for" (defArgs s_free_for) (defBody s_free_for) (defScope s_free_for) .none kV12 dc12 pm12 an12 cd12 ct12), sl12⟩) (c12 : PySem.W.codeIn K cd12 "free_for" = true) (k12 : PySem.W.keepIn K (.ref f12) = true)
    (a13 : PySem.W.nsIn K mainGlobals "turn_of" = some (some (.ref f13)))
    (l13 : K.lookup f13 = some ⟨oc13, od13, .func (PySem.W.fnOf "turn_of" "turn_of" (defArgs s_turn_of) (defBody s_turn_of) (defScope s_turn_of) .none kV13 dc13 pm13 an13 cd13 ct13), sl13⟩) (c13 : PySem.W.codeIn K cd13 "turn_of" = true) (k13 : PySem.W.keepIn K (.ref f13) = true)
    (a14 : PySem.W.nsIn K mainGlobals "_law_slip" = some (some (.ref f14)))
    (l14 : K.lookup f14 = some ⟨oc14, od14, .func (PySem.W.fnOf "_law_slip" "_law_slip" (defArgs s_law_slip) (defBody s_law_slip) (defScope s_law_slip) .none kV14 dc14 pm14 an14 cd14 ct14), sl14⟩) (c14 : PySem.W.codeIn K cd14 "_law_slip" = true) (k14 : PySem.W.keepIn K (.ref f14) = true)
    (a15 : PySem.W.nsIn K mainGlobals "_law_put" = some (some (.ref f15)))
    (l15 : K.lookup f15 = some ⟨oc15, od15, .func (PySem.W.fnOf "_law_put" "_law_put" (defArgs s_law_put) (defBody s_law_put) (defScope s_law_put) .none kV15 dc15 pm15 an15 cd15 ct15), sl15⟩) (c15 : PySem.W.codeIn K cd15 "_law_put" = true) (k15 : PySem.W.keepIn K (.ref f15) = true)
    (a16 : PySem.W.nsIn K mainGlobals "_law_due" = some (some (.ref f16)))
    (l16 : K.lookup f16 = some ⟨oc16, od16, .func (PySem.W.fnOf "_law_due" "_law_due" (defArgs s_law_due) (defBody s_law_due) (defScope s_law_due) .none kV16 dc16 pm16 an16 cd16 ct16), sl16⟩) (c16 : PySem.W.codeIn K cd16 "_law_due" = true) (k16 : PySem.W.keepIn K (.ref f16) = true)
    (a17 : PySem.W.nsIn K mainGlobals "_law_alike" = some (some (.ref f17)))
    (l17 : K.lookup f17 = some ⟨oc17, od17, .func (PySem.W.fnOf "_law_alike" "_law_alike" (defArgs s_law_alike) (defBody s_law_alike) (defScope s_law_alike) .none kV17 dc17 pm17 an17 cd17 ct17), sl17⟩) (c17 : PySem.W.codeIn K cd17 "_law_alike" = true) (k17 : PySem.W.keepIn K (.ref f17) = true)
    (a18 : PySem.W.nsIn K mainGlobals "_law_many" = some (some (.ref f18)))
    (l18 : K.lookup f18 = some ⟨oc18, od18, .func (PySem.W.fnOf "_law_many" "_law_many" (defArgs s_law_many) (defBody s_law_many) (defScope s_law_many) .none kV18 dc18 pm18 an18 cd18 ct18), sl18⟩) (c18 : PySem.W.codeIn K cd18 "_law_many" = true) (k18 : PySem.W.keepIn K (.ref f18) = true)
    (a19 : PySem.W.nsIn K mainGlobals "_law_sheet" = some (some (.ref f19)))
    (l19 : K.lookup f19 = some ⟨oc19, od19, .func (PySem.W.fnOf "_law_sheet" "_law_sheet" (defArgs s_law_sheet) (defBody s_law_sheet) (defScope s_law_sheet) .none kV19 dc19 pm19 an19 cd19 ct19), sl19⟩) (c19 : PySem.W.codeIn K cd19 "_law_sheet" = true) (k19 : PySem.W.keepIn K (.ref f19) = true)
    (a20 : PySem.W.nsIn K mainGlobals "shift" = some (some (.ref f20)))
    (l20 : K.lookup f20 = some ⟨oc20, od20, .func (PySem.W.fnOf "shift" "shift" (defArgs s_shift) (defBody s_shift) (defScope s_shift) .none kV20 dc20 pm20 an20 cd20 ct20), sl20⟩) (c20 : PySem.W.codeIn K cd20 "shift" = true) (k20 : PySem.W.keepIn K (.ref f20) = true)
    (a21 : PySem.W.nsIn K mainGlobals "law" = some (some (.ref f21)))
    (l21 : K.lookup f21 = some ⟨oc21, od21, .func (PySem.W.fnOf "law" "law" (defArgs s_law) (defBody s_law) (defScope s_law) .none kV21 dc21 pm21 an21 cd21 ct21), sl21⟩) (c21 : PySem.W.codeIn K cd21 "law" = true) (k21 : PySem.W.keepIn K (.ref f21) = true)
    (z0 : PySem.W.nsIn K mainGlobals "bool" = some none)
    (z1 : PySem.W.nsIn K mainGlobals "int" = some none)
    (z2 : PySem.W.nsIn K mainGlobals "isinstance" = some none)
    (z3 : PySem.W.nsIn K mainGlobals "len" = some none)
    (z4 : PySem.W.nsIn K mainGlobals "list" = some none)
    (z5 : PySem.W.nsIn K mainGlobals "max" = some none)
    (z6 : PySem.W.nsIn K mainGlobals "min" = some none)
    (z7 : PySem.W.nsIn K mainGlobals "range" = some none)
    (z8 : PySem.W.nsIn K mainGlobals "sorted" = some none)
    (z9 : PySem.W.nsIn K mainGlobals "sum" = some none)
    (z10 : PySem.W.nsIn K mainGlobals "tuple" = some none) :
    ∃ fd : FuncData, (∀ (s : Shared) (v : Value), BindsTo s fd ⟨[v], []⟩ [("_law_script", v)]) ∧ ∀ base : Heap, K.In base → base.Ns mainGlobals mg → LamB base mg lc lP → FnOk l.prog w K mg base CX0 5 fa fd ["_law_script"] (spLaw K lP) := by
  have e := hfa.symm.trans (PySem.W.mg_of X G a21)
  cases e
  have F1 := fun_mk (st := s_holds) l1 c1 k1
  have b1 := F1.binds (ps := ["mask", "hand"]) fun _ _ _ _ _ _ us hl => match us, hl with | [_, _], _ => rfl
  have F2 := fun_mk (st := s_with_one) l2 c2 k2
  have b2 := F2.binds (ps := ["mask", "hand"]) fun _ _ _ _ _ _ us hl => match us, hl with | [_, _], _ => rfl
  have F3 := fun_mk (st := s_ballots_in) l3 c3 k3
  have b3 := F3.binds (ps := ["sheet"]) fun _ _ _ _ _ _ us hl => match us, hl with | [_], _ => rfl
  have F4 := fun_mk (st := s_number_of) l4 c4 k4
  have b4 := F4.binds (ps := ["sheet", "slip"]) fun _ _ _ _ _ _ us hl => match us, hl with | [_, _], _ => rfl
  have F5 := fun_mk (st := s_rows_to) l5 c5 k5
  have b5 := F5.binds (ps := ["lines", "slip", "many"]) fun _ _ _ _ _ _ us hl => match us, hl with | [_, _, _], _ => rfl
  have F6 := fun_mk (st := s_law_cell) l6 c6 k6
  have b6 := F6.binds (ps := ["_law_script", "_law_k"]) fun _ _ _ _ _ _ us hl => match us, hl with | [_, _], _ => rfl
  have F7 := fun_mk (st := s_law_mixed) l7 c7 k7
  have b7 := F7.binds (ps := ["_law_cell_here", "_law_by"]) fun _ _ _ _ _ _ us hl => match us, hl with | [_, _], _ => rfl
  have F8 := fun_mk (st := s_law_mask) l8 c8 k8
  have b8 := F8.binds (ps := ["_law_some"]) fun _ _ _ _ _ _ us hl => match us, hl with | [_], _ => rfl
  have F9 := fun_mk (st := s_law_number) l9 c9 k9
  have b9 := F9.binds (ps := ["_law_cell_here", "_law_most"]) fun _ _ _ _ _ _ us hl => match us, hl with | [_, _], _ => rfl
  have F10 := fun_mk (st := s_law_whole) l10 c10 k10
  have b10 := F10.binds (ps := ["_law_found"]) fun _ _ _ _ _ _ us hl => match us, hl with | [_], _ => rfl
  have F11 := fun_mk (st := s_law_turn) l11 c11 k11
  have b11 := F11.binds (ps := ["_law_slip_here", "_law_x", "_law_y"]) fun _ _ _ _ _ _ us hl => match us, hl with | [_, _, _], _ => rfl
  have F12 := fun_mk (st := s_free_for) l12 c12 k12
  have b12 := F12.binds (ps := ["sheet", "slip"]) fun _ _ _ _ _ _ us hl => match us, hl with | [_, _], _ => rfl
  have F13 := fun_mk (st := s_turn_of) l13 c13 k13
  have b13 := F13.binds (ps := ["slip", "x", "y"]) fun _ _ _ _ _ _ us hl => match us, hl with | [_, _, _], _ => rfl
  have F14 := fun_mk (st := s_law_slip) l14 c14 k14
  have b14 := F14.binds (ps := ["_law_cell_here", "_law_hands"]) fun _ _ _ _ _ _ us hl => match us, hl with | [_, _], _ => rfl
  have F15 := fun_mk (st := s_law_put) l15 c15 k15
  have b15 := F15.binds (ps := ["_law_script", "_law_sheet_here", "_law_hands", "_law_x", "_law_y"]) fun _ _ _ _ _ _ us hl => match us, hl with | [_, _, _, _, _], _ => rfl
  have F16 := fun_mk (st := s_law_due) l16 c16 k16
  have b16 := F16.binds (ps := ["_law_sheet_here", "_law_x", "_law_y", "_law_put_here", "_law_many_here"]) fun _ _ _ _ _ _ us hl => match us, hl with | [_, _, _, _, _], _ => rfl
  have F17 := fun_mk (st := s_law_alike) l17 c17 k17
  have b17 := F17.binds (ps := ["_law_found", "_law_due_here"]) fun _ _ _ _ _ _ us hl => match us, hl with | [_, _], _ => rfl
  have F18 := fun_mk (st := s_law_many) l18 c18 k18
  have b18 := F18.binds (ps := ["_law_script", "_law_sheet_here", "_law_put_here", "_law_most"]) fun _ _ _ _ _ _ us hl => match us, hl with | [_, _, _, _], _ => rfl
  have F19 := fun_mk (st := s_law_sheet) l19 c19 k19
  have b19 := F19.binds (ps := ["_law_script", "_law_at", "_law_hands", "_law_lines", "_law_most"]) fun _ _ _ _ _ _ us hl => match us, hl with | [_, _, _, _, _], _ => rfl
  have F20 := fun_mk (st := s_shift) l20 c20 k20
  have b20 := F20.binds (ps := ["sheet", "x", "y", "slip", "many"]) fun _ _ _ _ _ _ us hl => match us, hl with | [_, _, _, _, _], _ => rfl
  have F21 := fun_mk (st := s_law) l21 c21 k21
  have b21 := F21.binds (ps := ["_law_script"]) fun _ _ _ _ _ _ us hl => match us, hl with | [_], _ => rfl
  have e := hlf.symm.trans (PySem.W.mg_of X G a20)
  cases e
  obtain ⟨_, _, e1, e2, e3⟩ := hlT
  rw [X _ _ l20] at e1
  cases e1
  cases e2
  have T : ∀ base : Heap, LamB base mg lc lP → Tx K mg base (⟨f1, _, f2, _, f3, _, f4, _, f5, _, f6, _, f7, _, f8, _, f9, _, f10, _, f11, _, f12, _, f13, _, f14, _, f15, _, f16, _, f17, _, f18, _, f19, _, f20, _, fa, _, lc, lP⟩ : Ads) := fun base LB => ⟨F1, b1, PySem.W.mg_of X G a1, F2, b2, PySem.W.mg_of X G a2, F3, b3, PySem.W.mg_of X G a3, F4, b4, PySem.W.mg_of X G a4, F5, b5, PySem.W.mg_of X G a5, F6, b6, PySem.W.mg_of X G a6, F7, b7, PySem.W.mg_of X G a7, F8, b8, PySem.W.mg_of X G a8, F9, b9, PySem.W.mg_of X G a9, F10, b10, PySem.W.mg_of X G a10, F11, b11, PySem.W.mg_of X G a11, F12, b12, PySem.W.mg_of X G a12, F13, b13, PySem.W.mg_of X G a13, F14, b14, PySem.W.mg_of X G a14, F15, b15, PySem.W.mg_of X G a15, F16, b16, PySem.W.mg_of X G a16, F17, b17, PySem.W.mg_of X G a17, F18, b18, PySem.W.mg_of X G a18, F19, b19, PySem.W.mg_of X G a19, F20, b20, PySem.W.mg_of X G a20, F21, b21, PySem.W.mg_of X G a21, PySem.W.mg_none_of X G z0, PySem.W.mg_none_of X G z1, PySem.W.mg_none_of X G z2, PySem.W.mg_none_of X G z3, PySem.W.mg_none_of X G z4, PySem.W.mg_none_of X G z5, PySem.W.mg_none_of X G z6, PySem.W.mg_none_of X G z7, PySem.W.mg_none_of X G z8, PySem.W.mg_none_of X G z9, PySem.W.mg_none_of X G z10, LB, e3⟩
  exact ⟨PySem.W.fnOf "law" "law" (defArgs s_law) (defBody s_law) (defScope s_law) .none kV21 dc21 pm21 an21 cd21 ct21, fun s v => .of_eq rfl, fun base _ _ LB => ok_law (T base LB)⟩
theorem walk {l : PySem.W.OpenLaw} {q : Program} {loose : List Str} {XP : (Str → Option Value) → Heap → Prop} {YP : World → Heap → Prop} {d dn : DefRec} {K : Params → PySem.W.Frag} (hn : l.most = some 63) (hdf : d.params.defaults = [])
    (hY : ∀ (w : World) (h : Heap), YP w h → (K w.params).In h) (hnt : ∀ p, noTab (K p) = true) (hdn : (PyProof.Rows.recsOf q).find? (fun e => e.name == ("shift" : Str)) = some dn)
    (F : ∀ (w : World) (mg : Str → Option Value) (fa f c Pt : Addr) (h : Heap), (K w.params).In h → h.Ns mainGlobals mg → mg d.name = some (.ref fa) → mg "shift" = some (.ref f) → (∃ o fd, h.get? f = some o ∧ o.data = .func fd ∧ fd.code = .ref c) →
      ∃ fd : FuncData, (∀ (s : Shared) (u : Value), BindsTo s fd ⟨[u], []⟩ [("_law_script", u)]) ∧ ∀ base : Heap, (K w.params).In base → base.Ns mainGlobals mg → LamB base mg c Pt → FnOk l.prog w (K w.params) mg base CX0 5 fa fd ["_law_script"] (spLaw (K w.params) Pt)) :
    PySem.W.WalkO q loose XP YP l.row.toRowW d [] (fun f vs => PySem.call f vs) :=
  L2.walk_of1 (n := 63) (k := 5) (x := "_law_script") (dn := dn) (CX := fun _ => CX0) (sp := fun w Pt => spLaw (K w.params) Pt) hn (by decide) hdf ⟨rfl, by decide, by decide⟩ hY hnt (List.mem_of_find?_eq_some hdn) (fun w mg fa f c Pt h k1 k2 k3 k4 k5 => F w mg fa f c Pt h k1 k2 k3 (by rw [← show dn.name = "shift" from beq_iff_eq.mp (List.find?_some (p := fun e : DefRec => e.name == ("shift" : Str)) hdn)]; exact k4) k5) (fun _ _ _ a ns hl hP hS => ⟨a, ns, rfl, hS, hl, hP, fun _ => rfl⟩) fun _ _ _ _ _ z => z
end Law
open PySem PySem.W PyProof.Rows
set_option maxRecDepth 100000 in
set_option maxHeartbeats 0 in
theorem PySem.Challenge.cw_pollproof_k73_shifts_holds : PySem.Challenge.rw_pollproof_k73_shifts.Holds := by
  refine Head.top ?_
  k_fill
  refine Law.walk (l := PySem.Challenge.rw_pollproof_k73_shifts) (dn := ((recsOf Head.q0).find? fun e => e.name == ("shift" : Str)).get (by decide +kernel)) rfl rfl (fun w h Y => PySem.W.km_in_of Y) ?nt (Option.some_get _).symm ?F
  case nt => exact fun p => by kernel_rfl
  case F =>
    intro w mg fa lf lc lP h KX G hmg hlf hlT
    refine' Law.all_mk KX G hmg hlf hlT ?a1 ?l1 ?c1 ?k1 ?a2 ?l2 ?c2 ?k2 ?a3 ?l3 ?c3 ?k3 ?a4 ?l4 ?c4 ?k4 ?a5 ?l5 ?c5 ?k5 ?a6 ?l6 ?c6 ?k6 ?a7 ?l7 ?c7 ?k7 ?a8 ?l8 ?c8 ?k8 ?a9 ?l9 ?c9 ?k9 ?a10 ?l10 ?c10 ?k10 ?a11 ?l11 ?c11 ?k11 ?a12 ?l12 ?c12 ?k12 ?a13 ?l13 ?c13 ?k13 ?a14 ?l14 ?c14 ?k14 ?a15 ?l15 ?c15 ?k15 ?a16 ?l16 ?c16 ?k16 ?a17 ?l17 ?c17 ?k17 ?a18 ?l18 ?c18 ?k18 ?a19 ?l19 ?c19 ?k19 ?a20 ?l20 ?c20 ?k20 ?a21 ?l21 ?c21 ?k21 ?z0 ?z1 ?z2 ?z3 ?z4 ?z5 ?z6 ?z7 ?z8 ?z9 ?z10
    (case a1 => k_is)
    (case l1 => k_is)
    (case c1 => k_is)
    (case k1 => k_is)
    (case a2 => k_is)
    (case l2 => k_is)
    (case c2 => k_is)
    (case k2 => k_is)
    (case a3 => k_is)
    (case l3 => k_is)
    (case c3 => k_is)
    (case k3 => k_is)
    (case a4 => k_is)
    (case l4 => k_is)
    (case c4 => k_is)
    (case k4 => k_is)
    (case a5 => k_is)
    (case l5 => k_is)
    (case c5 => k_is)
    (case k5 => k_is)
    (case a6 => k_is)
    (case l6 => k_is)
    (case c6 => k_is)
    (case k6 => k_is)
    (case a7 => k_is)
    (case l7 => k_is)
    (case c7 => k_is)
    (case k7 => k_is)
    (case a8 => k_is)
    (case l8 => k_is)
    (case c8 => k_is)
    (case k8 => k_is)
    (case a9 => k_is)
    (case l9 => k_is)
    (case c9 => k_is)
    (case k9 => k_is)
    (case a10 => k_is)
    (case l10 => k_is)
    (case c10 => k_is)
    (case k10 => k_is)
    (case a11 => k_is)
    (case l11 => k_is)
    (case c11 => k_is)
    (case k11 => k_is)
    (case a12 => k_is)
    (case l12 => k_is)
    (case c12 => k_is)
    (case k12 => k_is)
    (case a13 => k_is)
    (case l13 => k_is)
    (case c13 => k_is)
    (case k13 => k_is)
    (case a14 => k_is)
    (case l14 => k_is)
    (case c14 => k_is)
    (case k14 => k_is)
    (case a15 => k_is)
    (case l15 => k_is)
    (case c15 => k_is)
    (case k15 => k_is)
    (case a16 => k_is)
    (case l16 => k_is)
    (case c16 => k_is)
    (case k16 => k_is)
    (case a17 => k_is)
    (case l17 => k_is)
    (case c17 => k_is)
    (case k17 => k_is)
    (case a18 => k_is)
    (case l18 => k_is)
    (case c18 => k_is)
    (case k18 => k_is)
    (case a19 => k_is)
    (case l19 => k_is)
    (case c19 => k_is)
    (case k19 => k_is)
    (case a20 => k_is)
    (case l20 => k_is)
    (case c20 => k_is)
    (case k20 => k_is)
    (case a21 => k_is)
    (case l21 => k_is)
    (case c21 => k_is)
    (case k21 => k_is)
    (case z0 => k_is)
    (case z1 => k_is)
    (case z2 => k_is)
    (case z3 => k_is)
    (case z4 => k_is)
    (case z5 => k_is)
    (case z6 => k_is)
    (case z7 => k_is)
    (case z8 => k_is)
    (case z9 => k_is)
    (case z10 => k_is)
#print axioms PySem.Challenge.cw_pollproof_k73_shifts_holds
