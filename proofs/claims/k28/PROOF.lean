import PyProof.Rows.All
import Wide.All
import OpenK.AllK
import Wide.FinOn
import Lean
import PyProof.EqAt
import PyProof.EqKinds
import PyProof.TupleCall
import PySem.Challenge.RW_pollproof_k28_changes_and_lines_refused
set_option Elab.async false
set_option linter.all false
set_option maxRecDepth 100000
namespace Head
open PySem PySem.W PyProof.Rows
def runT (p : Program) (w : World) (n0 : Nat) (ann : Option Value) : Nat → SharedT → Thread → Option SharedT
  | 0, _, _ => none
  | n + 1, s, t => match through t with
    | true => some s
    | false => match stepOk n0 ann t with
      | false => none
      | true => match stepT (denote treeTable) p w s t with
        | some (s', t') => runT p w n0 ann n s' t'
        | none => none
theorem runT_of {p : Program} {w : World} {n0 : Nat} {ann : Option Value} : ∀ {n : Nat} {s s' : SharedT} {t : Thread}, runT p w n0 ann n s t = some s' → topRun treeTable p w n0 ann n s.abs t = some s'.abs
  | 0, _, _, _, h => by cases h
  | n + 1, s, s', t, h => by
    unfold runT at h
    unfold topRun
    cases he : through t with
    | true => rw [he] at h; cases h; rfl
    | false =>
      rw [he] at h
      cases hk : stepOk n0 ann t with
      | false => rw [hk] at h; cases h
      | true =>
        rw [hk] at h
        cases hs : stepT (denote treeTable) p w s t with
        | none => rw [hs] at h; cases h
        | some r => obtain ⟨s2, t2⟩ := r; rw [hs] at h; rw [stepT_spec hs]; exact runT_of h
def grow : List Obj → Nat → BT → Option BT
  | [], _, t => some t
  | o :: os, n, t => match ((t.ins n o).get n).isSome with
    | true => grow os (n + 1) (t.ins n o)
    | false => none
theorem grow_of {life : Life} : ∀ {os : List Obj} {n : Nat} {t t' : BT} {xs : List Obj}, (absHeap t n life) = ⟨xs.toArray, life⟩ → grow os n t = some t' → absHeap t' (n + os.length) life = ⟨(xs ++ os).toArray, life⟩
  | [], n, t, t', xs, a, h => by
    cases h
    rw [List.append_nil]
    exact a
  | o :: os, n, t, t', xs, a, h => by
    unfold grow at h
    cases g : ((t.ins n o).get n).isSome with
    | false => rw [g] at h; cases h
    | true =>
      rw [g] at h
      have b : absHeap (t.ins n o) (n + 1) life = ⟨(xs ++ [o]).toArray, life⟩ := by
        rw [absHeap_ins g, a]
        show (⟨xs.toArray.push o, life⟩ : Heap) = _
        rw [List.push_toArray]
      have c := grow_of b h
      rw [List.append_assoc] at c
      rw [List.length_cons, show n + (os.length + 1) = n + 1 + os.length by omega]
      exact c
theorem grow_all {H : Heap} {T : BT} (h : grow H.objs.toList 0 .nil = some T) : absHeap T H.objs.size H.life = H := by
  have c := grow_of (life := H.life) (n := 0) (t := .nil) (xs := []) rfl h
  rw [Nat.zero_add, Array.length_toList] at c
  rw [c]
  obtain ⟨a, l⟩ := H
  show (⟨([] ++ a.toList).toArray, l⟩ : Heap) = ⟨a, l⟩
  rw [List.nil_append, Array.toArray_toList]
theorem left {p q : Program} {loose : List PySem.Str} {Xt : Shared → Bool} {α : Type} {Yf : Shared → α} {Ya : World → α} {N : Nat} {g0 : Bool}
    (e : opening p = plainProg p.main.scope.names) (hN : Nat.ble 600 N = true) (f : ∀ s, fenceModules? p s = some s)
    (h : ∀ (w : World) (os : OsState), ((grow (boot_heap w.params).objs.toList 0 .nil).bind fun T => (runT p w (boot_heap w.params).objs.size ((boot_heap w.params).nsMap mainGlobals "__annotations__") N ⟨T, (boot_heap w.params).objs.size, (boot_heap w.params).life, Array.mk [], boot_drawn, boot_toks, os⟩ (topStub p)).map fun s =>
      (((boot_heap w.params).isNs mainGlobals, staticsOk (importedModules p.main.body) (boot_heap w.params) s.abs.heap && namesBound p s.abs.heap && gensDone s.abs && laidKept (boot_heap w.params) s.abs.heap), openSeen q loose (importedModules p.main.body) Xt g0 s.abs, Yf s.abs)) =
      some ((true, true), openGood q loose, Ya w)) : LeftO p q loose Xt Yf Ya N g0 := fun w => by
  obtain ⟨⟨hp, gs, d, k, os⟩, e1, e2⟩ := Option.map_eq_some_iff.mp (boot_open e hN f w)
  obtain ⟨rfl, rfl, rfl, rfl⟩ : hp = boot_heap w.params ∧ gs = Array.mk [] ∧ d = boot_drawn ∧ k = boot_toks := by simpa using e2
  have z := h w os
  cases gT : grow (boot_heap w.params).objs.toList 0 .nil with
  | none => rw [gT] at z; cases z
  | some T =>
    rw [gT] at z
    obtain ⟨s, r, y⟩ := Option.map_eq_some_iff.mp z
    have r' := runT_of r
    injection y with y1 y2
    injection y1 with y3 y4
    injection y2 with y5 y6
    have a : (⟨T, (boot_heap w.params).objs.size, (boot_heap w.params).life, Array.mk [], boot_drawn, boot_toks, os⟩ : SharedT).abs = ⟨boot_heap w.params, Array.mk [], boot_drawn, boot_toks, os⟩ := by
      unfold SharedT.abs
      rw [grow_all gT]
    rw [a] at r'
    unfold openEnds
    rw [e1]
    show (topFrom treeTable p w N _).map _ = _
    have t : topFrom treeTable p w N ⟨boot_heap w.params, Array.mk [], boot_drawn, boot_toks, os⟩ = some s.abs := by
      unfold topFrom
      dsimp only
      rw [y3, r']
      show (match staticsOk (importedModules p.main.body) (boot_heap w.params) s.abs.heap && namesBound p s.abs.heap && gensDone s.abs && laidKept (boot_heap w.params) s.abs.heap with | true => _ | false => _) = _
      rw [y4]
    rw [t]
    exact congrArg some (Prod.ext y5 y6)
end Head
namespace Head
open PySem PySem.W PyProof.Rows
abbrev q0 : Program := view PySem.Challenge.pw_pollproof_k28_changes_and_lines_refused [39]
abbrev r0 : OpenRow := OpenLaw.row PySem.Challenge.rw_pollproof_k28_changes_and_lines_refused
local macro_rules | `(tactic| o_head $H) => do
  let (hl, hw, hc) := (Lean.mkIdent `hl, Lean.mkIdent `hw, Lean.mkIdent `hc)
  `(tactic| (
    refine holds_open (r := r0) (q := q0) (loose := [PySem.Str.ofString "PollError", PySem.Str.ofString "NoNumber", PySem.Str.ofString "NoBallot", PySem.Str.ofString "NoSheet", PySem.Str.ofString "NoChange", PySem.Str.ofString "Torn", PySem.Str.ofString "NoBundle", PySem.Str.ofString "WrongNumber", PySem.Str.ofString "NoWay", PySem.Str.ofString "TooHard", PySem.Str.ofString "Ended", PySem.Str.ofString "NoRow", PySem.Str.ofString "is_whole", PySem.Str.ofString "MOST_BALLOTS", PySem.Str.ofString "is_number", PySem.Str.ofString "numbers_by_slip", PySem.Str.ofString "sheet_from", PySem.Str.ofString "sheet_of", PySem.Str.ofString "check_row", PySem.Str.ofString "changed", PySem.Str.ofString "_law_whole", PySem.Str.ofString "_law_cell", PySem.Str.ofString "_law_mixed", PySem.Str.ofString "_law_slip", PySem.Str.ofString "_law_lines", PySem.Str.ofString "_law_sheet", PySem.Str.ofString "_law_together", PySem.Str.ofString "_law_same", PySem.Str.ofString "_law_other", PySem.Str.ofString "_law_no_sheet", PySem.Str.ofString "_law_no_change", PySem.Str.ofString "_law_bad_numbers", PySem.Str.ofString "_law_bad_rows", PySem.Str.ofString "_law_good", PySem.Str.ofString "_law_due"]) (N := 100000)
      (Xt := fun s => xlAt q0 [] s && recOk (RowW.records (OpenRow.toRowW r0)) s)
      (XP := XL q0 []) (Yf := Hook.obs $H) (Ya := Hook.val $H) (YP := Hook.says $H)
      ?$hl (Hook.of $H) (Hook.keeps $H) (fun s e => xl_of s (Bool.and_eq_true_iff.mp e).1) XL.keeps
      (by rfl) (by rfl) (by rfl) (fun s e => recFacts_of (Bool.and_eq_true_iff.mp e).2) (by rfl) (by assumption)
      (by decide +kernel) ⟨rfl, rfl, rfl, rfl, rfl, by decide +kernel⟩ ?$hw ?$hc;
    (next => (exact left (by kernel_rfl) (by decide) (fun s => by kernel_rfl) (fun w os => by kernel_rfl)))))
set_option maxRecDepth 100000 in
set_option maxHeartbeats 0 in
open_top top for PySem.Challenge.rw_pollproof_k28_changes_and_lines_refused
end Head
namespace L2
open PySem PySem.Spec PyProof.Rows
abbrev Key := Sum Int Str
def keyIs : Key → Value → Bool
  | .inl k, v => Value.isInt k v
  | .inr x, v => Value.isStrOf x v
def keyH (w : World) : Key → Int
  | .inl k => hashInt k
  | .inr x => hashStr w x
theorem keyIs_shape : ∀ {k : Key} {v : Value}, keyIs k v = true → (∃ i t, k = Sum.inl i ∧ v = Value.int i t) ∨ (∃ x t, k = Sum.inr x ∧ v = Value.str x t)
  | .inl i, v, h => by
    obtain ⟨t, e⟩ := Value.isInt_shape (k := i) (v := v) h
    exact .inl ⟨i, t, rfl, e⟩
  | .inr x, v, h => by
    obtain ⟨t, e⟩ := Value.isStrOf_shape (x := x) (v := v) h
    exact .inr ⟨x, t, rfl, e⟩
theorem keyIs_int (i : Int) (t : Tok) : keyIs (.inl i) (.int i t) = true := by simp [keyIs, Value.isInt]
theorem keyIs_str (x : Str) (t : Tok) : keyIs (.inr x) (.str x t) = true := by simp [keyIs, Value.isStrOf]
theorem key_ll (a b : Int) : decide ((Sum.inl a : Key) = Sum.inl b) = (a == b) := by
  by_cases e : a = b
  · subst e; simp
  · have h : ¬ (Sum.inl a : Key) = Sum.inl b := fun q => e (Sum.inl.inj q)
    rw [decide_eq_false h]
    exact (beq_eq_false_iff_ne.mpr e).symm
theorem key_rr (a b : Str) : decide ((Sum.inr a : Key) = Sum.inr b) = decide (a = b) := by
  by_cases e : a = b
  · subst e; simp
  · have h : ¬ (Sum.inr a : Key) = Sum.inr b := fun q => e (Sum.inr.inj q)
    rw [decide_eq_false h, decide_eq_false e]
theorem key_lr (a : Int) (b : Str) : decide ((Sum.inl a : Key) = Sum.inr b) = false := decide_eq_false (fun q => nomatch q)
theorem key_rl (a : Str) (b : Int) : decide ((Sum.inr a : Key) = Sum.inl b) = false := decide_eq_false (fun q => nomatch q)
def mixKind (prog : Program) (w : World) : PySem.KeyKind prog w Key where
  is := keyIs
  hash := keyH w
  inj := fun v a b ha hb => by
    rcases keyIs_shape ha with ⟨i, t, rfl, rfl⟩ | ⟨x, t, rfl, rfl⟩
    · rcases keyIs_shape hb with ⟨j, u, rfl, e⟩ | ⟨y, u, rfl, e⟩
      · injection e with e1 _; rw [e1]
      · exact nomatch e
    · rcases keyIs_shape hb with ⟨j, u, rfl, e⟩ | ⟨y, u, rfl, e⟩
      · exact nomatch e
      · injection e with e1 _; rw [e1]
  byValue := fun k v h => by
    rcases keyIs_shape h with ⟨i, t, rfl, rfl⟩ | ⟨x, t, rfl, rfl⟩ <;> rfl
  pyHash := fun hv h => by
    rcases keyIs_shape hv with ⟨i, t, rfl, rfl⟩ | ⟨x, t, rfl, rfl⟩
    · exact wpAny_pyHash_int h
    · exact wpAny_pyHash_str h
  eqBool := fun hu hv h => by
    rcases keyIs_shape hu with ⟨i, t, rfl, rfl⟩ | ⟨x, t, rfl, rfl⟩
    · rcases keyIs_shape hv with ⟨j, u, rfl, rfl⟩ | ⟨y, u, rfl, rfl⟩
      · rw [key_ll] at h; exact wpAny_eqBool_int h
      · rw [key_lr] at h; exact SeqAt.EqAt.int_str i t y u _ _ _ _ h
    · rcases keyIs_shape hv with ⟨j, u, rfl, rfl⟩ | ⟨y, u, rfl, rfl⟩
      · rw [key_rl] at h; exact SeqAt.EqAt.str_int x t j u _ _ _ _ h
      · rw [key_rr] at h; exact wpAny_eqBool_str h
  «strs» := fun k x t v h => by
    rcases keyIs_shape h with ⟨i, u, rfl, e⟩ | ⟨y, u, rfl, e⟩
    · exact nomatch e
    · injection e with e1 _
      subst e1
      cases v <;> rfl
theorem mixKind_int (prog : Program) (w : World) (i : Int) (t : Tok) : (mixKind prog w).is (.inl i) (.int i t) = true := keyIs_int i t
theorem mixKind_str (prog : Program) (w : World) (x : Str) (t : Tok) : (mixKind prog w).is (.inr x) (.str x t) = true := keyIs_str x t
end L2
namespace L2
open PySem PySem.Spec PyProof.Rows
inductive V where
  | non | bl (b : Bool) | int (i : Int) | str (x : Str) | byt (b : Array UInt8) | flt (b : UInt64) | ref (a : Addr) | ty (n : String)
  deriving DecidableEq
def RelV : V → Value → Prop
  | .non, u => u = Value.none
  | .bl b, u => u = Value.bool b
  | .int i, u => ∃ t, u = Value.int i t
  | .str x, u => ∃ t, u = Value.str x t
  | .byt b, u => ∃ t, u = Value.bytes b t
  | .flt b, u => ∃ t, u = Value.float b t
  | .ref a, u => u = Value.ref a
  | .ty n, u => u = Value.type n
abbrev Vals : List V → List Value → Prop := Paired RelV
theorem Vals.length {xs : List V} {us : List Value} (r : Vals xs us) : xs.length = us.length := Paired.length r
theorem Vals.get : ∀ {xs : List V} {us : List Value} {i : Nat} {x : V}, Vals xs us → xs[i]? = some x → ∃ u, us[i]? = some u ∧ RelV x u
  | _, _, _, _, .nil, e => by simp at e
  | _, _, 0, _, .cons r _, e => by simp at e; subst e; exact ⟨_, rfl, r⟩
  | _, _, i + 1, x, .cons _ t, e => by
    obtain ⟨u, h1, h2⟩ := Vals.get (i := i) (x := x) t (by simpa using e)
    exact ⟨u, by simpa using h1, h2⟩
theorem Vals.set {x : V} {u : Value} (r : RelV x u) : ∀ {xs : List V} {us : List Value} (i : Nat), Vals xs us → Vals (xs.set i x) (us.set i u)
  | _, _, _, .nil => .nil
  | _, _, 0, .cons _ t => .cons r t
  | _, _, i + 1, .cons q t => .cons q (Vals.set r i t)
theorem Vals.append : ∀ {xs ys : List V} {us ws : List Value}, Vals xs us → Vals ys ws → Vals (xs ++ ys) (us ++ ws)
  | _, _, _, _, .nil, s => s
  | _, _, _, _, .cons r t, s => .cons r (Vals.append t s)
theorem Vals.take : ∀ {xs : List V} {us : List Value} (n : Nat), Vals xs us → Vals (xs.take n) (us.take n)
  | _, _, 0, _ => .nil
  | _, _, _ + 1, .nil => .nil
  | _, _, n + 1, .cons r t => .cons r (Vals.take n t)
theorem Vals.drop : ∀ {xs : List V} {us : List Value} (n : Nat), Vals xs us → Vals (xs.drop n) (us.drop n)
  | _, _, 0, r => r
  | _, _, _ + 1, .nil => .nil
  | _, _, n + 1, .cons _ t => Vals.drop n t
theorem Vals.none_of : ∀ {xs : List V} {us : List Value} {i : Nat}, Vals xs us → xs[i]? = none → us[i]? = none := fun {xs us i} r e => by
  have h1 := r.length
  have h2 : xs.length ≤ i := List.getElem?_eq_none_iff.mp e
  exact List.getElem?_eq_none_iff.mpr (by omega)
def RelO : Option V → Option Value → Prop
  | some v, some u => RelV v u
  | none, none => True
  | _, _ => False
def KV {κ : Type} : List (κ × V) → List (κ × Value) → Prop := Paired fun (p : κ × V) (q : κ × Value) => p.1 = q.1 ∧ RelV p.2 q.2
def kV : Key → V
  | .inl i => .int i
  | .inr x => .str x
inductive HO where
  | lst (xs : List V)
  | tup (xs : List V)
  | dK (kvs : List (Key × V)) | dT (kvs : List (List Key × V))
  | set (S : Int → Bool) (n : Nat)
  | ins (C dx : Addr) (fs : List (Str × V))
  | own (x : Addr)
  | xd (fs : List (Str × V))
  | met (f x : Addr)
  | rng (lo hi : Int)
  | frz (o : Obj) (u : HO)
  | tbl (ps : Array Value)
  | ext (φ : Heap → Prop)
abbrev Hp := Addr → Option HO
def upd (H : Hp) (a : Addr) (o : HO) : Hp := fun b => if b = a then some o else H b
theorem upd_same {H : Hp} {a : Addr} {o : HO} : upd H a o a = some o := by unfold upd; rw [if_pos rfl]
theorem upd_ne {H : Hp} {a b : Addr} {o : HO} (h : b ≠ a) : upd H a o b = H b := by unfold upd; rw [if_neg h]
theorem upd_upd {H : Hp} {a : Addr} {o u : HO} : upd (upd H a o) a u = upd H a u := by
  funext b; unfold upd; split <;> rfl
theorem ne_of {H : Hp} {a b : Addr} {o u : HO} (h : H a = some o) (h' : H b = some u) (d : o ≠ u) : a ≠ b := by
  intro e; subst e; rw [h] at h'; exact d (Option.some.inj h')
theorem ne_of_none {H : Hp} {a b : Addr} {o : HO} (h : H a = some o) (h' : H b = none) : a ≠ b := by
  intro e; subst e; rw [h] at h'; cases h'
section
variable (P : Program) (w : World)
def ObjOk (H : Hp) (h : Heap) (a : Addr) : HO → Prop
  | .lst xs => xs.length ≤ sizeLine ∧ ∃ (its : List Value) (n : Nat), Vals xs its ∧ h.get? a = some { cls := .type "list", data := .seq its.toArray n }
  | .tup xs => xs.length ≤ sizeLine ∧ ∃ its : List Value, Vals xs its ∧ IsTup h a its.toArray
  | .dK kvs => kvs.length ≤ sizeLine ∧ (a == sysModules) = false ∧ ∃ vs, KV kvs vs ∧ h.DictOf (mixKind P w) a vs
  | .dT kvs => kvs.length ≤ sizeLine ∧ (a == sysModules) = false ∧ ∃ xs : List (List Key × Addr × Value),
      Paired (fun (p : List Key × V) (q : List Key × Addr × Value) => p.1 = q.1 ∧ H q.2.1 = some (.tup (p.1.map kV)) ∧ RelV p.2 q.2.2) kvs xs ∧
      ∃ o es ep, h.get? a = some o ∧ o.ExactDict ∧ o.data = .dict es ep ∧ es.toList = xs.map (entryOfKey (tupleKind (mixKind P w))) ∧ (xs.map (·.1)).Nodup
  | .set S n => h.SetOf (intKind P w) a S n
  | .ins C dx fs => H dx = some (.own a) ∧ fs.length ≤ 1000 ∧ dx ≠ a ∧ h.get? a = some (PySem.W.instObj C dx) ∧
      ∃ mA, h.Ns1 dx mA ∧ (∀ f, RelO (fs.lookup f) (mA f)) ∧ PySem.Within mA (fs.map (·.1))
  | .own _ => ∃ o, h.get? a = some o
  | .xd fs => ∃ mA, h.Ns1 a mA ∧ ∀ f, RelO (fs.lookup f) (mA f)
  | .rng lo hi => ∃ t u v, h.get? a = some { cls := .type "range", data := .fields #[.int lo t, .int hi u, .int 1 v] }
  | .frz o u => h.get? a = some o ∧ ObjOk H h a u
  | .tbl ps => h.get? a = some { cls := .none, data := .fields ps }
  | .met f x => h.get? a = some (PySem.W.methodObj (.ref f) (.ref x))
  | .ext φ => φ h ∧ (∃ o, h.get? a = some o) ∧ ∀ h1 h2 : Heap, φ h1 → (∀ o, h1.get? a = some o → h2.get? a = some o) → φ h2
def HOk (H : Hp) (h : Heap) : Prop := ∀ a o, H a = some o → ObjOk P w H h a o
end
section
variable {P : Program} {w : World} {H H' : Hp} {h h' : Heap} {a : Addr} {o : HO}
theorem ObjOk.lt (x : ObjOk P w H h a o) : a < h.objs.size := by
  cases o with
  | lst xs => obtain ⟨_, _, _, _, e⟩ := x; exact Heap.lt_size e
  | tup xs => obtain ⟨_, _, _, p⟩ := x; exact p.lt
  | dK kvs => obtain ⟨_, _, _, _, o, _, _, e, _⟩ := x; exact Heap.lt_size e
  | dT kvs => obtain ⟨_, _, _, _, o, _, _, e, _⟩ := x; exact Heap.lt_size e
  | set S n => obtain ⟨o, _, _, _, e, _⟩ := x; exact Heap.lt_size e
  | ins C dx fs => obtain ⟨_, _, _, e, _⟩ := x; exact Heap.lt_size e
  | own y => obtain ⟨_, e⟩ := x; exact Heap.lt_size e
  | xd fs => obtain ⟨_, ⟨_, _, _, e, _⟩, _⟩ := x; exact Heap.lt_size e
  | rng lo hi => obtain ⟨_, _, _, e⟩ := x; exact Heap.lt_size e
  | frz ob u => obtain ⟨e, _⟩ := x; exact Heap.lt_size e
  | tbl ps => exact Heap.lt_size (show h.get? a = some _ from x)
  | met f y => exact Heap.lt_size (show h.get? a = some _ from x)
  | ext φ => obtain ⟨_, ⟨_, e⟩, _⟩ := x; exact Heap.lt_size e
theorem Paired.mapP {α β : Type} {F G : α → β → Prop} : ∀ {l₁ : List α} {l₂ : List β}, Paired F l₁ l₂ → (∀ a b, F a b → G a b) → Paired G l₁ l₂
  | _, _, .nil, _ => .nil
  | _, _, .cons r t, f => .cons (f _ _ r) (Paired.mapP t f)
theorem ObjOk.stay (x : ObjOk P w H h a o) (k : ∀ b u, (b = a ∨ H b = some (.own a)) → h.get? b = some u → h'.get? b = some u)
    (ho : ∀ b, H b = some (.own a) → H' b = some (.own a)) (ht : ∀ b xs, H b = some (.tup xs) → H' b = some (.tup xs)) : ObjOk P w H' h' a o := by
  induction o with
  | lst xs => obtain ⟨z, its, n, r, e⟩ := x; exact ⟨z, its, n, r, k _ _ (.inl rfl) e⟩
  | tup xs => obtain ⟨z, its, r, ob, e, c⟩ := x; exact ⟨z, its, r, ob, k _ _ (.inl rfl) e, c⟩
  | dK kvs => obtain ⟨z, y, vs, r, ob, es, ep, e, c⟩ := x; exact ⟨z, y, vs, r, ob, es, ep, k _ _ (.inl rfl) e, c⟩
  | dT kvs =>
    obtain ⟨z, y, xs, r, ob, es, ep, e, c⟩ := x
    exact ⟨z, y, xs, Paired.mapP r fun p q z => ⟨z.1, ht _ _ z.2.1, z.2.2⟩, ob, es, ep, k _ _ (.inl rfl) e, c⟩
  | set S n => obtain ⟨ob, es, ep, t, e, c⟩ := x; exact ⟨ob, es, ep, t, k _ _ (.inl rfl) e, c⟩
  | ins C dx fs =>
    obtain ⟨d, z, ne, e, mA, ⟨od, es, ep, e2, c⟩, r⟩ := x
    exact ⟨ho _ d, z, ne, k _ _ (.inl rfl) e, mA, ⟨od, es, ep, k _ _ (.inr d) e2, c⟩, r⟩
  | own y => obtain ⟨ob, e⟩ := x; exact ⟨ob, k _ _ (.inl rfl) e⟩
  | xd fs => obtain ⟨mA, ⟨od, es, ep, e, c⟩, r⟩ := x; exact ⟨mA, ⟨od, es, ep, k _ _ (.inl rfl) e, c⟩, r⟩
  | rng lo hi => obtain ⟨t, u, v, e⟩ := x; exact ⟨t, u, v, k _ _ (.inl rfl) e⟩
  | frz ob u ih => obtain ⟨e, q⟩ := x; exact ⟨k _ _ (.inl rfl) e, ih q⟩
  | tbl ps =>
    have e : h.get? a = some { cls := .none, data := .fields ps } := x
    show h'.get? a = some { cls := .none, data := .fields ps }
    exact k a _ (.inl rfl) e
  | met f y =>
    have e : h.get? a = some (PySem.W.methodObj (.ref f) (.ref y)) := x
    show h'.get? a = some (PySem.W.methodObj (.ref f) (.ref y))
    exact k a _ (.inl rfl) e
  | ext φ => obtain ⟨p, ⟨o, e⟩, st⟩ := x; exact ⟨st _ _ p fun o q => k _ _ (.inl rfl) q, ⟨o, k _ _ (.inl rfl) e⟩, st⟩
theorem HOk.lt (x : HOk P w H h) (e : H a = some o) : a < h.objs.size := (x a o e).lt
theorem HOk.fresh (x : HOk P w H h) (e : h.objs.size ≤ a) : H a = none := by
  cases q : H a with
  | none => rfl
  | some u => exact absurd (Nat.lt_of_lt_of_le (x.lt q) e) (Nat.lt_irrefl _)
theorem HOk.kept (x : HOk P w H h) (k : ∀ b u, h.get? b = some u → h'.get? b = some u) : HOk P w H h' := fun a o e =>
  (x a o e).stay (fun b u _ q => k b u q) (fun _ q => q) fun _ _ q => q
theorem HOk.laid (x : HOk P w H h) (k : ∀ b u, h.get? b = some u → h'.get? b = some u) (hp : h.objs.size ≤ a) (new : ObjOk P w (upd H a o) h' a o) : HOk P w (upd H a o) h' := fun b u e => by
  have hn := x.fresh hp
  by_cases hb : b = a
  · subst hb; rw [upd_same] at e; cases e; exact new
  · rw [upd_ne hb] at e
    exact (x b u e).stay (fun c v _ q => k c v q) (fun c q => by rw [upd_ne (ne_of_none q hn)]; exact q) fun c xs q => by rw [upd_ne (ne_of_none q hn)]; exact q
end
def Rd (H : Hp) (a : Addr) (u : HO) : Prop := H a = some u ∨ ∃ o, H a = some (.frz o u)
theorem Rd.of {H : Hp} {a : Addr} {u : HO} (h : H a = some u) : Rd H a u := .inl h
theorem Rd.ok {P : Program} {w : World} {H : Hp} {h : Heap} {a : Addr} {u : HO} (r : Rd H a u) (x : HOk P w H h) : ObjOk P w H h a u := by
  rcases r with r | ⟨o, r⟩
  · exact x a u r
  · obtain ⟨_, q⟩ := x a _ r
    exact q
def Mut : Option HO → Prop
  | some (.lst _) => True
  | some (.dK _) => True
  | some (.dT _) => True
  | some (.set _ _) => True
  | some (.ins _ _ _) => True
  | some (.ext _) => True
  | _ => False
section
variable {P : Program} {w : World} {H : Hp} {h h' : Heap} {x e : Addr} {o' : HO}
theorem HOk.write (ok : HOk P w H h) (mu : Mut (H x)) (he : e = x ∨ H e = some (.own x)) (k : ∀ b u, b ≠ e → h.get? b = some u → h'.get? b = some u) (heo : ∃ u, h'.get? e = some u)
    (new : ObjOk P w (upd H x o') h' x o') : HOk P w (upd H x o') h' := fun b u q => by
  have nown : ∀ c y, H c = some (.own y) → c ≠ x := fun c y r z => by subst z; rw [r] at mu; exact mu
  have ntup : ∀ c xs, H c = some (.tup xs) → c ≠ x := fun c xs r z => by subst z; rw [r] at mu; exact mu
  by_cases hb : b = x
  · subst hb; rw [upd_same] at q; cases q; exact new
  · rw [upd_ne hb] at q
    by_cases hbe : b = e
    · have q' : H b = some (.own x) := by
        rcases he with z | z
        · exact absurd (hbe.trans z) hb
        · rw [hbe]; exact z
      rw [q] at q'; cases q'
      obtain ⟨v, hv⟩ := heo
      exact ⟨v, by rw [hbe]; exact hv⟩
    · refine (ok b u q).stay (fun c v hc r => k c v ?_ r) (fun c r => by rw [upd_ne (nown c b r)]; exact r) fun c xs r => by rw [upd_ne (ntup c xs r)]; exact r
      rcases hc with rfl | hc
      · exact hbe
      · rintro rfl
        rcases he with z | z
        · exact nown c b hc z
        · rw [hc] at z; cases z; exact hb rfl
end
structure Un (fs ex : List Addr) (H H' : Hp) (h h' : Heap) : Prop where
  keep : ∀ b o, h.get? b = some o → H b = none → b ∉ fs → b ∉ ex → h'.get? b = some o
  slot : ∀ b o, h.get? b = some o → H b = none → b ∈ fs → b ∉ ex → ∃ sl, h'.get? b = some { o with slots := sl }
  free : ∀ b o, h.get? b = some o → H b = none → b ∉ ex → H' b = none
  there : ∀ b o, h.get? b = some o → b ∉ ex → ∃ o', h'.get? b = some o'
  tups : ∀ b xs, H b = some (.tup xs) → H' b = some (.tup xs)
  frzs : ∀ b o u, H b = some (.frz o u) → H' b = some (.frz o u)
  tbls : ∀ b ps, H b = some (.tbl ps) → ∃ more, H' b = some (.tbl (ps ++ more))
section
variable {fs fs' ex ex' : List Addr} {H H1 H2 : Hp} {h h1 h2 h' : Heap} {a x e : Addr} {o : HO}
theorem Un.any (u : Un fs ex H H1 h h1) {b : Addr} {ob : Obj} (q : h.get? b = some ob) (n : H b = none) (hx : b ∉ ex) : ∃ sl, h1.get? b = some { ob with slots := sl } := by
  by_cases hb : b ∈ fs
  · exact u.slot b ob q n hb hx
  · exact ⟨ob.slots, u.keep b ob q n hb hx⟩
theorem Un.trans (a : Un fs ex H H1 h h1) (b : Un fs ex H1 H2 h1 h2) : Un fs ex H H2 h h2 where
  keep := fun c ob q n hc hx => b.keep c ob (a.keep c ob q n hc hx) (a.free c ob q n hx) hc hx
  slot := fun c ob q n hc hx => by
    obtain ⟨sl, e1⟩ := a.slot c ob q n hc hx
    obtain ⟨sl', e2⟩ := b.slot c _ e1 (a.free c ob q n hx) hc hx
    exact ⟨sl', e2⟩
  free := fun c ob q n hx => by
    obtain ⟨o', e1⟩ := a.there c ob q hx
    exact b.free c o' e1 (a.free c ob q n hx) hx
  there := fun c ob q hx => by
    obtain ⟨o', e1⟩ := a.there c ob q hx
    exact b.there c o' e1 hx
  tups := fun c xs q => b.tups c xs (a.tups c xs q)
  frzs := fun c ob xs q => b.frzs c ob xs (a.frzs c ob xs q)
  tbls := fun c ps q => by
    obtain ⟨m1, e1⟩ := a.tbls c ps q
    obtain ⟨m2, e2⟩ := b.tbls c _ e1
    exact ⟨m1 ++ m2, by rw [e2, Array.append_assoc]⟩
theorem Un.kept (k : ∀ b u, h.get? b = some u → h'.get? b = some u) : Un fs ex H H h h' :=
  ⟨fun b ob q _ _ _ => k b ob q, fun b ob q _ _ _ => ⟨ob.slots, k b ob q⟩, fun _ _ _ n _ => n, fun b ob q _ => ⟨ob, k b ob q⟩, fun _ _ q => q, fun _ _ _ q => q, fun _ ps q => ⟨#[], by rw [q]; simp⟩⟩
theorem Un.refl : Un fs ex H H h h := Un.kept fun _ _ q => q
theorem Un.laid (k : ∀ b u, h.get? b = some u → h'.get? b = some u) (hp : h.objs.size ≤ a) (hn : H a = none) : Un fs ex H (upd H a o) h h' where
  keep := fun b u q _ _ _ => k b u q
  slot := fun b u q _ _ _ => ⟨u.slots, k b u q⟩
  free := fun b u q n _ => by rw [upd_ne (Nat.ne_of_lt (Nat.lt_of_lt_of_le (Heap.lt_size q) hp))]; exact n
  there := fun b u q _ => ⟨u, k b u q⟩
  tups := fun b xs q => by rw [upd_ne (ne_of_none q hn)]; exact q
  frzs := fun b u xs q => by rw [upd_ne (ne_of_none q hn)]; exact q
  tbls := fun b ps q => ⟨#[], by rw [upd_ne (ne_of_none q hn), q]; simp⟩
theorem Un.write (mu : Mut (H x)) (he : e = x ∨ H e = some (.own x)) (k : ∀ b u, b ≠ e → h.get? b = some u → h'.get? b = some u) (heo : ∃ u, h'.get? e = some u) : Un fs ex H (upd H x o) h h' := by
  have hx : ∀ b, H b = none → b ≠ x := fun b n z => by subst z; rw [n] at mu; exact mu
  have hb : ∀ b, H b = none → b ≠ e := fun b n z => by
    subst z
    rcases he with r | r
    · exact hx b n r
    · rw [n] at r; cases r
  have hm : ∀ b u, H b = some u → ¬ Mut (some u) → b ≠ x := fun b u q nm z => by subst z; rw [q] at mu; exact nm mu
  refine ⟨fun b u q n _ _ => k b u (hb b n) q, fun b u q n _ _ => ⟨u.slots, k b u (hb b n) q⟩, fun b u q n _ => by rw [upd_ne (hx b n)]; exact n, fun b u q _ => ?_,
    fun b xs q => by rw [upd_ne (hm b _ q fun z => z)]; exact q, fun b u xs q => by rw [upd_ne (hm b _ q fun z => z)]; exact q, fun b ps q => ⟨#[], by rw [upd_ne (hm b _ q fun z => z), q]; simp⟩⟩
  by_cases hbe : b = e
  · subst hbe; exact heo
  · exact ⟨u, k b u hbe q⟩
theorem Un.mono (u : Un fs ex H H1 h h1) (hs : ∀ b ∈ fs, b ∈ fs') (hx : ∀ b ∈ ex, b ∈ ex') : Un fs' ex' H H1 h h1 :=
  ⟨fun b ob q n hb he => u.keep b ob q n (fun z => hb (hs b z)) fun z => he (hx b z), fun _ _ q n _ he => u.any q n fun z => he (hx _ z), fun b ob q n he => u.free b ob q n fun z => he (hx b z), fun b ob q he => u.there b ob q fun z => he (hx b z), u.tups, u.frzs, u.tbls⟩
end
def trk (h : Heap) (H : Hp) : List Addr := (List.range h.objs.size).filter fun a => (H a).isSome
def hidT (h : Heap) (H : Hp) : Heap := PySem.W.hideAll h (trk h H)
theorem hidT_size (h : Heap) (H : Hp) : (hidT h H).objs.size = h.objs.size := PySem.W.hideAll_size _ _
theorem hidT_get {h : Heap} {H : Hp} {b : Addr} {o : Obj} (e : h.get? b = some o) (n : H b = none) : (hidT h H).get? b = some o :=
  PySem.W.hideAll_get _ e fun hm => by
    have q : (H b).isSome = true := (List.mem_filter.mp hm).2
    rw [n] at q; simp at q
theorem of_hidT {h : Heap} {H : Hp} {b : Addr} {o : Obj} (e : (hidT h H).get? b = some o) : h.get? b = some o ∧ H b = none := by
  have e' : h.get? b = some o := PySem.W.of_hideAll (trk h H) e
  refine ⟨e', ?_⟩
  cases q : H b with
  | none => rfl
  | some x =>
    have hm : b ∈ trk h H := List.mem_filter.mpr ⟨List.mem_range.mpr (Heap.lt_size e'), by simp [q]⟩
    have z : (hidT h H).get? b = none := PySem.W.hideAll_none (trk h H) hm
    rw [z] at e; cases e
def allNews (g h : Heap) (L : Addr) : List (Addr × Obj) := (List.range h.objs.size).filterMap fun a => if a = L ∨ (g.get? a).isSome = true then none else (h.get? a).map fun o => (a, o)
def rest (g h : Heap) (L d : Addr) : List (Addr × Obj) := (allNews g h L).filter fun p => decide (p.1 ≠ d)
end L2
namespace L2
open PySem PySem.Spec PyProof.Rows
structure Mod (K : PySem.W.Frag) (mg : Str → Option Value) (base : Heap) : Prop where
  kin : K.In base
  glob : base.Ns mainGlobals mg
  blt : ∃ mb, base.Ns builtinsNs mb ∧ ∀ x : Str, x ≠ "__name__" → mb x = bootBuiltins x
  nolimit : base.NoLimit
structure Cx where
  prog : Program
  w : World
  K : PySem.W.Frag
  mg : Str → Option Value
  base : Heap
  A : Around
  N : List Str
  s₀ : Shared
  H₀ : Hp
  env : Env
  outer : List Env
  stack : List Env
  ex : List Addr
  fn : Str → Bool
  calm : Bool
  pn : List (Addr × Obj)
  xe : Value → Shared → Prop
def frs (l : List Env) : List Addr := l.filterMap (·.frame)
abbrev Cx.fs (X : Cx) : List Addr := frs X.outer
def Vis (sc : Scope) (x : Str) : Prop := sc.names.lookup x = some .local ∨ sc.names.lookup x = some .cell ∨ sc.names.lookup x = some .free
def Loc (sc : Scope) (x : Str) : Prop := sc.names.lookup x = some .local ∨ sc.names.lookup x = some .cell
def Look (env : Env) (h : Heap) (m : Str → Option Value) (x : Str) (u : Value) : Prop :=
  (env.kindOf x = some .local ∧ m x = some u) ∨ ((env.kindOf x = some .cell ∨ env.kindOf x = some .free) ∧ ∃ c, env.cells.lookup x = some c ∧ h.IsCell c (some u))
structure Cx.Ok (X : Cx) : Prop where
  mod : Mod X.K X.mg X.base
  kind : X.env.scope.kind = .function
  glob : X.env.globals = mainGlobals
  blt : X.env.builtins = builtinsNs
  above : X.s₀.heap.objs.size ≤ X.env.locals
  inj : ∀ x y c, X.env.cells.lookup x = some c → X.env.cells.lookup y = some c → x = y
  has : ∀ x, (X.env.kindOf x = some .cell ∨ X.env.kindOf x = some .free) → ∃ c, X.env.cells.lookup x = some c
  cab : ∀ x c, X.fn x = true → X.env.cells.lookup x = some c → X.s₀.heap.objs.size ≤ c
  hd : X.calm = true → X.A.handled = none
  frames : X.A.frames = some X.stack
  stk : X.stack = X.outer ∨ (X.stack = X.env :: X.outer ∧ X.env.frame = some X.env.locals)
  exf : ∀ b ∈ X.ex, b ≠ X.env.locals ∧ ∀ x c, X.env.cells.lookup x = some c → c ≠ b
  bs : ∀ b o, X.base.get? b = some o → X.s₀.heap.get? b = some o ∧ X.H₀ b = none
  bsz : X.base.objs.size ≤ X.s₀.heap.objs.size
  noex : ∀ b o, X.base.get? b = some o → b ∉ X.ex
  exfs : ∀ b ∈ X.ex, b ∉ X.fs
  funs : X.s₀.heap.FunFrames X.base X.outer
  frf : ∀ b ∈ X.fs, X.H₀ b = none
structure Inv (X : Cx) (pins : List (Addr × Obj)) (σ : List (Option V)) (H : Hp) (s : Shared) : Prop where
  ok : X.Ok
  os : s.os = X.s₀.os
  bare : AllBare s.gens
  base : Un X.fs X.ex X.H₀ H X.s₀.heap s.heap
  loc : ∃ m, s.heap.Ns X.env.locals m ∧ ∀ (i : Nat) (x : Str) (v : V), X.N[i]? = some x → σ[i]? = some (some v) → Vis X.env.scope x → ∃ u, RelV v u ∧ Look X.env s.heap m x u
  cell : ∀ x c, X.env.cells.lookup x = some c → ∃ v, s.heap.IsCell c v
  free : H X.env.locals = none
  freeC : ∀ x c, X.env.cells.lookup x = some c → H c = none
  pin : ∀ p ∈ X.pn ++ pins, s.heap.get? p.1 = some p.2 ∧ H p.1 = none ∧ p.1 ≠ X.env.locals ∧ p.1 ∉ X.fs ∧ ∀ v, p.2.data ≠ .cell v
  hok : HOk X.prog X.w H s.heap
  len : σ.length = X.N.length
section
variable {X : Cx} {pins : List (Addr × Obj)} {σ : List (Option V)} {H H' : Hp} {s : Shared} {h' : Heap}
theorem Cx.Ok.nofr (ok : X.Ok) {b : Addr} {o : Obj} (e : X.base.get? b = some o) : b ∉ X.fs := fun hb => by
  have := (ok.funs.mem hb).1
  rw [e] at this; cases this
theorem Inv.bs (I : Inv X pins σ H s) : ∀ b o, X.base.get? b = some o → s.heap.get? b = some o ∧ H b = none := fun b o e =>
  ⟨I.base.keep b o (I.ok.bs b o e).1 (I.ok.bs b o e).2 (I.ok.nofr e) (I.ok.noex b o e), I.base.free b o (I.ok.bs b o e).1 (I.ok.bs b o e).2 (I.ok.noex b o e)⟩
theorem Inv.bk (I : Inv X pins σ H s) : ∀ b o, X.base.get? b = some o → s.heap.get? b = some o := fun b o e => (I.bs b o e).1
theorem Inv.mod (I : Inv X pins σ H s) : Mod X.K X.mg X.base := I.ok.mod
theorem Inv.kIn (I : Inv X pins σ H s) : X.K.In s.heap := I.ok.mod.kin.keeps I.bk
theorem Inv.nolimit (I : Inv X pins σ H s) : s.heap.NoLimit := I.ok.mod.nolimit.keeps I.bk
theorem Inv.fr (I : Inv X pins σ H s) : ∃ m, Fr X.base X.env.locals s.heap m :=
  let ⟨m, hn, _⟩ := I.loc
  ⟨m, hn, I.bk, Nat.le_trans I.ok.bsz I.ok.above⟩
theorem Inv.lt (I : Inv X pins σ H s) : X.env.locals < s.heap.objs.size := let ⟨_, hn, _⟩ := I.loc; hn.lt
theorem Inv.sz (I : Inv X pins σ H s) : X.s₀.heap.objs.size ≤ s.heap.objs.size := Nat.le_trans I.ok.above (Nat.le_of_lt I.lt)
theorem Inv.nofs (I : Inv X pins σ H s) {a : Addr} (h : s.heap.objs.size ≤ a) : a ∉ X.fs := fun hb => by
  obtain ⟨_, o, ho, _⟩ := I.ok.funs.mem hb
  exact absurd (Nat.lt_of_lt_of_le (Heap.lt_size ho) (Nat.le_trans I.sz h)) (Nat.lt_irrefl _)
theorem Inv.cne (I : Inv X pins σ H s) : ∀ x c, X.env.cells.lookup x = some c → c ≠ X.env.locals := fun x c e z => by
  obtain ⟨v, o, ho, hd⟩ := I.cell x c e
  obtain ⟨m, ⟨o', es, ep, ho', hd', _⟩, _⟩ := I.loc
  rw [z, ho'] at ho; cases ho; rw [hd'] at hd; cases hd
theorem Inv.funs (I : Inv X pins σ H s) : s.heap.FunFrames X.base X.outer := by
  have all : ∀ (l : List Env), (∀ b ∈ frs l, b ∈ X.fs) → X.s₀.heap.FunFrames X.base l → s.heap.FunFrames X.base l := by
    intro l
    induction l with
    | nil => intro _ _; trivial
    | cons env r ih =>
      intro hs hl
      obtain ⟨hk, ⟨L, o, hf, hn, ho, hd⟩, hr⟩ := hl
      have hL : L ∈ X.fs := hs L (by unfold frs; rw [List.filterMap_cons, hf]; exact List.mem_cons_self)
      obtain ⟨sl, e⟩ := I.base.slot L o ho (I.ok.frf L hL) hL fun z => I.ok.exfs L z hL
      exact ⟨hk, ⟨L, _, hf, hn, e, hd⟩, ih (fun b hb => hs b (by unfold frs; rw [List.filterMap_cons, hf]; exact List.mem_cons_of_mem _ hb)) hr⟩
  exact all X.outer (fun _ hb => hb) I.ok.funs
theorem Inv.stack (I : Inv X pins σ H s) : s.heap.FunFrames X.base X.stack := by
  rcases I.ok.stk with e | ⟨e, hf⟩
  · rw [e]; exact I.funs
  · rw [e]
    obtain ⟨m, hn, _⟩ := I.loc
    refine .cons (by rw [I.ok.kind]; decide) hf hn ?_ I.funs
    exact Heap.get?_none_of_le (Nat.le_trans I.ok.bsz I.ok.above)
theorem Inv.stkSub (I : Inv X pins σ H s) : ∀ b ∈ frs X.stack, b ∈ X.env.locals :: X.fs := fun b hb => by
  rcases I.ok.stk with e | ⟨e, hf⟩
  · rw [e] at hb; exact List.mem_cons_of_mem _ hb
  · rw [e] at hb
    unfold frs at hb
    rw [List.filterMap_cons, hf] at hb
    exact hb
theorem Inv.stkFree (I : Inv X pins σ H s) : ∀ b ∈ frs X.stack, H b = none := fun b hb => by
  rcases List.mem_cons.mp (I.stkSub b hb) with e | hb
  · rw [e]; exact I.free
  · obtain ⟨_, o, ho, _⟩ := I.ok.funs.mem hb
    exact I.base.free b o ho (I.ok.frf b hb) fun z => I.ok.exfs b z hb
theorem Inv.step {g' : Array GenState} {t' : Nat} {d' : Drawn} {ch : List Addr} (I : Inv X pins σ H s)
    (hch : ∀ b ∈ ch, (b ∈ X.ex ∨ X.s₀.heap.objs.size ≤ b) ∧ b ≠ X.env.locals ∧ (∀ x c, X.env.cells.lookup x = some c → c ≠ b) ∧ ∀ p ∈ X.pn ++ pins, p.1 ≠ b)
    (keep : ∀ b o, b ≠ X.env.locals → b ∉ X.fs → b ∉ ch → s.heap.get? b = some o → H b = none → h'.get? b = some o)
    (slot : ∀ b o, b ≠ X.env.locals → b ∈ X.fs → b ∉ ch → s.heap.get? b = some o → H b = none → ∃ sl, h'.get? b = some { o with slots := sl }) (free : ∀ b o, b ∉ ch → s.heap.get? b = some o → H b = none → H' b = none)
    (there : ∀ b o, b ∉ ch → s.heap.get? b = some o → ∃ o', h'.get? b = some o')
    (tups : ∀ b xs, H b = some (.tup xs) → H' b = some (.tup xs)) (frzs : ∀ b o u, H b = some (.frz o u) → H' b = some (.frz o u)) (tbls : ∀ b ps, H b = some (.tbl ps) → ∃ more, H' b = some (.tbl (ps ++ more)))
    (ns : ∀ m, s.heap.Ns X.env.locals m → h'.Ns X.env.locals m) (hok : HOk X.prog X.w H' h') (hg : AllBare g') :
    Inv X pins σ H' { s with heap := h', gens := g', drawn := d', toks := t' } := by
  have neL : ∀ b o, X.s₀.heap.get? b = some o → b ≠ X.env.locals := fun b o e => Nat.ne_of_lt (Nat.lt_of_lt_of_le (Heap.lt_size e) I.ok.above)
  have neC : ∀ b o, X.s₀.heap.get? b = some o → b ∉ X.ex → b ∉ ch := fun b o e hx hb => by
    rcases (hch b hb).1 with z | z
    · exact hx z
    · exact absurd (Nat.lt_of_lt_of_le (Heap.lt_size e) z) (Nat.lt_irrefl _)
  have cellK : ∀ x c, X.env.cells.lookup x = some c → ∀ v, s.heap.IsCell c v → h'.IsCell c v := fun x c e v ⟨o, ho, hd⟩ => by
    have nch : c ∉ ch := fun z => (hch c z).2.2.1 x c e rfl
    by_cases hc : c ∈ X.fs
    · obtain ⟨sl, q⟩ := slot c o (I.cne x c e) hc nch ho (I.freeC x c e)
      exact ⟨_, q, hd⟩
    · exact ⟨o, keep c o (I.cne x c e) hc nch ho (I.freeC x c e), hd⟩
  refine ⟨I.ok, I.os, hg, ⟨fun b o e n hb hx => ?_, fun b o e n hb hx => ?_, fun b o e n hx => ?_, fun b o e hx => ?_, fun b xs e => tups b xs (I.base.tups b xs e), fun b o xs e => frzs b o xs (I.base.frzs b o xs e), fun b ps e => ?_⟩, ?_, fun x c e => ?_, ?_, fun x c e => ?_, fun p hp => ?_, hok, I.len⟩
  · exact keep b o (neL b o e) hb (neC b o e hx) (I.base.keep b o e n hb hx) (I.base.free b o e n hx)
  · obtain ⟨sl, e1⟩ := I.base.slot b o e n hb hx
    obtain ⟨sl', e2⟩ := slot b _ (neL b o e) hb (neC b o e hx) e1 (I.base.free b o e n hx)
    exact ⟨sl', e2⟩
  · obtain ⟨o', e1⟩ := I.base.there b o e hx
    exact free b o' (neC b o e hx) e1 (I.base.free b o e n hx)
  · obtain ⟨o', e1⟩ := I.base.there b o e hx
    exact there b o' (neC b o e hx) e1
  · obtain ⟨m1, e1⟩ := I.base.tbls b ps e
    obtain ⟨m2, e2⟩ := tbls b _ e1
    exact ⟨m1 ++ m2, by rw [e2, Array.append_assoc]⟩
  · obtain ⟨m, hn, hl⟩ := I.loc
    refine ⟨m, ns m hn, fun i x v e1 e2 e3 => ?_⟩
    obtain ⟨u, r, l⟩ := hl i x v e1 e2 e3
    refine ⟨u, r, ?_⟩
    rcases l with l | ⟨k, c, e, z⟩
    · exact .inl l
    · exact .inr ⟨k, c, e, cellK x c e _ z⟩
  · obtain ⟨v, z⟩ := I.cell x c e
    exact ⟨v, cellK x c e v z⟩
  · obtain ⟨m, ⟨o, _, _, ho, _⟩, _⟩ := I.loc
    exact free _ o (fun z => (hch _ z).2.1 rfl) ho I.free
  · obtain ⟨v, o, ho, hd⟩ := I.cell x c e
    exact free c o (fun z => (hch c z).2.2.1 x c e rfl) ho (I.freeC x c e)
  · obtain ⟨e, n, ne, nf, d⟩ := I.pin p hp
    have nch : p.1 ∉ ch := fun z => (hch p.1 z).2.2.2 p hp rfl
    exact ⟨keep p.1 p.2 ne nf nch e n, free p.1 p.2 nch e n, ne, nf, d⟩
theorem Inv.un {t' : Nat} (I : Inv X pins σ H s) (u : Un X.fs [] H H' s.heap h') (hok : HOk X.prog X.w H' h') : Inv X pins σ H' { s with heap := h', toks := t' } := by
  obtain ⟨m, ⟨o, es, ep, ho, r⟩, _⟩ := id I.loc
  obtain ⟨sl, hL⟩ := u.any ho I.free (by simp)
  exact I.step (g' := s.gens) (d' := s.drawn) (ch := []) (fun _ z => nomatch z) (fun b o _ hb _ e n => u.keep b o e n hb (by simp)) (fun b o _ hb _ e n => u.slot b o e n hb (by simp)) (fun b o _ e n => u.free b o e n (by simp)) (fun b o _ e => u.there b o e (by simp)) u.tups u.frzs u.tbls (fun m' hm => by
    obtain ⟨o', es', ep', ho', r'⟩ := hm
    rw [ho] at ho'; cases ho'
    exact ⟨_, es', ep', hL, r'⟩) hok I.bare
theorem Inv.call {g' : Array GenState} {t' : Nat} {d' : Drawn} {ch : List Addr} (I : Inv X pins σ H s) (u : Un (frs X.stack) ch H H' s.heap h') (hok : HOk X.prog X.w H' h') (hg : AllBare g')
    (hch : ∀ b ∈ ch, (b ∈ X.ex ∨ X.s₀.heap.objs.size ≤ b) ∧ b ≠ X.env.locals ∧ (∀ x c, X.env.cells.lookup x = some c → c ≠ b) ∧ ∀ p ∈ X.pn ++ pins, p.1 ≠ b) :
    Inv X pins σ H' { s with heap := h', gens := g', drawn := d', toks := t' } := by
  obtain ⟨m, ⟨o, es, ep, ho, r⟩, _⟩ := id I.loc
  obtain ⟨sl, hL⟩ := u.any ho I.free fun z => (hch _ z).2.1 rfl
  exact I.step (ch := ch) hch (fun b o hL hb hc e n => u.keep b o e n (fun z => (List.mem_cons.mp (I.stkSub b z)).elim hL hb) hc) (fun b o _ _ hc e n => u.any e n hc) (fun b o hc e n => u.free b o e n hc) (fun b o hc e => u.there b o e hc) u.tups u.frzs u.tbls (fun m' hm => by
    obtain ⟨o', es', ep', ho', r'⟩ := hm
    rw [ho] at ho'; cases ho'
    exact ⟨_, es', ep', hL, r'⟩) hok hg
theorem Inv.turned {t' : Nat} {it : Addr} (I : Inv X pins σ H s) (k : ∀ b o, b ≠ it → s.heap.get? b = some o → h'.get? b = some o) (hn : H it = none) (hL : it ≠ X.env.locals)
    (h1 : it ∈ X.ex ∨ X.s₀.heap.objs.size ≤ it) (h2 : ∀ x c, X.env.cells.lookup x = some c → c ≠ it) (h3 : ∀ p ∈ X.pn ++ pins, p.1 ≠ it) : Inv X pins σ H { s with heap := h', toks := t' } := by
  have nit : ∀ b u, H b = some u → b ≠ it := fun b u e z => by rw [z, hn] at e; cases e
  refine I.step (g' := s.gens) (d' := s.drawn) (ch := [it]) (fun b hb => ?_) (fun b o _ _ hc e _ => k b o (fun z => hc (by simp [z])) e) (fun b o _ _ hc e _ => ⟨o.slots, k b o (fun z => hc (by simp [z])) e⟩) (fun _ _ _ _ n => n)
    (fun b o hc e => ⟨o, k b o (fun z => hc (by simp [z])) e⟩) (fun _ _ e => e) (fun _ _ _ e => e) (fun b ps e => ⟨#[], by rw [e]; simp⟩) (fun m hm => ?_) (fun b u e => ?_) I.bare
  · have e : b = it := by simpa using hb
    subst e
    exact ⟨h1, hL, h2, h3⟩
  · obtain ⟨o, es, ep, ho, r⟩ := hm
    exact ⟨o, es, ep, k _ o (Ne.symm hL) ho, r⟩
  · refine (I.hok b u e).stay (fun c v hc q => k c v ?_ q) (fun _ q => q) fun _ _ q => q
    rcases hc with z | z
    · rw [z]; exact nit b u e
    · exact nit c _ z
theorem Inv.tok (I : Inv X pins σ H s) (t : Nat) : Inv X pins σ H { s with toks := t } := I.un (h' := s.heap) (t' := t) Un.refl I.hok
theorem Inv.kept {t' : Nat} (I : Inv X pins σ H s) (k : ∀ b u, s.heap.get? b = some u → h'.get? b = some u) : Inv X pins σ H { s with heap := h', toks := t' } := I.un (Un.kept k) (I.hok.kept k)
theorem Inv.laid {a : Addr} {o : HO} {t' : Nat} (I : Inv X pins σ H s) (k : ∀ b u, s.heap.get? b = some u → h'.get? b = some u) (hp : s.heap.objs.size ≤ a) (new : ObjOk X.prog X.w (upd H a o) h' a o) :
    Inv X pins σ (upd H a o) { s with heap := h', toks := t' } := I.un (Un.laid k hp (I.hok.fresh hp)) (I.hok.laid k hp new)
theorem Inv.write {x e : Addr} {o : HO} {t' : Nat} (I : Inv X pins σ H s) (mu : Mut (H x)) (he : e = x ∨ H e = some (.own x)) (k : ∀ b u, b ≠ e → s.heap.get? b = some u → h'.get? b = some u) (heo : ∃ u, h'.get? e = some u)
    (new : ObjOk X.prog X.w (upd H x o) h' x o) : Inv X pins σ (upd H x o) { s with heap := h', toks := t' } := I.un (Un.write mu he k heo) (I.hok.write mu he k heo new)
theorem Inv.pins_of {pins' : List (Addr × Obj)} (I : Inv X pins σ H s) (h : ∀ p ∈ pins', s.heap.get? p.1 = some p.2 ∧ H p.1 = none ∧ p.1 ≠ X.env.locals ∧ p.1 ∉ X.fs ∧ ∀ v, p.2.data ≠ .cell v) : Inv X pins' σ H s :=
  ⟨I.ok, I.os, I.bare, I.base, I.loc, I.cell, I.free, I.freeC, fun p hp => (List.mem_append.mp hp).elim (fun z => I.pin p (List.mem_append_left _ z)) (h p), I.hok, I.len⟩
theorem nodup_ix {N : List Str} (hN : N.Nodup) {i j : Nat} {x : Str} (a : N[i]? = some x) (b : N[j]? = some x) : i = j := by
  obtain ⟨h1, e1⟩ := List.getElem?_eq_some_iff.mp a
  obtain ⟨h2, e2⟩ := List.getElem?_eq_some_iff.mp b
  exact (List.getElem_inj hN).mp (e1.trans e2.symm)
theorem store_ok2 {M : Model} {A : Around} {E : Value → Shared → Prop} {i : Nat} {x : Str} {v : V} {u : Value} {Q : Unit → Shared → Prop} (I : Inv X pins σ H s) (hN : X.N.Nodup) (hi : X.N[i]? = some x) (hx : Loc X.env.scope x) (r : RelV v u)
    (h : ∀ s', Inv X pins (σ.set i (some v)) H s' → (∃ a, Heap.SameBut a s.heap s'.heap ∧ (a = X.env.locals ∨ X.env.cells.lookup x = some a)) → Q () s') (hf : X.fn x = true ∨ X.env.scope.names.lookup x = some .local := by first | exact .inl rfl | exact .inr rfl | assumption) : wpAny M A (storeName X.env x u) Q E s := by
  obtain ⟨m, hn, hl⟩ := id I.loc
  have hcls : (X.env.scope.kind == .class || (X.env.scope.kind == .module && X.env.locals != X.env.globals)) = false := by rw [I.ok.kind]; rfl
  have hiσ : i < σ.length := by rw [I.len]; exact (List.getElem?_eq_some_iff.mp hi).1
  have cne := I.cne
  have tracked : ∀ {a : Addr} {h' : Heap}, (∃ o, s.heap.get? a = some o ∧ H a = none) → Heap.SameBut a s.heap h' → HOk X.prog X.w H h' := fun {a h'} ha hs b ob e => by
    obtain ⟨_, _, hfree⟩ := ha
    refine (I.hok b ob e).stay (fun c w' hc q => (hs.2 c ?_).trans q) (fun _ q => q) fun _ _ q => q
    rintro rfl
    rcases hc with rfl | hc
    · rw [hfree] at e; cases e
    · rw [hfree] at hc; cases hc
  rcases hx with hk | hk
  · refine wpAny_storeName_local hk hn (fun h' hn' hs => ?_) hcls
    obtain ⟨oL, _, _, hoL, _⟩ := id hn
    refine h _ ⟨I.ok, I.os, I.bare, ⟨fun b o e n hb hx => ?_, fun b o e n hb hx => ?_, I.base.free, fun b o e hx => ?_, I.base.tups, I.base.frzs, I.base.tbls⟩, ⟨_, hn', fun j y v' e1 e2 e3 => ?_⟩, fun y c e => ?_, I.free, I.freeC, fun p hp => ?_, tracked ⟨oL, hoL, I.free⟩ hs, by simpa using I.len⟩ ⟨_, hs, .inl rfl⟩
    · exact (hs.2 b (Nat.ne_of_lt (Nat.lt_of_lt_of_le (Heap.lt_size e) I.ok.above))).trans (I.base.keep b o e n hb hx)
    · obtain ⟨sl, e1⟩ := I.base.slot b o e n hb hx
      exact ⟨sl, (hs.2 b (Nat.ne_of_lt (Nat.lt_of_lt_of_le (Heap.lt_size e) I.ok.above))).trans e1⟩
    · obtain ⟨o', e1⟩ := I.base.there b o e hx
      exact ⟨o', (hs.2 b (Nat.ne_of_lt (Nat.lt_of_lt_of_le (Heap.lt_size e) I.ok.above))).trans e1⟩
    · by_cases hj : j = i
      · subst hj
        rw [hi] at e1; cases e1
        rw [List.getElem?_set_self hiσ] at e2
        cases e2
        exact ⟨u, r, .inl ⟨hk, by simp⟩⟩
      · rw [List.getElem?_set_ne (Ne.symm hj)] at e2
        obtain ⟨u', r', q⟩ := hl j y v' e1 e2 e3
        refine ⟨u', r', ?_⟩
        rcases q with ⟨k, e⟩ | ⟨k, c, e, z⟩
        · refine .inl ⟨k, ?_⟩
          have : y ≠ x := fun e => hj (nodup_ix hN e1 (e ▸ hi))
          simp [this, e]
        · exact .inr ⟨k, c, e, z.sameBut hs (cne y c e)⟩
    · obtain ⟨w', z⟩ := I.cell y c e
      exact ⟨w', z.sameBut hs (cne y c e)⟩
    · obtain ⟨e, n, ne, nf, d⟩ := I.pin p hp
      exact ⟨(hs.2 p.1 ne).trans e, n, ne, nf, d⟩
  · have hfn : X.fn x = true := by
      rcases hf with z | z
      · exact z
      · rw [z] at hk; cases hk
    obtain ⟨c, hc⟩ := I.ok.has x (.inl hk)
    obtain ⟨w', z⟩ := I.cell x c hc
    refine wpAny_storeName_cell I.ok.kind hk hc z (fun h' hc' hs => ?_)
    obtain ⟨oc, hoc, hocd⟩ := id z
    refine h { s with heap := h' } ⟨I.ok, I.os, I.bare, ⟨fun b o e n hb hx => ?_, fun b o e n hb hx => ?_, I.base.free, fun b o e hx => ?_, I.base.tups, I.base.frzs, I.base.tbls⟩, ⟨m, hn.sameBut hs (Ne.symm (cne x c hc)), fun j y v' e1 e2 e3 => ?_⟩, fun y c' e => ?_, I.free, I.freeC, fun p hp => ?_, tracked ⟨oc, hoc, I.freeC x c hc⟩ hs, by simpa using I.len⟩ ⟨c, hs, .inr hc⟩
    · exact (hs.2 b (Nat.ne_of_lt (Nat.lt_of_lt_of_le (Heap.lt_size e) (I.ok.cab x c hfn hc)))).trans (I.base.keep b o e n hb hx)
    · obtain ⟨sl, e1⟩ := I.base.slot b o e n hb hx
      exact ⟨sl, (hs.2 b (Nat.ne_of_lt (Nat.lt_of_lt_of_le (Heap.lt_size e) (I.ok.cab x c hfn hc)))).trans e1⟩
    · obtain ⟨o', e1⟩ := I.base.there b o e hx
      exact ⟨o', (hs.2 b (Nat.ne_of_lt (Nat.lt_of_lt_of_le (Heap.lt_size e) (I.ok.cab x c hfn hc)))).trans e1⟩
    · by_cases hj : j = i
      · subst hj
        rw [hi] at e1; cases e1
        rw [List.getElem?_set_self hiσ] at e2
        cases e2
        exact ⟨u, r, .inr ⟨.inl hk, c, hc, hc'⟩⟩
      · rw [List.getElem?_set_ne (Ne.symm hj)] at e2
        obtain ⟨u', r', q⟩ := hl j y v' e1 e2 e3
        refine ⟨u', r', ?_⟩
        rcases q with q | ⟨k, c', e, z'⟩
        · exact .inl q
        · refine .inr ⟨k, c', e, z'.sameBut hs ?_⟩
          rintro rfl
          exact hj (nodup_ix hN e1 (I.ok.inj _ _ _ e hc ▸ hi))
    · by_cases hcc : c' = c
      · subst hcc; exact ⟨_, hc'⟩
      · obtain ⟨w2, z2⟩ := I.cell y c' e
        exact ⟨w2, z2.sameBut hs hcc⟩
    · obtain ⟨e, n, ne, nf, d⟩ := I.pin p hp
      refine ⟨(hs.2 p.1 ?_).trans e, n, ne, nf, d⟩
      intro q
      rw [q, hoc] at e
      have q' : oc = p.2 := Option.some.inj e
      exact d w' (by rw [← q']; exact hocd)
theorem store_ok {M : Model} {A : Around} {E : Value → Shared → Prop} {i : Nat} {x : Str} {v : V} {u : Value} {Q : Unit → Shared → Prop} (I : Inv X pins σ H s) (hN : X.N.Nodup) (hi : X.N[i]? = some x) (hx : Loc X.env.scope x) (r : RelV v u)
    (h : ∀ s', Inv X pins (σ.set i (some v)) H s' → Q () s') (hf : X.fn x = true ∨ X.env.scope.names.lookup x = some .local := by first | exact .inl rfl | exact .inr rfl | assumption) : wpAny M A (storeName X.env x u) Q E s :=
  store_ok2 I hN hi hx r (fun s' I' _ => h s' I') hf
theorem Inv.call' {s' : Shared} {ch : List Addr} (I : Inv X pins σ H s) (ho : s'.os = s.os) (u : Un (frs X.stack) ch H H' s.heap s'.heap) (hok : HOk X.prog X.w H' s'.heap) (hg : AllBare s'.gens)
    (hch : ∀ b ∈ ch, (b ∈ X.ex ∨ X.s₀.heap.objs.size ≤ b) ∧ b ≠ X.env.locals ∧ (∀ x c, X.env.cells.lookup x = some c → c ≠ b) ∧ ∀ p ∈ X.pn ++ pins, p.1 ≠ b) : Inv X pins σ H' s' := by
  obtain ⟨h', g', d', t', o'⟩ := s'
  have e : o' = s.os := ho
  subst e
  exact I.call (g' := g') (t' := t') (d' := d') u hok hg hch
end
abbrev XK := Value → Option Addr → Hp → Prop
abbrev St := List (Option V)
abbrev VK := V → Hp → Prop
abbrev TE := St → Hp → VK → Prop
abbrev TT := St → Hp → (Bool → Hp → Prop) → Prop
abbrev TA := St → Hp → (List V → Hp → Prop) → Prop
structure Ends where
  nx : St → Hp → Prop
  rt : VK
  bk : St → Hp → Prop := fun _ _ => False
  ct : St → Hp → Prop := fun _ _ => False
abbrev TS := Ends → St → Hp → Prop
def EP (X : Cx) (pins : List (Addr × Obj)) (σ : St) (Q : VK) (u : Value) (s' : Shared) : Prop := ∃ v H', Inv X pins σ H' s' ∧ RelV v u ∧ Q v H'
def TP (X : Cx) (pins : List (Addr × Obj)) (σ : St) (Q : Bool → Hp → Prop) (b : Bool) (s' : Shared) : Prop := ∃ H', Inv X pins σ H' s' ∧ Q b H'
def AP (X : Cx) (pins : List (Addr × Obj)) (σ : St) (Q : List V → Hp → Prop) (us : List Value) (s' : Shared) : Prop := ∃ vs H', Inv X pins σ H' s' ∧ Vals vs us ∧ Q vs H'
def SP (X : Cx) (pins : List (Addr × Obj)) (D : Ends) (f : Flow) (s' : Shared) : Prop :=
  match f with
  | .next => ∃ σ' H', Inv X pins σ' H' s' ∧ D.nx σ' H'
  | .brk => ∃ σ' H', Inv X pins σ' H' s' ∧ D.bk σ' H'
  | .cont => ∃ σ' H', Inv X pins σ' H' s' ∧ D.ct σ' H'
  | .ret u => ∃ v σ' H', Inv X pins σ' H' s' ∧ RelV v u ∧ D.rt v H'
def PE (X : Cx) (e : Expr) (t : TE) : Prop :=
  ∀ (pins : List (Addr × Obj)) (s : Shared) (σ : St) (H : Hp) (Q : VK), Inv X pins σ H s → t σ H Q → wpAny (model X.prog X.w) X.A (eval e X.env) (EP X pins σ Q) X.xe s
def PT (X : Cx) (e : Expr) (t : TT) : Prop :=
  ∀ (pins : List (Addr × Obj)) (s : Shared) (σ : St) (H : Hp) (Q : Bool → Hp → Prop), Inv X pins σ H s → t σ H Q → wpAny (model X.prog X.w) X.A (isTrue e X.env (eval e X.env)) (TP X pins σ Q) X.xe s
def PW (X : Cx) (e : Expr) (t : TT) : Prop :=
  ∀ (whole : Sem Value) (pins : List (Addr × Obj)) (s : Shared) (σ : St) (H : Hp) (Q : Bool → Hp → Prop), Inv X pins σ H s → t σ H Q → wpAny (model X.prog X.w) X.A (isTrue e X.env whole) (TP X pins σ Q) X.xe s
theorem PW.pt {X : Cx} {e : Expr} {t : TT} (h : PW X e t) : PT X e t := h _
def PA (X : Cx) (es : List Expr) (t : TA) : Prop :=
  ∀ (pos : Pos) (pins : List (Addr × Obj)) (s : Shared) (σ : St) (H : Hp) (Q : List V → Hp → Prop), Inv X pins σ H s → t σ H Q → wpAny (model X.prog X.w) X.A (spliced (backTo pos (starEach es X.env))) (AP X pins σ Q) X.xe s
def PS (X : Cx) (st : Stmt) (t : TS) : Prop :=
  ∀ (pins : List (Addr × Obj)) (s : Shared) (σ : St) (H : Hp) (D : Ends), Inv X pins σ H s → t D σ H → wpAny (model X.prog X.w) X.A (exec st X.env) (SP X pins D) X.xe s
def PSs (X : Cx) (st : List Stmt) (t : TS) : Prop :=
  ∀ (pins : List (Addr × Obj)) (s : Shared) (σ : St) (H : Hp) (D : Ends), Inv X pins σ H s → t D σ H → wpAny (model X.prog X.w) X.A (execs st X.env) (SP X pins D) X.xe s
theorem thn {α : Type} {t : Sem α} {Q Q' : α → Shared → Prop} {M : Model} {A : Around} {E : Value → Shared → Prop} {s : Shared} (h : wpAny M A t Q E s) (hQ : ∀ a s, Q a s → Q' a s) : wpAny M A t Q' E s := wpAny_mono h hQ fun _ _ x => x
end L2
namespace L2
open PySem PySem.Spec PyProof.Rows
section
variable {X : Cx}
def tVar (i : Nat) : TE := fun σ H Q => ∃ v, σ[i]? = some (some v) ∧ Q v H
def tC (v : V) : TE := fun _ H Q => Q v H
theorem pe_var {i : Nat} {x : Str} {pos : Pos} (hN : X.N[i]? = some x) (hv : Vis X.env.scope x) (hd : (x == ("__debug__" : Str)) = false := by decide) (hcd : (x == ("__classdict__" : Str)) = false := by decide) : PE X (.Name x pos) (tVar i) := by
  intro pins s σ H Q I h
  obtain ⟨v, e, h⟩ := h
  obtain ⟨m, hn, hl⟩ := I.loc
  obtain ⟨u, r, l⟩ := hl i x v hN e hv
  have fin : EP X pins σ Q u s := ⟨v, H, I, r, h⟩
  rcases l with ⟨hk, hm⟩ | ⟨hk, c, hc, hcell⟩
  · exact wpAny_Name (wpAny_loadName_local I.ok.kind hk hn hm fin) hd
  · rcases hk with hk | hk
    · exact wpAny_Name (wpAny_loadName_cell I.ok.kind hk hc hcell fin) hd
    · exact wpAny_Name (wpAny_loadName_free I.ok.kind hk hc hcell fin hcd) hd
theorem pe_int {i j pos} : PE X (.Constant (.int i) j pos) (tC (.int i)) := fun _ _ _ H _ I h => wpAny_Constant_int ⟨.int i, H, I.tok _, ⟨_, rfl⟩, h⟩
theorem pe_bl {b j pos} : PE X (.Constant (.bool b) j pos) (tC (.bl b)) := fun _ _ _ H _ I h => Constant_bool ⟨.bl b, H, I, rfl, h⟩
theorem pe_non {j pos} : PE X (.Constant .none j pos) (tC .non) := fun _ _ _ H _ I h => Constant_none ⟨.non, H, I, rfl, h⟩
theorem pe_str {x j pos} : PE X (.Constant (.str x) j pos) (tC (.str x)) := fun _ _ _ H _ I h => Calls.Constant_str ⟨.str x, H, I.tok _, ⟨_, rfl⟩, h⟩
def Gl (X : Cx) (x : Str) : Prop := X.env.kindOf x = some .globalImplicit
theorem ld_glob {E : Value → Shared → Prop} {pins : List (Addr × Obj)} {s : Shared} {σ : St} {H : Hp} {x : Str} {u : Value} {pos : Pos} {Q : Value → Shared → Prop} (I : Inv X pins σ H s) (hg : Gl X x) (hm : X.mg x = some u) (h : Q u s)
    (hd : (x == ("__debug__" : Str)) = false := by decide) : wpAny (model X.prog X.w) X.A (eval (.Name x pos) X.env) Q E s :=
  Calls.Name_function_global I.ok.kind hg (Calls.loadGlobal_global (by rw [I.ok.glob]; exact I.mod.glob.keeps I.bk) hm h) hd
theorem ld_blt {E : Value → Shared → Prop} {pins : List (Addr × Obj)} {s : Shared} {σ : St} {H : Hp} {x : Str} {u : Value} {pos : Pos} {Q : Value → Shared → Prop} (I : Inv X pins σ H s) (hg : Gl X x) (hm : X.mg x = none) (hv : bootBuiltins x = some u) (h : Q u s)
    (hn : x ≠ "__name__" := by decide) (hd : (x == ("__debug__" : Str)) = false := by decide) : wpAny (model X.prog X.w) X.A (eval (.Name x pos) X.env) Q E s := by
  obtain ⟨mb, h1, h2⟩ := I.mod.blt
  exact Calls.Name_function_global I.ok.kind hg (Calls.loadGlobal_builtin (by rw [I.ok.glob]; exact I.mod.glob.keeps I.bk) hm (by rw [I.ok.blt]; exact h1.keeps I.bk) ((h2 x hn).trans hv) h) hd
theorem pe_glob {x : Str} {v : V} {u : Value} {pos : Pos} (hg : Gl X x) (hm : X.mg x = some u) (r : RelV v u) (hd : (x == ("__debug__" : Str)) = false := by decide) : PE X (.Name x pos) (tC v) :=
  fun _ _ _ H _ I h => ld_glob I hg hm ⟨v, H, I, r, h⟩ hd
theorem pe_bltn {x : Str} {v : V} {u : Value} {pos : Pos} (hg : Gl X x) (hm : X.mg x = none) (hv : bootBuiltins x = some u) (r : RelV v u) (hn : x ≠ "__name__" := by decide) (hd : (x == ("__debug__" : Str)) = false := by decide) : PE X (.Name x pos) (tC v) :=
  fun _ _ _ H _ I h => ld_blt I hg hm hv ⟨v, H, I, r, h⟩ hn hd
variable {a b : Expr} {ta tb : TE} {pos : Pos}
def tB (t : TE) : TT := fun σ H Q => t σ H fun x H1 => ∃ c, x = .bl c ∧ Q c H1
theorem pt_val {e : Expr} {t : TE} (h : PE X e t) (he : ∀ whole, isTrue e X.env whole = (do let v ← whole; standAt e.pos; holding [v] (truthy v)) := by intro _; rfl) : PT X e (tB t) := by
  intro pins s σ H Q I hw
  refine isTrue_plain (thn (h pins s σ H _ I hw) fun v s1 ⟨x, H1, I1, r1, q1⟩ => ?_) (he _)
  obtain ⟨d, rfl, q⟩ := q1
  cases r1
  exact wpAny_truthy_bool ⟨H1, I1, q⟩
variable {tA tB' : TT} {rest : List Expr}
def tOr (t u : TT) : TT := fun σ H Q => t σ H fun c H1 => if c = true then Q true H1 else u σ H1 Q
def tNot (t : TT) : TT := fun σ H Q => t σ H fun c H1 => Q (!c) H1
theorem pw_or1 (ha : PT X a tA) : PW X (.BoolOp .Or [a] pos) tA := by
  intro wh pins s σ H Q I h
  refine isTrue_or (thn (ha pins s σ H Q I h) fun c s1 e => ?_)
  cases c with
  | false => exact isTrue_or_nil e
  | true => exact e
theorem pw_or (ha : PT X a tA) (hb : PW X (.BoolOp .Or (b :: rest) pos) tB') : PW X (.BoolOp .Or (a :: b :: rest) pos) (tOr tA tB') := by
  intro wh pins s σ H Q I h
  refine isTrue_or (thn (ha pins s σ H _ I h) fun c s1 ⟨H1, I1, q1⟩ => ?_)
  cases c with
  | true => exact ⟨H1, I1, q1⟩
  | false => exact hb wh pins s1 σ H1 Q I1 q1
theorem pt_not (ha : PT X a tA) : PT X (.UnaryOp .Not a pos) (tNot tA) := by
  intro pins s σ H Q I h
  exact isTrue_not (ha pins s σ H (fun c H1 => Q (!c) H1) I h)
def tAndV (ta tb : TE) : TE := fun σ H Q => ta σ H fun x H1 => ∃ c, x = .bl c ∧ if c = true then tb σ H1 Q else Q (.bl false) H1
def tNotV (ta : TE) : TE := fun σ H Q => ta σ H fun x H1 => ∃ c, x = .bl c ∧ Q (.bl (!c)) H1
theorem pe_one {op} {t : TE} (h : PE X a t) : PE X (.BoolOp op [a] pos) t := fun pins s σ H Q I hw => BoolOp_one (h pins s σ H Q I hw)
theorem pe_and (ha : PE X a ta) (hb : PE X (.BoolOp .And (b :: rest) pos) tb) : PE X (.BoolOp .And (a :: b :: rest) pos) (tAndV ta tb) := by
  intro pins s σ H Q I h
  refine BoolOp_and (thn (ha pins s σ H _ I h) fun v s1 ⟨x, H1, I1, r1, q1⟩ => ?_)
  obtain ⟨c, rfl, q1⟩ := q1
  cases r1
  refine wpAny_truthy_bool ?_
  cases c with
  | true => exact hb pins s1 σ H1 Q I1 q1
  | false => exact ⟨.bl false, H1, I1, rfl, q1⟩
theorem pe_not (ha : PE X a ta) : PE X (.UnaryOp .Not a pos) (tNotV ta) := by
  intro pins s σ H Q I h
  refine UnaryOp_ (thn (ha pins s σ H _ I h) fun v s1 ⟨x, H1, I1, r1, q1⟩ => ?_)
  obtain ⟨c, rfl, q1⟩ := q1
  cases r1
  exact not_of (wpAny_truthy_bool ⟨.bl (!c), H1, I1, rfl, q1⟩)
end
end L2
namespace L2
open PySem PySem.Spec PyProof.Rows
def SqL (K : PySem.W.Frag) (H : Hp) (a : Addr) (xs : List V) : Prop :=
  Rd H a (.lst xs) ∨
    ∃ (o : Obj) (its : Array Value) (n : Nat), K.lookup a = some o ∧ o.cls = .type "list" ∧ o.dict = none ∧ o.data = .seq its n ∧ its.size ≤ sizeLine ∧ Vals xs its.toList
def SqT (K : PySem.W.Frag) (H : Hp) (a : Addr) (xs : List V) : Prop :=
  Rd H a (.tup xs) ∨
    ∃ (o : Obj) (its : Array Value) (n : Nat), K.lookup a = some o ∧ o.cls = .type "tuple" ∧ o.data = .seq its n ∧ its.size ≤ sizeLine ∧ Vals xs its.toList
def absV : Value → Option V
  | .none => some .non
  | .bool b => some (.bl b)
  | .int i _ => some (.int i)
  | .str x _ => some (.str x)
  | .bytes b _ => some (.byt b)
  | .float b _ => some (.flt b)
  | .ref a => some (.ref a)
  | .type n => some (.ty n)
  | _ => none
theorem RelV.abs {x : V} {u : Value} (r : RelV x u) : absV u = some x := by
  cases x with
  | non => cases r; rfl
  | bl _ => cases r; rfl
  | int _ => obtain ⟨t, rfl⟩ := r; rfl
  | str _ => obtain ⟨t, rfl⟩ := r; rfl
  | byt _ => obtain ⟨t, rfl⟩ := r; rfl
  | flt _ => obtain ⟨t, rfl⟩ := r; rfl
  | ref _ => cases r; rfl
  | ty _ => cases r; rfl
theorem RelV.inj {x y : V} {u : Value} (r : RelV x u) (q : RelV y u) : x = y := Option.some.inj (r.abs.symm.trans q.abs)
theorem Vals.inj : ∀ {xs ys : List V} {us : List Value}, Vals xs us → Vals ys us → xs = ys
  | _, _, _, .nil, .nil => rfl
  | _, _, _, .cons r t, .cons r' t' => by rw [r.inj r', Vals.inj t t']
section
variable {X : Cx} {pins : List (Addr × Obj)} {σ : St} {H : Hp} {s : Shared} {a : Addr} {xs ys : List V}
theorem SqL.of {K : PySem.W.Frag} (h : H a = some (.lst xs)) : SqL K H a xs := .inl (.inl h)
theorem SqT.of {K : PySem.W.Frag} (h : H a = some (.tup xs)) : SqT K H a xs := .inl (.inl h)
theorem Inv.list (I : Inv X pins σ H s) (h : SqL X.K H a xs) : ∃ its : List Value, Vals xs its ∧ PlainL s.heap a its.toArray ∧ xs.length ≤ sizeLine := by
  rcases h with h | ⟨o, its, n, hk, hc, hd, hs, hz, r⟩
  · obtain ⟨z, its, n, r, e⟩ := h.ok I.hok
    exact ⟨its, r, ⟨_, n, e, rfl, rfl, rfl⟩, z⟩
  · refine ⟨its.toList, r, ⟨o, n, I.kIn a o hk, hc, hd, by simpa using hs⟩, ?_⟩
    have e := r.length
    simp only [Array.length_toList] at e
    omega
theorem Inv.tuple (I : Inv X pins σ H s) (h : SqT X.K H a xs) : ∃ its : List Value, Vals xs its ∧ IsTup s.heap a its.toArray ∧ xs.length ≤ sizeLine := by
  rcases h with h | ⟨o, its, n, hk, hc, hs, hz, r⟩
  · obtain ⟨z, its, r, p⟩ := h.ok I.hok
    exact ⟨its, r, p, z⟩
  · refine ⟨its.toList, r, ⟨o, I.kIn a o hk, hc, n, by simpa using hs⟩, ?_⟩
    have e := r.length
    simp only [Array.length_toList] at e
    omega
theorem Inv.list_inj (I : Inv X pins σ H s) (h : SqL X.K H a xs) (h' : SqL X.K H a ys) : xs = ys := by
  obtain ⟨its, r, ⟨o, n, e, _, _, d⟩, _⟩ := I.list h
  obtain ⟨its', r', ⟨o', n', e', _, _, d'⟩, _⟩ := I.list h'
  rw [e] at e'; cases e'
  rw [d] at d'
  injection d' with d1 _
  have : its = its' := by simpa using congrArg Array.toList d1
  subst this
  exact r.inj r'
theorem Inv.tuple_inj (I : Inv X pins σ H s) (h : SqT X.K H a xs) (h' : SqT X.K H a ys) : xs = ys := by
  obtain ⟨its, r, ⟨o, e, _, n, d⟩, _⟩ := I.tuple h
  obtain ⟨its', r', ⟨o', e', _, n', d'⟩, _⟩ := I.tuple h'
  rw [e] at e'; cases e'
  rw [d] at d'
  injection d' with d1 _
  have : its = its' := by simpa using congrArg Array.toList d1
  subst this
  exact r.inj r'
end
abbrev Cx.wish (X : Cx) (E : Value → Shared → Prop) : Cx := { X with xe := E }
abbrev Cx.nox (X : Cx) : Cx := X.wish fun _ _ => False
theorem Cx.Ok.wish {X : Cx} (ok : X.Ok) (E : Value → Shared → Prop) : (X.wish E).Ok :=
  ⟨ok.mod, ok.kind, ok.glob, ok.blt, ok.above, ok.inj, ok.has, ok.cab, ok.hd, ok.frames, ok.stk, ok.exf, ok.bs, ok.bsz, ok.noex, ok.exfs, ok.funs, ok.frf⟩
theorem Cx.Ok.unwish {X : Cx} {E : Value → Shared → Prop} (ok : (X.wish E).Ok) : X.Ok :=
  ⟨ok.mod, ok.kind, ok.glob, ok.blt, ok.above, ok.inj, ok.has, ok.cab, ok.hd, ok.frames, ok.stk, ok.exf, ok.bs, ok.bsz, ok.noex, ok.exfs, ok.funs, ok.frf⟩
section
variable {X : Cx} {pins : List (Addr × Obj)} {σ : St} {H : Hp} {s : Shared} {E : Value → Shared → Prop}
theorem Inv.wish (I : Inv X pins σ H s) (E : Value → Shared → Prop) : Inv (X.wish E) pins σ H s := ⟨I.ok.wish E, I.os, I.bare, I.base, I.loc, I.cell, I.free, I.freeC, I.pin, I.hok, I.len⟩
theorem Inv.unwish (I : Inv (X.wish E) pins σ H s) : Inv X pins σ H s := ⟨I.ok.unwish, I.os, I.bare, I.base, I.loc, I.cell, I.free, I.freeC, I.pin, I.hok, I.len⟩
theorem SP.unwish {D : Ends} {f : Flow} {s' : Shared} (h : SP (X.wish E) pins D f s') : SP X pins D f s' := by
  cases f with
  | next => obtain ⟨σ', H', I, q⟩ := h; exact ⟨σ', H', I.unwish, q⟩
  | brk => obtain ⟨σ', H', I, q⟩ := h; exact ⟨σ', H', I.unwish, q⟩
  | cont => obtain ⟨σ', H', I, q⟩ := h; exact ⟨σ', H', I.unwish, q⟩
  | ret u => obtain ⟨v, σ', H', I, r, q⟩ := h; exact ⟨v, σ', H', I.unwish, r, q⟩
theorem PE.nox {e : Expr} {t : TE} (h : PE X.nox e t) : PE X e t := fun pins s σ H Q I hw =>
  wpAny_mono (h pins s σ H Q (I.wish _) hw) (fun _ _ ⟨v, H', I', r, q⟩ => ⟨v, H', I'.unwish, r, q⟩) fun _ _ z => False.elim z
theorem PT.nox {e : Expr} {t : TT} (h : PT X.nox e t) : PT X e t := fun pins s σ H Q I hw =>
  wpAny_mono (h pins s σ H Q (I.wish _) hw) (fun _ _ ⟨H', I', q⟩ => ⟨H', I'.unwish, q⟩) fun _ _ z => False.elim z
theorem PSs.nox {st : List Stmt} {t : TS} (h : PSs X.nox st t) : PSs X st t := fun pins s σ H D I hw =>
  wpAny_mono (h pins s σ H D (I.wish _) hw) (fun _ _ q => q.unwish) fun _ _ z => False.elim z
end
section
variable {X : Cx} {st : Stmt} {rest : List Stmt} {t u : TS} {e : Expr} {te : TE} {pos : Pos}
def tNext : TS := fun D σ H => D.nx σ H
def tSeq (t u : TS) : TS := fun D σ H => t { D with nx := u D } σ H
theorem pss_nil : PSs X [] tNext := fun _ _ σ H _ I h => wpAny_execs_nil ⟨σ, H, I, h⟩
theorem pss_cons (h1 : PS X st t) (h2 : PSs X rest u) : PSs X (st :: rest) (tSeq t u) := by
  intro pins s σ H D I h
  refine wpAny_execs_cons (thn (h1 pins s σ H { D with nx := u D } I h) fun f s1 q => ?_)
  cases f with
  | next =>
    obtain ⟨σ', H', I', q⟩ := q
    exact h2 pins s1 σ' H' D I' q
  | ret v => exact q
  | brk => exact q
  | cont => exact q
theorem pss_one (h1 : PS X st t) : PSs X [st] t := by
  intro pins s σ H D I h
  refine wpAny_execs_cons (thn (h1 pins s σ H D I h) fun f s1 q => ?_)
  cases f with
  | next => exact wpAny_execs_nil q
  | ret v => exact q
  | brk => exact q
  | cont => exact q
theorem Inv.quiet {pins : List (Addr × Obj)} {σ : St} {H : Hp} {s : Shared} (I : Inv X pins σ H s) : interactive X.env = false := by simp [interactive, I.ok.kind]
def tDrop (te : TE) : TS := fun D σ H => te σ H fun _ H1 => D.nx σ H1
theorem ps_expr (he : PE X e te) (hs : swapsWith e none pos.line X.env = pure false := by rfl) : PS X (.Expr e pos) (tDrop te) := by
  intro pins s σ H D I h
  exact wpAny_Expr_any (thn (he pins s σ H _ I h) fun v s1 ⟨x, H1, I1, r1, q1⟩ => ⟨σ, H1, I1, q1⟩) I.quiet hs
def tRet (te : TE) : TS := fun D σ H => te σ H D.rt
theorem ps_ret (he : PE X e te) : PS X (.Return (some e) pos) (tRet te) := by
  intro pins s σ H D I h
  exact wpAny_Return_some (thn (he pins s σ H _ I h) fun v s1 ⟨x, H1, I1, r1, q1⟩ => ⟨x, σ, H1, I1, r1, q1⟩)
def tIfS (c : TT) (t u : TS) : TS := fun D σ H => c σ H fun b H1 => if b = true then t D σ H1 else u D σ H1
theorem ps_if {c : Expr} {a b : List Stmt} {tc : TT} (hc : PT X c tc) (ha : PSs X a t) (hb : PSs X b u) : PS X (.If c a b pos) (tIfS tc t u) := by
  intro pins s σ H D I h
  refine wpAny_If (thn (hc pins s σ H _ I h) fun d s1 ⟨H1, I1, q1⟩ => ?_)
  cases d with
  | true => exact ha pins s1 σ H1 D I1 q1
  | false => exact hb pins s1 σ H1 D I1 q1
end
abbrev TG := V → St → Hp → (St → Hp → Prop) → Prop
abbrev TGs := List V → St → Hp → (St → Hp → Prop) → Prop
def PG (X : Cx) (target : Expr) (t : TG) : Prop :=
  ∀ (pins : List (Addr × Obj)) (s : Shared) (σ : St) (H : Hp) (v : V) (u : Value) (Q : St → Hp → Prop), Inv X pins σ H s → RelV v u → t v σ H Q →
    wpAny (model X.prog X.w) X.A (assign target X.env u) (fun _ s' => ∃ σ' H', Inv X pins σ' H' s' ∧ Q σ' H') X.xe s
def PGs (X : Cx) (ts : List Expr) (t : TGs) : Prop :=
  ∀ (pins : List (Addr × Obj)) (s : Shared) (σ : St) (H : Hp) (vs : List V) (us : List Value) (Q : St → Hp → Prop), Inv X pins σ H s → Vals vs us → t vs σ H Q →
    wpAny (model X.prog X.w) X.A (assignInOrder ((assignEach ts X.env).map (·.2)) us) (fun _ s' => ∃ σ' H', Inv X pins σ' H' s' ∧ Q σ' H') X.xe s
section
variable {X : Cx} {pos : Pos}
def gName (i : Nat) : TG := fun v σ H Q => Q (σ.set i (some v)) H
theorem pg_name {i : Nat} {x : Str} (hN : X.N.Nodup) (hi : X.N[i]? = some x) (hx : Loc X.env.scope x) (hf : X.fn x = true ∨ X.env.scope.names.lookup x = some .local := by first | exact .inl rfl | exact .inr rfl | assumption) : PG X (.Name x pos) (gName i) := by
  intro pins s σ H v u Q I r h
  exact wpAny_assign_Name (store_ok I hN hi hx r (fun s' I' => ⟨_, H, I', h⟩) hf)
def gNil : TGs := fun vs σ H Q => vs = [] ∧ Q σ H
def gCons (t : TG) (u : TGs) : TGs := fun vs σ H Q => ∃ v r, vs = v :: r ∧ t v σ H fun σ' H' => u r σ' H' Q
theorem pgs_nil : PGs X [] gNil := by
  intro pins s σ H vs us Q I r h
  obtain ⟨e, h⟩ := h
  subst e
  cases r
  exact assignInOrder_nil ⟨σ, H, I, h⟩
theorem pgs_cons {e : Expr} {es : List Expr} {t : TG} {u : TGs} (h1 : PG X e t) (h2 : PGs X es u)
    (hs : (assignEach (e :: es) X.env).map (·.2) = assign e X.env :: (assignEach es X.env).map (·.2) := by rfl) : PGs X (e :: es) (gCons t u) := by
  intro pins s σ H vs us Q I r h
  obtain ⟨v, vr, e1, h⟩ := h
  subst e1
  cases r with
  | cons r rr =>
    rw [hs]
    refine assignInOrder_cons (thn (h1 pins s σ H _ _ _ I r h) fun _ s1 ⟨σ1, H1, I1, q1⟩ => ?_)
    exact h2 pins s1 σ1 H1 _ _ Q I1 rr q1
def gTup (K : PySem.W.Frag) (n : Nat) (t : TGs) : TG := fun v σ H Q => ∃ a xs, v = .ref a ∧ SqT K H a xs ∧ xs.length = n ∧ t xs σ H Q
theorem pg_tup {es : List Expr} {k : Nat} {t : TGs} {n : Nat} (hc : X.calm = true) (h : PGs X es t)
    (hn : (assignEach es X.env).length = n := by rfl) (hst : (assignEach es X.env).findIdx? (·.1) = none := by rfl) : PG X (.Tuple es k pos) (gTup X.K n t) := by
  intro pins s σ H v u Q I r hw
  obtain ⟨a, xs, e1, hq, hl, hw⟩ := hw
  subst e1
  cases r
  obtain ⟨its, rv, ht, hz⟩ := I.tuple hq
  refine assign_Tuple_tuple (I.ok.hd hc) ht (by simp [hn, ← hl, rv.length]) hst fun h' hx => ?_
  have I1 : Inv X pins σ H { s with heap := h' } := I.kept (t' := s.toks) fun b o e => hx b o (Nat.ne_of_lt (Heap.lt_size e)) e
  exact h pins _ σ H xs _ Q I1 (by simpa using rv) hw
def tAsg (te : TE) (g : TG) : TS := fun D σ H => te σ H fun x H1 => g x σ H1 D.nx
theorem ps_set {i : Nat} {x : Str} {e : Expr} {te : TE} {pos' : Pos} (hN : X.N.Nodup) (hi : X.N[i]? = some x) (hx : Loc X.env.scope x) (he : PE X e te) (hs : swapsWith e (some (.Name x pos')) pos.line X.env = pure false := by rfl) (hf : X.fn x = true ∨ X.env.scope.names.lookup x = some .local := by first | exact .inl rfl | exact .inr rfl | assumption) :
    PS X (.Assign [.Name x pos'] e pos) (tAsg te (gName i)) := by
  intro pins s σ H D I h
  refine wpAny_Assign_Name (thn (he pins s σ H _ I h) fun v s1 ⟨y, H1, I1, r1, q1⟩ => ?_) hs
  exact store_ok I1 hN hi hx r1 (fun s2 I2 => ⟨_, H1, I2, q1⟩) hf
end
section
variable {X : Cx} {pos : Pos}
end
structure It where
  go : Nat → Hp → Prop
  yld : Nat → Hp → V → Hp → Prop
  stop : Nat → Hp → Prop
def FpOk (X : Cx) (pins : List (Addr × Obj)) (H : Hp) (b : Addr) : Prop :=
  H b = none ∧ b ≠ X.env.locals ∧ b ∉ X.fs ∧ (b ∈ X.ex ∨ X.s₀.heap.objs.size ≤ b) ∧ (∀ x c, X.env.cells.lookup x = some c → c ≠ b) ∧ ∀ p ∈ X.pn ++ pins, p.1 ≠ b
theorem Inv.fpOk {X : Cx} {pins : List (Addr × Obj)} {σ : St} {H H' : Hp} {s : Shared} {b : Addr} (I : Inv X pins σ H s) (hb : s.heap.objs.size ≤ b) (hn : H' b = none) : FpOk X pins H' b := by
  refine ⟨hn, Nat.ne_of_gt (Nat.lt_of_lt_of_le I.lt hb), I.nofs hb, .inr (Nat.le_trans I.sz hb), fun x c e z => ?_, fun p hp z => ?_⟩
  · obtain ⟨v, q⟩ := I.cell x c e
    exact absurd (Nat.lt_of_lt_of_le q.lt (by rw [z]; exact hb)) (Nat.lt_irrefl _)
  · exact absurd (Nat.lt_of_lt_of_le (Heap.lt_size (I.pin p hp).1) (by rw [z]; exact hb)) (Nat.lt_irrefl _)
structure Turn (P : Program) (w : World) (K : PySem.W.Frag) (tg : Expr) (J : It) (fp : List Addr) (it : Addr) (tn : Nat → Heap → Prop) : Prop where
  mem : it ∈ fp
  obj : ∀ i h, tn i h → ∀ b ∈ fp, ∃ o, h.get? b = some o ∧ ∀ v, o.data ≠ .cell v
  keep : ∀ i h h', tn i h → (∀ b ∈ fp, ∀ o, h.get? b = some o → h'.get? b = some o) → tn i h'
  item : ∀ (X : Cx), X.prog = P → X.w = w → X.K = K → X.calm = true → ∀ (i : Nat) (pins : List (Addr × Obj)) (s : Shared) (σ : St) (H : Hp) (E : Value → Shared → Prop), Inv X pins σ H s → (∀ b ∈ fp, FpOk X pins H b) → tn i s.heap → J.go i H →
    wpAny (model P w) X.A (pyNext (.ref it)) (fun r s1 => ∃ u, r = some u ∧
      wpAny (model P w) X.A (letOwnedTupleGo tg (.ref it) u) (fun _ s2 => ∃ x H', Inv X pins σ H' s2 ∧ RelV x u ∧ J.yld i H x H' ∧ tn (i + 1) s2.heap ∧ ∀ b ∈ fp, H' b = none) E s1) E s
  done : ∀ (X : Cx), X.prog = P → X.w = w → X.K = K → X.calm = true → ∀ (i : Nat) (pins : List (Addr × Obj)) (s : Shared) (σ : St) (H : Hp) (E : Value → Shared → Prop), Inv X pins σ H s → (∀ b ∈ fp, FpOk X pins H b) → tn i s.heap → J.stop i H →
    wpAny (model P w) X.A (pyNext (.ref it)) (fun r s1 => r = none ∧ Inv X pins σ H s1) E s
  self : ∀ (A : Around) (i : Nat) (s : Shared) (Q : Value → Shared → Prop) (E : Value → Shared → Prop), tn i s.heap → Q (.ref it) s → wpAny (model P w) A (pyIter (.ref it)) Q E s
abbrev TI := St → Hp → (It → Hp → Prop) → Prop
def PIE (X : Cx) (pins : List (Addr × Obj)) (σ : St) (tg : Expr) (R : It → Hp → Prop) (itv : Value) (s2 : Shared) : Prop :=
  ∃ (it : Addr) (fp : List Addr) (tn : Nat → Heap → Prop) (J : It) (H' : Hp), itv = .ref it ∧ Inv X pins σ H' s2 ∧ Turn X.prog X.w X.K tg J fp it tn ∧ tn 0 s2.heap ∧ (∀ b ∈ fp, FpOk X pins H' b) ∧ R J H'
def PI (X : Cx) (tg iter : Expr) (wi : TI) : Prop :=
  ∀ (pins : List (Addr × Obj)) (s : Shared) (σ : St) (H : Hp) (R : It → Hp → Prop), Inv X pins σ H s → wi σ H R →
    wpAny (model X.prog X.w) X.A (eval iter X.env) (fun v s1 => wpAny (model X.prog X.w) X.A (pyIter v) (PIE X pins σ tg R) X.xe s1) X.xe s
theorem go_of {M : Model} {A : Around} {E : Value → Shared → Prop} {s : Shared} {tg : Expr} {it : Addr} {u : Value} {o : Obj} {n : String} {vs : Array Value} {Q : Unit → Shared → Prop} (ho : s.heap.get? it = some o) (hc : o.cls = .type n) (hd : o.data = .fields vs)
    (hn : ["enumerate", "zip", "dict_itemiterator", "dict_reverseitemiterator", "odict_iterator", "itertools.zip_longest", "itertools.pairwise"].contains n = false) (hQ : Q () s) : wpAny M A (letOwnedTupleGo tg (.ref it) u) Q E s := by
  unfold letOwnedTupleGo
  cases tg <;> first
    | exact wpAny_pure hQ
    | (cases u <;> first
        | exact wpAny_pure hQ
        | (refine wpAny_bind (wpAny_load ho ?_)
           rw [hc, hd]
           show wpAny M A (if (["enumerate", "zip", "dict_itemiterator", "dict_reverseitemiterator", "odict_iterator", "itertools.zip_longest", "itertools.pairwise"].contains n && vs[0]? == some (rawInt _)) = true then _ else _) Q E s
           rw [if_neg (by intro h; rw [hn, Bool.false_and] at h; cases h)]
           exact wpAny_pure hQ))
def Itl (K : PySem.W.Frag) (a : Addr) : It :=
  ⟨fun i H => ∃ xs x, SqL K H a xs ∧ xs[i]? = some x, fun i H x H' => H' = H ∧ ∀ xs, SqL K H a xs → xs[i]? = some x, fun i H => ∃ xs, SqL K H a xs ∧ xs.length ≤ i⟩
def Itt (K : PySem.W.Frag) (a : Addr) : It :=
  ⟨fun i H => ∃ xs x, SqT K H a xs ∧ xs[i]? = some x, fun i H x H' => H' = H ∧ ∀ xs, SqT K H a xs → xs[i]? = some x, fun i H => ∃ xs, SqT K H a xs ∧ xs.length ≤ i⟩
def Itr (lo : Int) (n : Nat) : It := ⟨fun i _ => i < n, fun i H x H' => H' = H ∧ x = .int (lo + i), fun i _ => n ≤ i⟩
theorem turn_list {P : Program} {w : World} {K : PySem.W.Frag} {tg : Expr} (a it : Addr) : Turn P w K tg (Itl K a) [it] it (fun i h => h.IsListIter it a i) where
  mem := by simp
  obj := fun i h st b hb => by
    have e : b = it := by simpa using hb
    subst e
    obtain ⟨o, e, c, d⟩ := st
    exact ⟨o, e, fun v z => by rw [d] at z; cases z⟩
  keep := fun i h h' st k => st.at fun o e => k it (by simp) o e
  item := by
    intro X hP hw hK hc i pins s σ H E I hf st hg
    subst hP hw hK
    obtain ⟨xs, x, hq, hx⟩ := hg
    obtain ⟨its, rv, p, hz⟩ := I.list hq
    obtain ⟨u, hu, ru⟩ := rv.get hx
    obtain ⟨f0, f1, f2, f3, f4, f5⟩ := hf it (by simp)
    refine wpAny_pyNext_list_item st p.isList (x := u) (by simpa using hu) fun h' st' sb => ?_
    have I1 : Inv X pins σ H { s with heap := h' } := I.turned (t' := s.toks) (fun b o hb e => (sb.2 b hb).trans e) f0 f1 f3 f4 f5
    obtain ⟨o, e, c, d⟩ := id st'
    exact ⟨u, rfl, go_of (s := { s with heap := h' }) e c d (by decide) ⟨x, H, I1, ru, ⟨rfl, fun ys hy => by rw [I.list_inj hy hq]; exact hx⟩, st', fun b hb => (hf b hb).1⟩⟩
  done := by
    intro X hP hw hK hc i pins s σ H E I hf st hg
    subst hP hw hK
    obtain ⟨xs, hq, hx⟩ := hg
    obtain ⟨its, rv, p, hz⟩ := I.list hq
    obtain ⟨f0, f1, f2, f3, f4, f5⟩ := hf it (by simp)
    have hl := rv.length
    exact wpAny_pyNext_list_end (I.ok.hd hc) st p.isList (by simp; omega) fun h' eb => ⟨rfl, I.turned (t' := s.toks) (fun b o hb e => eb b o hb e) f0 f1 f3 f4 f5⟩
  self := fun _ _ _ _ _ st h => wpAny_pyIter_listiter st h
theorem turn_tuple {P : Program} {w : World} {K : PySem.W.Frag} {tg : Expr} (a it : Addr) : Turn P w K tg (Itt K a) [it] it (fun i h => h.IsTupleIter it a i) where
  mem := by simp
  obj := fun i h st b hb => by
    have e : b = it := by simpa using hb
    subst e
    obtain ⟨o, e, c, d⟩ := st
    exact ⟨o, e, fun v z => by rw [d] at z; cases z⟩
  keep := fun i h h' st k => st.at fun o e => k it (by simp) o e
  item := by
    intro X hP hw hK hc i pins s σ H E I hf st hg
    subst hP hw hK
    obtain ⟨xs, x, hq, hx⟩ := hg
    obtain ⟨its, rv, p, hz⟩ := I.tuple hq
    obtain ⟨u, hu, ru⟩ := rv.get hx
    obtain ⟨f0, f1, f2, f3, f4, f5⟩ := hf it (by simp)
    refine wpAny_pyNext_tuple_item st (show s.heap.IsTuple a its.toArray from p) (x := u) (by simpa using hu) fun h' st' sb => ?_
    have I1 : Inv X pins σ H { s with heap := h' } := I.turned (t' := s.toks) (fun b o hb e => (sb.2 b hb).trans e) f0 f1 f3 f4 f5
    obtain ⟨o, e, c, d⟩ := id st'
    exact ⟨u, rfl, go_of (s := { s with heap := h' }) e c d (by decide) ⟨x, H, I1, ru, ⟨rfl, fun ys hy => by rw [I.tuple_inj hy hq]; exact hx⟩, st', fun b hb => (hf b hb).1⟩⟩
  done := by
    intro X hP hw hK hc i pins s σ H E I hf st hg
    subst hP hw hK
    obtain ⟨xs, hq, hx⟩ := hg
    obtain ⟨its, rv, p, hz⟩ := I.tuple hq
    obtain ⟨f0, f1, f2, f3, f4, f5⟩ := hf it (by simp)
    have hl := rv.length
    exact wpAny_pyNext_tuple_end (I.ok.hd hc) st (show s.heap.IsTuple a its.toArray from p) (by simp; omega) fun h' eb => ⟨rfl, I.turned (t' := s.toks) (fun b o hb e => eb b o hb e) f0 f1 f3 f4 f5⟩
  self := fun _ _ _ _ _ st h => wpAny_pyIter_tupleiter st h
theorem turn_range {P : Program} {w : World} {K : PySem.W.Frag} {tg : Expr} (it : Addr) (lo : Int) (n : Nat) : Turn P w K tg (Itr lo n) [it] it (fun i h => IsRangeIter h it (lo + (i : Nat) * 1) ((n : Int) - (i : Nat)) 1) where
  mem := by simp
  obj := fun i h st b hb => by
    have e : b = it := by simpa using hb
    subst e
    exact ⟨_, st, fun v z => by
      have z' : Data.fields _ = Data.cell v := z
      cases z'⟩
  keep := fun i h h' st k => k it (by simp) _ st
  item := by
    intro X hP hw hK hc i pins s σ H E I hf st hg
    subst hP hw hK
    obtain ⟨f0, f1, f2, f3, f4, f5⟩ := hf it (by simp)
    have W := Walks.range (prog := X.prog) (w := X.w) (I.ok.hd hc) it lo 1 n
    refine W.item i s _ _ hg st fun v h' tk hv st' kk => ?_
    obtain ⟨t, rfl⟩ := hv
    have I1 : Inv X pins σ H { s with heap := h', toks := tk } := I.turned (fun b o hb e => kk b o (by simpa using hb) e) f0 f1 f3 f4 f5
    refine ⟨_, rfl, go_of (s := { s with heap := h', toks := tk }) (n := "range_iterator") st' rfl rfl (by decide) ⟨.int (lo + i), H, I1, ⟨t, ?_⟩, ⟨rfl, rfl⟩, st', fun b hb => (hf b hb).1⟩⟩
    rw [Int.mul_one]
  done := by
    intro X hP hw hK hc i pins s σ H E I hf st hg
    subst hP hw hK
    obtain ⟨f0, f1, f2, f3, f4, f5⟩ := hf it (by simp)
    exact wpAny_pyNext_range_end (I.ok.hd hc) st (by have : n ≤ i := hg; omega) fun h' eb => ⟨rfl, I.turned (t' := s.toks) (fun b o hb e => eb b o hb e) f0 f1 f3 f4 f5⟩
  self := fun _ _ _ _ _ st h => wpAny_pyIter_rangeiter st h
end L2
namespace L2
open PySem PySem.Spec PyProof.Rows
section
variable {X : Cx} {tg : Expr}
def iList (K : PySem.W.Frag) (tl : TE) : TI := fun σ H R => tl σ H fun x H1 => ∃ a, x = .ref a ∧ (∃ xs, SqL K H1 a xs) ∧ R (Itl K a) H1
def iTup (K : PySem.W.Frag) (tl : TE) : TI := fun σ H R => tl σ H fun x H1 => ∃ a, x = .ref a ∧ (∃ xs, SqT K H1 a xs) ∧ R (Itt K a) H1
theorem pi_list {l : Expr} {tl : TE} (hl : PE X l tl) : PI X tg l (iList X.K tl) := by
  intro pins s σ H R I h
  refine thn (hl pins s σ H _ I h) fun v s1 ⟨x, H1, I1, r1, q1⟩ => ?_
  obtain ⟨a, e, ⟨xs, hq⟩, q⟩ := q1
  subst e
  cases r1
  obtain ⟨its, rv, p, hz⟩ := I1.list hq
  refine wpAny_pyIter_list p.isList ?_
  refine ⟨s1.heap.objs.size, [s1.heap.objs.size], _, _, H1, rfl, I1.kept (t' := s1.toks) fun b o e => Heap.get?_push_of_some _ e, turn_list a _, ⟨_, Heap.get?_push_size _ rfl, rfl, rfl⟩, fun b hb => ?_, q⟩
  have e : b = s1.heap.objs.size := by simpa using hb
  subst e
  exact I1.fpOk (Nat.le_refl _) (I1.hok.fresh (Nat.le_refl _))
theorem pi_tup {l : Expr} {tl : TE} (hl : PE X l tl) : PI X tg l (iTup X.K tl) := by
  intro pins s σ H R I h
  refine thn (hl pins s σ H _ I h) fun v s1 ⟨x, H1, I1, r1, q1⟩ => ?_
  obtain ⟨a, e, ⟨xs, hq⟩, q⟩ := q1
  subst e
  cases r1
  obtain ⟨its, rv, p, hz⟩ := I1.tuple hq
  refine wpAny_pyIter_tuple (show s1.heap.IsTuple a its.toArray from p) ?_
  refine ⟨s1.heap.objs.size, [s1.heap.objs.size], _, _, H1, rfl, I1.kept (t' := s1.toks) fun b o e => Heap.get?_push_of_some _ e, turn_tuple a _, ⟨_, Heap.get?_push_size _ rfl, rfl, rfl⟩, fun b hb => ?_, q⟩
  have e : b = s1.heap.objs.size := by simpa using hb
  subst e
  exact I1.fpOk (Nat.le_refl _) (I1.hok.fresh (Nat.le_refl _))
theorem range_it {pins : List (Addr × Obj)} {σ : St} {H : Hp} {s : Shared} {R : It → Hp → Prop} {E : Value → Shared → Prop} {lo hi : Int} {t u v : Tok} {tk : Nat} (I : Inv X pins σ H s) (h1 : -(2 ^ 62) ≤ lo) (h2 : lo < 2 ^ 62) (h3 : -(2 ^ 62) ≤ hi) (h4 : hi < 2 ^ 62)
    (q : R (Itr lo (hi - lo).toNat) H) : wpAny (model X.prog X.w) X.A (pyIter (.ref s.heap.objs.size)) (PIE X pins σ tg R) E { s with heap := s.heap.push { cls := .type "range", data := .fields #[.int lo t, .int hi u, .int 1 v] }, toks := tk } := by
  refine wpAny_pyIter_range (IsRange.new ..) (small_one h1 h2 h3 h4) ?_
  have I1 : Inv X pins σ H { s with heap := s.heap.push { cls := .type "range", data := .fields #[.int lo t, .int hi u, .int 1 v] }, toks := tk } := I.kept fun b o e => Heap.get?_push_of_some _ e
  refine ⟨(s.heap.push { cls := .type "range", data := .fields #[.int lo t, .int hi u, .int 1 v] }).objs.size, [(s.heap.push { cls := .type "range", data := .fields #[.int lo t, .int hi u, .int 1 v] }).objs.size], _, _, H, rfl,
    I1.kept (t' := tk) fun b o e => Heap.get?_push_of_some _ e, turn_range _ lo (hi - lo).toNat, ?_, fun b hb => ?_, q⟩
  · have e1 : lo + ((0 : Nat) : Int) * 1 = lo := by simp
    have e2 : (((hi - lo).toNat : Nat) : Int) - ((0 : Nat) : Int) = Builtin.Range.rangeSize lo hi 1 := by rw [rangeSize_one]; split <;> omega
    show IsRangeIter _ _ (lo + ((0 : Nat) : Int) * 1) ((((hi - lo).toNat : Nat) : Int) - ((0 : Nat) : Int)) 1
    rw [e1, e2]
    exact Heap.get?_push_size _ rfl
  · have e : b = (s.heap.push { cls := .type "range", data := .fields #[.int lo t, .int hi u, .int 1 v] }).objs.size := by simpa using hb
    subst e
    exact I1.fpOk (Nat.le_refl _) (I1.hok.fresh (Nat.le_refl _))
def iRng1 (ta : TA) : TI := fun σ H R => ta σ H fun vs H1 => ∃ j : Int, vs = [.int j] ∧ -(2 ^ 62) ≤ j ∧ j < 2 ^ 62 ∧ R (Itr 0 j.toNat) H1
def iRng2 (ta : TA) : TI := fun σ H R => ta σ H fun vs H1 => ∃ i j : Int, vs = [.int i, .int j] ∧ (-(2 ^ 62) ≤ i ∧ i < 2 ^ 62 ∧ -(2 ^ 62) ≤ j ∧ j < 2 ^ 62) ∧ R (Itr i (j - i).toNat) H1
theorem pi_range1 {a : Expr} {ta : TA} {p pos : Pos} (hg : Gl X "range") (hm : X.mg "range" = none) (ha : PA X [a] ta) (hs : starEach [a] X.env = [(false, eval a X.env)] := by rfl) : PI X tg (.Call (.Name "range" p) [a] [] pos) (iRng1 ta) := by
  intro pins s σ H R I h
  refine Call_ (ld_blt I hg hm boot_range (PyProof.Rows.callWith_type1 (thn (ha pos pins s σ H _ I h) fun us s1 ⟨vs, H1, I1, r1, q1⟩ => ?_) hs rfl))
  obtain ⟨j, e, q1, q2, q⟩ := q1
  subst e
  cases r1 with
  | cons r rr =>
    cases rr
    obtain ⟨t, rfl⟩ := r
    exact call_range_1 (range_it I1 (by omega) (by omega) q1 q2 (by simpa using q))
theorem pi_range2 {a b : Expr} {ta : TA} {p pos : Pos} (hg : Gl X "range") (hm : X.mg "range" = none) (ha : PA X [a, b] ta) (hs : starEach [a, b] X.env = [(false, eval a X.env), (false, eval b X.env)] := by rfl) (hs2 : starEach [b] X.env = [(false, eval b X.env)] := by rfl) :
    PI X tg (.Call (.Name "range" p) [a, b] [] pos) (iRng2 ta) := by
  intro pins s σ H R I h
  refine Call_ (ld_blt I hg hm boot_range (PyProof.Rows.callWith_type1 (thn (ha pos pins s σ H _ I h) fun us s1 ⟨vs, H1, I1, r1, q1⟩ => ?_) (by rw [hs, hs2]) (by rw [hs2]; rfl)))
  obtain ⟨i, j, e, ⟨q1, q2, q3, q4⟩, q⟩ := q1
  subst e
  cases r1 with
  | cons r rr =>
    cases rr with
    | cons r' rr =>
      cases rr
      obtain ⟨t, rfl⟩ := r
      obtain ⟨t', rfl⟩ := r'
      exact call_range_2 (range_it I1 q1 q2 q3 q4 q)
def tFor (wi : TI) (g : TG) (tb : TS) : TS := fun D σ H => wi σ H fun J H1 => ∃ W : Nat → Nat → St → Hp → Prop, (∃ m, W 0 m σ H1) ∧ ∀ i m σ H, W i m σ H →
  (J.stop i H ∧ D.nx σ H) ∨ (J.go i H ∧ ∃ N : St → Hp → Prop, (∀ σ' H', N σ' H' → ∃ m', m' < m ∧ W (i + 1) m' σ' H') ∧ ∀ x H', J.yld i H x H' → g x σ H' fun σ2 H2 => tb { D with nx := N, ct := N, bk := D.nx } σ2 H2)
def pinsAt (fp : List Addr) (h : Heap) : List (Addr × Obj) := fp.filterMap fun b => (h.get? b).map fun o => (b, o)
theorem mem_pinsAt {fp : List Addr} {h : Heap} {b : Addr} {o : Obj} (hb : b ∈ fp) (e : h.get? b = some o) : (b, o) ∈ pinsAt fp h := List.mem_filterMap.mpr ⟨b, hb, by rw [e]; rfl⟩
theorem of_pinsAt {fp : List Addr} {h : Heap} {p : Addr × Obj} (hp : p ∈ pinsAt fp h) : p.1 ∈ fp ∧ h.get? p.1 = some p.2 := by
  obtain ⟨b, hb, e⟩ := List.mem_filterMap.mp hp
  cases q : h.get? b with
  | none => rw [q] at e; cases e
  | some o =>
    rw [q] at e
    have e' : (b, o) = p := Option.some.inj e
    subst e'
    exact ⟨hb, q⟩
theorem Inv.pinned {pins : List (Addr × Obj)} {σ : St} {H : Hp} {s : Shared} {fp : List Addr} (I : Inv X pins σ H s) (hf : ∀ b ∈ fp, FpOk X pins H b) (ho : ∀ b ∈ fp, ∃ o, s.heap.get? b = some o ∧ ∀ v, o.data ≠ .cell v) : Inv X (pins ++ pinsAt fp s.heap) σ H s :=
  I.pins_of fun p hp => (List.mem_append.mp hp).elim (fun z => I.pin p (List.mem_append_right _ z)) fun z => by
    obtain ⟨hb, e⟩ := of_pinsAt z
    obtain ⟨f0, f1, f2, _⟩ := hf p.1 hb
    obtain ⟨o, e', d⟩ := ho p.1 hb
    rw [e] at e'; cases e'
    exact ⟨e, f0, f1, f2, d⟩
theorem Inv.unpinned {pins pl : List (Addr × Obj)} {σ : St} {H : Hp} {s : Shared} (I : Inv X (pins ++ pl) σ H s) : Inv X pins σ H s := I.pins_of fun p hp => I.pin p (List.mem_append_right _ (List.mem_append_left _ hp))
theorem ps_for {iter : Expr} {body : List Stmt} {wi : TI} {g : TG} {tb : TS} {pos : Pos} (hp : PassesOwn (model X.prog X.w) X.A X.env X.xe) (hc : X.calm = true) (hi : PI X tg iter wi) (hg : PG X tg g) (hb : PSs X body tb)
    (hs : ∀ x, foldedSetIterable iter X.env x = pure x := by intro _; rfl) : PS X (.For tg iter body [] pos) (tFor wi g tb) := by
  intro pins s σ H D I h
  refine wpAny_For (thn (hi pins s σ H _ I h) fun v s1 h1 => thn h1 fun itv s2 h2 => ?_) hs
  obtain ⟨it, fp, tn, J, H2, e, I2, T, st2, f2, W, ⟨m0, w0⟩, turn⟩ := h2
  subst e
  have stat : ∀ {H' : Hp}, (∀ b ∈ fp, H' b = none) → ∀ b ∈ fp, FpOk X pins H' b := fun hn b hb => ⟨hn b hb, (f2 b hb).2⟩
  refine codeAny_forLoop_any (fun n s' => ∃ i σ' H', Inv X pins σ' H' s' ∧ tn i s'.heap ∧ (∀ b ∈ fp, H' b = none) ∧ W i n σ' H') ?_ m0 ⟨0, σ, H2, I2, st2, fun b hb => (f2 b hb).1, w0⟩
  rintro n s3 ⟨i, σ3, H3, I3, st3, fr3, w3⟩
  rcases turn i n σ3 H3 w3 with ⟨stop, qn⟩ | ⟨go, N, hN, step⟩
  · refine wpAny_passesOwn hp (thn (T.done X rfl rfl rfl hc i pins s3 σ3 H3 X.xe I3 (stat fr3) st3 stop) fun r s4 ⟨hr, I4⟩ => ?_)
    subst hr
    exact wpAny_execs_nil ⟨σ3, H3, I4, qn⟩
  · refine wpAny_passesOwn hp (thn (T.item X rfl rfl rfl hc i pins s3 σ3 H3 X.xe I3 (stat fr3) st3 go) fun r s4 ⟨u, hr, h4⟩ => ?_)
    subst hr
    refine wpAny_passesOwn hp (thn h4 fun _ s5 ⟨x, H5, I5, r5, y5, st5, fr5⟩ => ?_)
    have I5' := I5.pinned (stat fr5) (T.obj _ _ st5)
    refine wpAny_passesOwn hp (thn (hg _ s5 σ3 H5 x u _ I5' r5 (step x H5 y5)) fun _ s6 ⟨σ6, H6, I6, q6⟩ => ?_)
    refine wpAny_passesOwn hp (thn (hb _ s6 σ6 H6 _ I6 q6) fun f s7 q7 => ?_)
    have again : ∀ {σ7 : St} {H7 : Hp}, Inv X (pins ++ pinsAt fp s5.heap) σ7 H7 s7 → N σ7 H7 → ∃ m, m < n ∧ ∃ i σ' H', Inv X pins σ' H' s7 ∧ tn i s7.heap ∧ (∀ b ∈ fp, H' b = none) ∧ W i m σ' H' := fun {σ7 H7} I7 n7 => by
      obtain ⟨m', hm, w7⟩ := hN σ7 H7 n7
      refine ⟨m', hm, i + 1, σ7, H7, I7.unpinned, T.keep _ _ _ st5 fun b hb o e => (I7.pin (b, o) (List.mem_append_right _ (List.mem_append_right _ (mem_pinsAt hb e)))).1, fun b hb => ?_, w7⟩
      obtain ⟨o, e, d⟩ := T.obj _ _ st5 b hb
      exact (I7.pin (b, o) (List.mem_append_right _ (List.mem_append_right _ (mem_pinsAt hb e)))).2.1
    cases f with
    | next => obtain ⟨σ7, H7, I7, n7⟩ := q7; exact again I7 n7
    | cont => obtain ⟨σ7, H7, I7, n7⟩ := q7; exact again I7 n7
    | brk => obtain ⟨σ7, H7, I7, q7⟩ := q7; exact ⟨σ7, H7, I7.unpinned, q7⟩
    | ret v => obtain ⟨x7, σ7, H7, I7, r7, q7⟩ := q7; exact ⟨x7, σ7, H7, I7.unpinned, r7, q7⟩
end
theorem for_list {K : PySem.W.Frag} {a : Addr} {xs : List V} {g : TG} {tb : TS} {D : Ends} {σ : St} {H : Hp} (Pv : Nat → St → Hp → Prop) (h0 : Pv 0 σ H) (hl : ∀ i σ H, i ≤ xs.length → Pv i σ H → SqL K H a xs)
    (hs : ∀ i x σ H, xs[i]? = some x → Pv i σ H → g x σ H fun σ2 H2 => tb { D with nx := Pv (i + 1), ct := Pv (i + 1), bk := D.nx } σ2 H2) (hd : ∀ σ H, Pv xs.length σ H → D.nx σ H) :
    ∃ W : Nat → Nat → St → Hp → Prop, (∃ m, W 0 m σ H) ∧ ∀ i m σ H, W i m σ H →
      ((Itl K a).stop i H ∧ D.nx σ H) ∨ ((Itl K a).go i H ∧ ∃ N : St → Hp → Prop, (∀ σ' H', N σ' H' → ∃ m', m' < m ∧ W (i + 1) m' σ' H') ∧ ∀ x H', (Itl K a).yld i H x H' → g x σ H' fun σ2 H2 => tb { D with nx := N, ct := N, bk := D.nx } σ2 H2) := by
  refine ⟨fun i m σ H => m = xs.length - i ∧ i ≤ xs.length ∧ Pv i σ H, ⟨xs.length, by simp, Nat.zero_le _, h0⟩, ?_⟩
  rintro i m σ H ⟨rfl, hi, p⟩
  have q := hl i σ H hi p
  by_cases hlt : i < xs.length
  · refine .inr ⟨⟨xs, xs[i], q, by simp [hlt]⟩, Pv (i + 1), fun σ' H' p' => ⟨xs.length - (i + 1), by omega, rfl, hlt, p'⟩, fun x H' y => ?_⟩
    obtain ⟨e, y⟩ := y
    subst e
    exact hs i x σ _ (y xs q) p
  · have e : i = xs.length := by omega
    subst e
    exact .inl ⟨⟨xs, q, Nat.le_refl _⟩, hd σ H p⟩
theorem for_tup {K : PySem.W.Frag} {a : Addr} {xs : List V} {g : TG} {tb : TS} {D : Ends} {σ : St} {H : Hp} (Pv : Nat → St → Hp → Prop) (h0 : Pv 0 σ H) (hl : ∀ i σ H, i ≤ xs.length → Pv i σ H → SqT K H a xs)
    (hs : ∀ i x σ H, xs[i]? = some x → Pv i σ H → g x σ H fun σ2 H2 => tb { D with nx := Pv (i + 1), ct := Pv (i + 1), bk := D.nx } σ2 H2) (hd : ∀ σ H, Pv xs.length σ H → D.nx σ H) :
    ∃ W : Nat → Nat → St → Hp → Prop, (∃ m, W 0 m σ H) ∧ ∀ i m σ H, W i m σ H →
      ((Itt K a).stop i H ∧ D.nx σ H) ∨ ((Itt K a).go i H ∧ ∃ N : St → Hp → Prop, (∀ σ' H', N σ' H' → ∃ m', m' < m ∧ W (i + 1) m' σ' H') ∧ ∀ x H', (Itt K a).yld i H x H' → g x σ H' fun σ2 H2 => tb { D with nx := N, ct := N, bk := D.nx } σ2 H2) := by
  refine ⟨fun i m σ H => m = xs.length - i ∧ i ≤ xs.length ∧ Pv i σ H, ⟨xs.length, by simp, Nat.zero_le _, h0⟩, ?_⟩
  rintro i m σ H ⟨rfl, hi, p⟩
  have q := hl i σ H hi p
  by_cases hlt : i < xs.length
  · refine .inr ⟨⟨xs, xs[i], q, by simp [hlt]⟩, Pv (i + 1), fun σ' H' p' => ⟨xs.length - (i + 1), by omega, rfl, hlt, p'⟩, fun x H' y => ?_⟩
    obtain ⟨e, y⟩ := y
    subst e
    exact hs i x σ _ (y xs q) p
  · have e : i = xs.length := by omega
    subst e
    exact .inl ⟨⟨xs, q, Nat.le_refl _⟩, hd σ H p⟩
theorem for_range {lo : Int} {n : Nat} {g : TG} {tb : TS} {D : Ends} {σ : St} {H : Hp} (Pv : Nat → St → Hp → Prop) (h0 : Pv 0 σ H)
    (hs : ∀ i σ H, i < n → Pv i σ H → g (.int (lo + i)) σ H fun σ2 H2 => tb { D with nx := Pv (i + 1), ct := Pv (i + 1), bk := D.nx } σ2 H2) (hd : ∀ σ H, Pv n σ H → D.nx σ H) :
    ∃ W : Nat → Nat → St → Hp → Prop, (∃ m, W 0 m σ H) ∧ ∀ i m σ H, W i m σ H →
      ((Itr lo n).stop i H ∧ D.nx σ H) ∨ ((Itr lo n).go i H ∧ ∃ N : St → Hp → Prop, (∀ σ' H', N σ' H' → ∃ m', m' < m ∧ W (i + 1) m' σ' H') ∧ ∀ x H', (Itr lo n).yld i H x H' → g x σ H' fun σ2 H2 => tb { D with nx := N, ct := N, bk := D.nx } σ2 H2) := by
  refine ⟨fun i m σ H => m = n - i ∧ i ≤ n ∧ Pv i σ H, ⟨n, by simp, Nat.zero_le _, h0⟩, ?_⟩
  rintro i m σ H ⟨rfl, hi, p⟩
  by_cases hlt : i < n
  · refine .inr ⟨hlt, Pv (i + 1), fun σ' H' p' => ⟨n - (i + 1), by omega, rfl, hlt, p'⟩, fun x H' y => ?_⟩
    obtain ⟨e, y⟩ := y
    subst e y
    exact hs i σ _ hlt p
  · have e : i = n := by omega
    subst e
    exact .inl ⟨Nat.le_refl _, hd σ H p⟩
end L2
namespace L2
open PySem PySem.Spec PyProof.Rows
abbrev R2 := V → V → Hp → VK → Prop
def OpR (X : Cx) (f : Value → Value → Sem Value) (r : R2) : Prop :=
  ∀ (pins : List (Addr × Obj)) (s : Shared) (σ : St) (H : Hp) (x y : V) (v u : Value) (Q : VK), Inv X pins σ H s → RelV x v → RelV y u → r x y H Q →
    wpAny (model X.prog X.w) X.A (f v u) (EP X pins σ Q) X.xe s
def UnR (X : Cx) (f : Value → Sem Value) (r : V → Hp → VK → Prop) : Prop :=
  ∀ (pins : List (Addr × Obj)) (s : Shared) (σ : St) (H : Hp) (x : V) (v : Value) (Q : VK), Inv X pins σ H s → RelV x v → r x H Q →
    wpAny (model X.prog X.w) X.A (f v) (EP X pins σ Q) X.xe s
def CallR (X : Cx) (f : Value) (r : List V → Hp → VK → Prop) : Prop :=
  ∀ (pins : List (Addr × Obj)) (s : Shared) (σ : St) (H : Hp) (xs : List V) (us : List Value) (Q : VK), Inv X pins σ H s → Vals xs us → r xs H Q →
    wpAny (model X.prog X.w) X.A (call f us) (EP X pins σ Q) X.xe s
def tOp (r : R2) (ta tb : TE) : TE := fun σ H Q => ta σ H fun x H1 => tb σ H1 fun y H2 => r x y H2 Q
def tUn (r : V → Hp → VK → Prop) (ta : TE) : TE := fun σ H Q => ta σ H fun x H1 => r x H1 Q
def rI (C : Int → Int → Prop) (g : Int → Int → V) : R2 := fun x y H Q => ∃ i j, x = .int i ∧ y = .int j ∧ C i j ∧ Q (g i j) H
def rI0 (g : Int → Int → V) : R2 := fun x y H Q => ∃ i j, x = .int i ∧ y = .int j ∧ Q (g i j) H
def rU (g : Int → V) : V → Hp → VK → Prop := fun x H Q => ∃ i, x = .int i ∧ Q (g i) H
section
variable {X : Cx} {a b c : Expr} {ta tb tc : TE} {pos : Pos}
theorem binT (ha : PE X a ta) (hb : PE X b tb) {pins : List (Addr × Obj)} {s : Shared} {σ : St} {H : Hp} {R : V → V → Hp → Prop} (I : Inv X pins σ H s)
    (h : ta σ H fun x H1 => tb σ H1 fun y H2 => R x y H2) {Q : Value → Shared → Prop} {f : Value → Value → Sem Value}
    (hf : ∀ v u s2 x y H2, Inv X pins σ H2 s2 → RelV x v → RelV y u → R x y H2 → wpAny (model X.prog X.w) X.A (f v u) Q X.xe s2) :
    wpAny (model X.prog X.w) X.A (eval a X.env) (fun v s₁ => wpAny (model X.prog X.w) X.A (eval b X.env) (fun u s₂ => wpAny (model X.prog X.w) X.A (f v u) Q X.xe s₂) X.xe s₁) X.xe s := by
  refine thn (ha pins s σ H _ I h) fun v s1 ⟨x, H1, I1, r1, q1⟩ => ?_
  refine thn (hb pins s1 σ H1 _ I1 q1) fun u s2 ⟨y, H2, I2, r2, q2⟩ => ?_
  exact hf v u s2 x y H2 I2 r1 r2 q2
theorem pe_op {op : Operator} {r : R2} (ho : OpR X (binaryOp op) r) (ha : PE X a ta) (hb : PE X b tb) : PE X (.BinOp a op b pos) (tOp r ta tb) := by
  intro pins s σ H Q I h
  exact wpAny_BinOp (binT ha hb I h fun v u s2 x y H2 I2 rx ry q => ho pins s2 σ H2 x y v u Q I2 rx ry q)
theorem pe_un {op : UnaryOp} {r : V → Hp → VK → Prop} (ho : UnR X (unaryOp op) r) (ha : PE X a ta) : PE X (.UnaryOp op a pos) (tUn r ta) := by
  intro pins s σ H Q I h
  exact UnaryOp_ (thn (ha pins s σ H _ I h) fun v s1 ⟨x, H1, I1, r1, q1⟩ => ho pins s1 σ H1 x v Q I1 r1 q1)
theorem opI {f : Value → Value → Sem Value} {C : Int → Int → Prop} {g : Int → Int → Int}
    (rule : ∀ (i j : Int) (t u : Tok) (s : Shared) (Q : Value → Shared → Prop) (E : Value → Shared → Prop), C i j → Q (.int (g i j) s.toks) { s with toks := s.toks + 1 } → wpAny (model X.prog X.w) X.A (f (.int i t) (.int j u)) Q E s) :
    OpR X f (rI C fun i j => .int (g i j)) := by
  intro pins s σ H x y v u Q I rx ry h
  obtain ⟨i, j, rfl, rfl, hc, q⟩ := h
  obtain ⟨t, rfl⟩ := rx
  obtain ⟨t', rfl⟩ := ry
  exact rule i j t t' s _ _ hc ⟨.int (g i j), H, I.tok _, ⟨_, rfl⟩, q⟩
theorem opI0 {f : Value → Value → Sem Value} {g : Int → Int → Int}
    (rule : ∀ (i j : Int) (t u : Tok) (s : Shared) (Q : Value → Shared → Prop) (E : Value → Shared → Prop), Q (.int (g i j) s.toks) { s with toks := s.toks + 1 } → wpAny (model X.prog X.w) X.A (f (.int i t) (.int j u)) Q E s) :
    OpR X f (rI0 fun i j => .int (g i j)) := by
  intro pins s σ H x y v u Q I rx ry h
  obtain ⟨i, j, rfl, rfl, q⟩ := h
  obtain ⟨t, rfl⟩ := rx
  obtain ⟨t', rfl⟩ := ry
  exact rule i j t t' s _ _ ⟨.int (g i j), H, I.tok _, ⟨_, rfl⟩, q⟩
theorem opB0 {f : Value → Value → Sem Value} {g : Int → Int → Bool}
    (rule : ∀ (i j : Int) (t u : Tok) (s : Shared) (Q : Value → Shared → Prop) (E : Value → Shared → Prop), Q (.bool (g i j)) s → wpAny (model X.prog X.w) X.A (f (.int i t) (.int j u)) Q E s) :
    OpR X f (rI0 fun i j => .bl (g i j)) := by
  intro pins s σ H x y v u Q I rx ry h
  obtain ⟨i, j, rfl, rfl, q⟩ := h
  obtain ⟨t, rfl⟩ := rx
  obtain ⟨t', rfl⟩ := ry
  exact rule i j t t' s _ _ ⟨.bl (g i j), H, I, rfl, q⟩
def CPow (i j : Int) : Prop := 0 ≤ j ∧ j ≤ 1000000 ∧ i.natAbs < 2 ^ 64
def CMul (i j : Int) : Prop := (-(2 ^ 64) < i ∧ i < 2 ^ 64) ∨ (-(2 ^ 64) < j ∧ j < 2 ^ 64)
theorem CMul.ok {i j : Int} (h : CMul i j) : IntMulOk i j := by
  rcases h with ⟨h1, h2⟩ | ⟨h1, h2⟩
  · exact .of_left (intBits_le_64 h1 h2)
  · exact .of_right (intBits_le_64 h1 h2)
theorem op_add : OpR X (binaryOp .Add) (rI0 fun i j => .int (i + j)) := opI0 fun _ _ _ _ _ _ _ q => add_int q
theorem op_sub : OpR X (binaryOp .Sub) (rI0 fun i j => .int (i - j)) := opI0 fun _ _ _ _ _ _ _ q => sub_int q
theorem op_modN : OpR X (binaryOp .Mod) (rI (fun _ j => j ≠ 0) fun i j => .int (i.fmod j)) := opI fun _ _ _ _ _ _ _ hc q => mod_int' hc q
theorem op_pow : OpR X (binaryOp .Pow) (rI CPow fun i j => .int (i ^ j.toNat)) := opI fun _ _ _ _ _ _ _ hc q => pow_int_small hc.1 hc.2.1 hc.2.2 q
theorem op_shl : OpR X (binaryOp .LShift) (rI CPow fun i j => .int (i * 2 ^ j.toNat)) := opI fun _ _ _ _ _ _ _ hc q => lshift_int_small hc.1 hc.2.1 hc.2.2 q
theorem unI {f : Value → Sem Value} {g : Int → Int}
    (rule : ∀ (i : Int) (t : Tok) (s : Shared) (Q : Value → Shared → Prop) (E : Value → Shared → Prop), Q (.int (g i) s.toks) { s with toks := s.toks + 1 } → wpAny (model X.prog X.w) X.A (f (.int i t)) Q E s) :
    UnR X f (rU fun i => .int (g i)) := by
  intro pins s σ H x v Q I rx h
  obtain ⟨i, rfl, q⟩ := h
  obtain ⟨t, rfl⟩ := rx
  exact rule i t s _ _ ⟨.int (g i), H, I.tok _, ⟨_, rfl⟩, q⟩
theorem un_neg : UnR X (unaryOp .USub) (rU fun i => .int (-i)) := unI fun _ _ _ _ _ q => neg_int q
end
def scal : V → V → Bool
  | .non, .non => true | .non, .int _ => true | .int _, .non => true | .non, .bl _ => true | .bl _, .non => true | .non, .str _ => true | .str _, .non => true
  | .int _, .int _ => true | .bl _, .bl _ => true | .str _, .str _ => true | .byt _, .byt _ => true
  | .int _, .str _ => true | .str _, .int _ => true | .bl _, .str _ => true | .str _, .bl _ => true
  | _, _ => false
def rEq : R2 := fun x y H Q => scal x y = true ∧ Q (.bl (decide (x = y))) H
theorem dec_int {i j : Int} : decide (V.int i = V.int j) = (i == j) := by
  rw [Bool.eq_iff_iff]
  simp
theorem dec_bl {i j : Bool} : decide (V.bl i = V.bl j) = (i == j) := by
  rw [Bool.eq_iff_iff]
  simp
theorem dec_str {i j : Str} : decide (V.str i = V.str j) = (i == j) := by
  rw [Bool.eq_iff_iff]
  simp
theorem dec_byt {i j : Array UInt8} : decide (V.byt i = V.byt j) = (i.toList == j.toList) := by
  rw [Bool.eq_iff_iff]
  cases i
  cases j
  simp
section
variable {X : Cx} {a b c : Expr} {ta tb tc : TE} {pos : Pos}
theorem fin_bl {pins : List (Addr × Obj)} {σ : St} {H : Hp} {s : Shared} {Q : VK} {k k' : Bool} (I : Inv X pins σ H s) (q : Q (.bl k) H) (e : k = k') : EP X pins σ Q (.bool k') s := by
  subst e
  exact ⟨.bl k, H, I, rfl, q⟩
theorem op_eq : OpR X (compareOp .Eq) rEq := by
  intro pins s σ H x y v u Q I rx ry h
  obtain ⟨hs, q⟩ := h
  cases x with
  | non =>
    cases rx
    cases y with
    | non => cases ry; exact PySem.EqNone.eq_none_none (fin_bl I q (by simp))
    | bl j => cases ry; exact PySem.EqNone.eq_none_bool (fin_bl I q (by simp))
    | int j => obtain ⟨t', rfl⟩ := ry; exact PySem.EqNone.eq_none_int (fin_bl I q (by simp))
    | str j => obtain ⟨t', rfl⟩ := ry; exact PySem.EqNone.eq_none_str (fin_bl I q (by simp))
    | _ => exact absurd (show false = true from hs) Bool.false_ne_true
  | bl i =>
    cases rx
    cases y with
    | non => cases ry; exact PySem.EqNone.eq_bool_none (fin_bl I q (by simp))
    | bl j => cases ry; exact eq_bool (fin_bl I q dec_bl)
    | str j => obtain ⟨t', rfl⟩ := ry; exact PySem.EqMixed.eq_bool_str (fin_bl I q (by simp))
    | _ => exact absurd (show false = true from hs) Bool.false_ne_true
  | int i =>
    obtain ⟨t, rfl⟩ := rx
    cases y with
    | non => cases ry; exact PySem.EqNone.eq_int_none (fin_bl I q (by simp))
    | int j => obtain ⟨t', rfl⟩ := ry; exact eq_int (fin_bl I q dec_int)
    | str j => obtain ⟨t', rfl⟩ := ry; exact PySem.EqMixed.eq_int_str (fin_bl I q (by simp))
    | _ => exact absurd (show false = true from hs) Bool.false_ne_true
  | str i =>
    obtain ⟨t, rfl⟩ := rx
    cases y with
    | non => cases ry; exact PySem.EqNone.eq_str_none (fin_bl I q (by simp))
    | bl j => cases ry; exact PySem.EqMixed.eq_str_bool (fin_bl I q (by simp))
    | int j => obtain ⟨t', rfl⟩ := ry; exact PySem.EqMixed.eq_str_int (fin_bl I q (by simp))
    | str j => obtain ⟨t', rfl⟩ := ry; exact eq_str (fin_bl I q dec_str)
    | _ => exact absurd (show false = true from hs) Bool.false_ne_true
  | byt i =>
    obtain ⟨t, rfl⟩ := rx
    cases y with
    | byt j => obtain ⟨t', rfl⟩ := ry; exact PySem.W.eq_bytes (fin_bl I q dec_byt)
    | _ => exact absurd (show false = true from hs) Bool.false_ne_true
  | _ => cases y <;> exact absurd (show false = true from hs) Bool.false_ne_true
theorem op_lt : OpR X (compareOp .Lt) (rI0 fun i j => .bl (decide (i < j))) := opB0 fun _ _ _ _ _ _ _ q => lt_int q
theorem op_le : OpR X (compareOp .LtE) (rI0 fun i j => .bl (decide (i ≤ j))) := opB0 fun _ _ _ _ _ _ _ q => le_int q
theorem op_gt : OpR X (compareOp .Gt) (rI0 fun i j => .bl (decide (j < i))) := opB0 fun _ _ _ _ _ _ _ q => gt_int q
theorem nomark (b : Expr) {op : CmpOp} (h : op ≠ .In := by decide) (h2 : op ≠ .NotIn := by decide) : behindInMarks op b = false := by
  have e1 : (op == CmpOp.In) = false := by cases op <;> first | rfl | exact absurd rfl h
  have e2 : (op == CmpOp.NotIn) = false := by cases op <;> first | rfl | exact absurd rfl h2
  cases b <;> simp [behindInMarks, e1, e2]
theorem pe_cmpR {op : CmpOp} {r : R2} (ho : OpR X (compareOp op) r) (ha : PE X a ta) (hb : PE X b tb) (hm : behindInMarks op b = false) : PE X (.Compare a [op] [b] pos) (tOp r ta tb) := by
  intro pins s σ H Q I h
  exact wpAny_Compare1 (binT ha hb I h fun v u s2 x y H2 I2 rx ry q => ho pins s2 σ H2 x y v u Q I2 rx ry q) hm
def tTest (t : TE) : TT := fun σ H Q => t σ H fun x H' => ∃ k, x = .bl k ∧ Q k H'
theorem pt_cmpR {op : CmpOp} {r : R2} (ho : OpR X (compareOp op) r) (ha : PE X a ta) (hb : PE X b tb) (hm : behindInMarks op b = false) : PT X (.Compare a [op] [b] pos) (tTest (tOp r ta tb)) := by
  intro pins s σ H Q I h
  refine wpAny_isTrue_Compare1 (thn (ha pins s σ H _ I h) fun v s1 ⟨x, H1, I1, r1, q1⟩ => thn (hb pins s1 σ H1 _ I1 q1) fun u s2 ⟨y, H2, I2, r2, q2⟩ =>
    thn (ho pins s2 σ H2 x y v u _ I2 r1 r2 q2) fun c s3 ⟨z, H3, I3, r3, k, e, q3⟩ => ?_) hm
  subst e
  cases r3
  exact wpAny_truthy_bool ⟨H3, I3, q3⟩
def tChain (r r' : R2) (ta tb tc : TE) : TE := fun σ H Q => ta σ H fun x H1 => tb σ H1 fun y H2 => r x y H2 fun z H3 => ∃ k, z = .bl k ∧
  (if k = true then tc σ H3 fun w' H4 => r' y w' H4 Q else Q (.bl false) H3)
theorem pe_chain {op op' : CmpOp} {r r' : R2} (ho : OpR X (compareOp op) r) (ho' : OpR X (compareOp op') r') (ha : PE X a ta) (hb : PE X b tb) (hc : PE X c tc)
    (hm : lastMarks [op, op'] [b, c] = false := by with_unfolding_all rfl) : PE X (.Compare a [op, op'] [b, c] pos) (tChain r r' ta tb tc) := by
  intro pins s σ H Q I h
  refine Compare_chain (thn (ha pins s σ H _ I h) fun v s1 ⟨x, H1, I1, r1, q1⟩ => chain_link (thn (hb pins s1 σ H1 _ I1 q1) fun u s2 ⟨y, H2, I2, r2, q2⟩ =>
    thn (ho pins s2 σ H2 x y v u _ I2 r1 r2 q2) fun d s3 ⟨z, H3, I3, r3, k, e, q3⟩ => ?_)) hm
  subst e
  cases r3
  refine wpAny_truthy_bool ?_
  cases k with
  | false => exact ite_ff ⟨.bl false, H3, I3, rfl, q3⟩
  | true => exact ite_tt (chain_last (thn (hc pins s3 σ H3 _ I3 q3) fun w' s4 ⟨z', H4, I4, r4, q4⟩ => ho' pins s4 σ H4 y z' u w' Q I4 r2 r4 q4))
theorem line63 : (sizeLine : Nat) < 2 ^ 63 := by rw [sizeLine_eq]; decide
theorem vals1 {x : V} {us : List Value} (r : Vals [x] us) : ∃ u, us = [u] ∧ RelV x u := by
  cases r with
  | cons r1 r2 => cases r2; exact ⟨_, rfl, r1⟩
theorem vals2 {x y : V} {us : List Value} (r : Vals [x, y] us) : ∃ u w', us = [u, w'] ∧ RelV x u ∧ RelV y w' := by
  cases r with
  | cons r1 r2 =>
    cases r2 with
    | cons r3 r4 => cases r4; exact ⟨_, _, rfl, r1, r3⟩
theorem call_max2 (hc : X.calm = true) : CallR X (.builtin "max") (fun xs H Q => ∃ i j, xs = [.int i, .int j] ∧ Q (.int (if j > i then j else i)) H) := by
  intro pins s σ H xs us Q I r h
  obtain ⟨i, j, rfl, q⟩ := h
  obtain ⟨u, w', rfl, ⟨t, rfl⟩, ⟨t', rfl⟩⟩ := vals2 r
  refine max_two_ints (I.ok.hd hc) fun h' tk k => ⟨_, H, I.kept k, ?_, q⟩
  by_cases hj : j > i
  · rw [if_pos hj, if_pos hj]; exact ⟨_, rfl⟩
  · rw [if_neg hj, if_neg hj]; exact ⟨_, rfl⟩
theorem call_min2 (hc : X.calm = true) : CallR X (.builtin "min") (fun xs H Q => ∃ i j, xs = [.int i, .int j] ∧ Q (.int (if j < i then j else i)) H) := by
  intro pins s σ H xs us Q I r h
  obtain ⟨i, j, rfl, q⟩ := h
  obtain ⟨u, w', rfl, ⟨t, rfl⟩, ⟨t', rfl⟩⟩ := vals2 r
  refine min_two_ints (I.ok.hd hc) fun h' tk k => ⟨_, H, I.kept k, ?_, q⟩
  by_cases hj : j < i
  · rw [if_pos hj, if_pos hj]; exact ⟨_, rfl⟩
  · rw [if_neg hj, if_neg hj]; exact ⟨_, rfl⟩
theorem call_int1 : CallR X (.type "int") (fun xs H Q => (∃ i, xs = [.int i] ∧ Q (.int i) H) ∨ ∃ k, xs = [.bl k] ∧ Q (.int (if k then 1 else 0)) H) := by
  intro pins s σ H xs us Q I r h
  rcases h with ⟨i, rfl, q⟩ | ⟨k, rfl, q⟩
  · obtain ⟨u, rfl, t, rfl⟩ := vals1 r
    exact call_int_int ⟨.int i, H, I, ⟨_, rfl⟩, q⟩
  · obtain ⟨u, rfl, r1⟩ := vals1 r
    cases r1
    exact call_int_bool ⟨.int (if k then 1 else 0), H, I.tok _, ⟨_, rfl⟩, q⟩
end
end L2
namespace L2
open PySem PySem.Spec PyProof.Rows
structure ObjM (h : Heap) (x dx C : Addr) (mA : Str → Option Value) : Prop where
  obj : h.get? x = some (PySem.W.instObj C dx)
  ns : h.Ns1 dx mA
  ne : dx ≠ x
theorem lookIn_ns {h : Heap} {dx : Addr} {mA : Str → Option Value} (n : h.Ns1 dx mA) : ∃ od, h.get? dx = some od ∧ ∀ name, PySem.W.lookIn name od = some (mA name) := by
  obtain ⟨o, es, ep, ho, hd, hk, _, hm⟩ := n
  refine ⟨o, ho, fun name => ?_⟩
  have e := hm name
  unfold nsFind findBy at e
  rw [← Array.find?_toList] at e
  unfold PySem.W.lookIn
  rw [hd]
  dsimp only
  split
  · rename_i y q
    rw [q] at e
    exact congrArg some e
  · rename_i q
    rw [q] at e
    have a : es.toList.any (·.refKey) = false := by
      rw [List.any_eq_false]
      intro y hy
      obtain ⟨z, t, hkey⟩ := hk y (Array.mem_toList_iff.mp hy)
      simp [DictEntry.refKey, hkey]
    have a' : ¬ es.toList.any (·.refKey) = true := by rw [a]; exact Bool.false_ne_true
    rw [if_neg a']
    exact congrArg some e
theorem ObjM.look {h : Heap} {x dx C : Addr} {mA : Str → Option Value} (I : ObjM h x dx C mA) : ∃ od, PySem.W.InstAt h x (PySem.W.instObj C dx) C (some od) ∧ ∀ name, PySem.W.lookIn name od = some (mA name) :=
  let ⟨od, ho, hl⟩ := lookIn_ns I.ns
  ⟨od, ⟨I.obj, rfl, rfl, ho⟩, hl⟩
section
variable {prog : Program} {w : World} {A : Around} {E : Value → Shared → Prop} {s : Shared} {K : PySem.W.Frag} {x dx C f : Addr} {mA : Str → Option Value} {name : Str} {v : Value}
end
theorem RelO.some_of {v : V} {o : Option Value} (r : RelO (some v) o) : ∃ u, o = some u ∧ RelV v u := by
  cases o with
  | none => exact (show False from r).elim
  | some u => exact ⟨u, rfl, r⟩
theorem RelO.none_of {o : Option Value} (r : RelO none o) : o = none := by
  cases o with
  | none => rfl
  | some u => exact (show False from r).elim
section
variable {P : Program} {w : World} {H H' : Hp} {h h' : Heap} {a C dx : Addr} {fs fs' : List (Str × V)}
theorem ins_get (hok : HOk P w H h) (e : H a = some (.ins C dx fs)) : ∃ mA, ObjM h a dx C mA ∧ (∀ f, RelO (fs.lookup f) (mA f)) ∧ PySem.Within mA (fs.map (·.1)) ∧ fs.length ≤ 1000 ∧ H dx = some (.own a) := by
  obtain ⟨d, z, ne, ob, mA, n, r, q⟩ := (show ObjOk P w H h a (.ins C dx fs) from hok a _ e)
  exact ⟨mA, ⟨ob, n, ne⟩, r, q, z, d⟩
end
structure Cls (K : PySem.W.Frag) (C : Addr) : Prop where
  pg : PySem.W.plainGet K C Str.empty = true
  hd : PySem.W.hasDictIn K C = true
  po : PySem.W.plainOver K C = true
  sa : PySem.W.findIn K (.ref C) "__setattr__" = some (some (.builtin "object.__setattr__"))
theorem Cls.get {K : PySem.W.Frag} {C : Addr} (c : Cls K C) (f : Str) : PySem.W.plainGet K C f = true := c.pg
structure Con (K : PySem.W.Frag) (C : Addr) (f : Str) (v : V) (u : Value) : Prop where
  at_ : PySem.W.findIn K (.ref C) f = some (some u)
  rel : RelV v u
  get : PySem.W.specialIn K u "__get__" = some none
  cp : PySem.W.copiedNames.contains f = false
structure Meth (K : PySem.W.Frag) (C : Addr) (m : Str) (f : Addr) : Prop where
  at_ : PySem.W.findIn K (.ref C) m = some (some (.ref f))
  fn : PySem.W.isFn K (.ref f) = true
  kp : PySem.W.keepIn K (.ref f) = true
section
variable {X : Cx} {pins : List (Addr × Obj)} {σ : St} {H : Hp} {s : Shared} {a C dx : Addr} {fs : List (Str × V)} {f : Str} {v : V} {A : Around} {E : Value → Shared → Prop}
end
section
variable {X : Cx} {o e value : Expr} {f : Str} {pos pos' tpos : Pos} {ta tv : TE}
end
section
variable {X : Cx} {pins : List (Addr × Obj)} {σ : St} {H : Hp} {s : Shared} {A : Around} {E : Value → Shared → Prop} {Q : Value → Shared → Prop} {c : Value} {b : Bool}
inductive TyOf (K : PySem.W.Frag) (H : Hp) : V → Value → Prop where
  | non : TyOf K H .non (.type "NoneType")
  | bl (x : Bool) : TyOf K H (.bl x) (.type "bool")
  | int (i : Int) : TyOf K H (.int i) (.type "int")
  | str (x : Str) : TyOf K H (.str x) (.type "str")
  | flt (x : UInt64) : TyOf K H (.flt x) (.type "float")
  | lst {a : Addr} {xs : List V} (e : H a = some (.lst xs)) : TyOf K H (.ref a) (.type "list")
  | frz {a : Addr} {o : Obj} {xs : List V} (e : H a = some (.frz o (.lst xs))) : TyOf K H (.ref a) (.type "list")
  | tup {a : Addr} {xs : List V} (e : H a = some (.tup xs)) : TyOf K H (.ref a) (.type "tuple")
  | dK {a : Addr} {kvs : List (Key × V)} (e : H a = some (.dK kvs)) : TyOf K H (.ref a) (.type "dict")
  | dT {a : Addr} {kvs : List (List Key × V)} (e : H a = some (.dT kvs)) : TyOf K H (.ref a) (.type "dict")
  | ins {a C dx : Addr} {fs : List (Str × V)} (e : H a = some (.ins C dx fs)) (cl : Cls K C) (ha : PySem.W.findIn K (.ref C) "__class__" = some (some (.builtin "object.__class__")))
      (hn : PySem.W.specialIn K (.builtin "object.__class__") "__get__" = some (some (.builtin "getset_descriptor.__get__"))) (htk : PySem.W.takesIn K (.builtin "object.__class__") = some true)
      (hm : PySem.W.mroIn K C (.type "object") = some true) : TyOf K H (.ref a) (.ref C)
theorem isinst_ok {x : V} {u t : Value} (I : Inv X pins σ H s) (rx : RelV x u) (ty : TyOf X.K H x t) (e : PySem.W.kitOne X.K t c = some b) (h : ∀ tk, Q (.bool b) { s with toks := tk }) :
    wpAny (model X.prog X.w) A (call (.builtin "isinstance") [u, c]) Q E s := by
  cases ty with
  | non => cases (show u = Value.none from rx); exact PySem.W.kia_one PySem.W.kitx_none I.kIn True.intro e (fun z => nomatch z) h
  | bl y => cases (show u = Value.bool y from rx); exact PySem.W.kia_one PySem.W.kitx_bool I.kIn True.intro e (fun z => nomatch z) h
  | int i => obtain ⟨t, q⟩ := (show ∃ t, u = Value.int i t from rx); cases q; exact PySem.W.kia_one PySem.W.kitx_int I.kIn True.intro e (fun z => nomatch z) h
  | str y => obtain ⟨t, q⟩ := (show ∃ t, u = Value.str y t from rx); cases q; exact PySem.W.kia_one PySem.W.kitx_str I.kIn True.intro e (fun z => nomatch z) h
  | flt y => obtain ⟨t, q⟩ := (show ∃ t, u = Value.float y t from rx); cases q; exact PySem.W.kia_one PySem.W.kitx_float I.kIn True.intro e (fun z => nomatch z) h
  | @lst a xs ea =>
    cases (show u = Value.ref a from rx)
    obtain ⟨_, _, n, _, h1⟩ := (show ObjOk X.prog X.w H s.heap a (.lst xs) from I.hok a _ ea)
    exact PySem.W.kia_one PySem.W.kitx_list I.kIn ⟨_, h1, rfl⟩ e (fun z => nomatch z) h
  | @frz a ob xs ea =>
    cases (show u = Value.ref a from rx)
    obtain ⟨_, _, _, n, _, h1⟩ := (show ObjOk X.prog X.w H s.heap a (.frz ob (.lst xs)) from I.hok a _ ea)
    exact PySem.W.kia_one PySem.W.kitx_list I.kIn ⟨_, h1, rfl⟩ e (fun z => nomatch z) h
  | @tup a xs ea =>
    cases (show u = Value.ref a from rx)
    obtain ⟨_, _, _, p⟩ := (show ObjOk X.prog X.w H s.heap a (.tup xs) from I.hok a _ ea)
    obtain ⟨o, h1, h2, _⟩ := p
    exact PySem.W.kia_one PySem.W.kitx_tuple I.kIn ⟨o, h1, h2⟩ e (fun z => nomatch z) h
  | @dK a kvs ea =>
    cases (show u = Value.ref a from rx)
    obtain ⟨_, _, vs, _, p⟩ := (show ObjOk X.prog X.w H s.heap a (.dK kvs) from I.hok a _ ea)
    obtain ⟨o, es, ep, h1, h2, _⟩ := p
    exact PySem.W.kia_one PySem.W.kitx_dict I.kIn ⟨o, h1, h2.1⟩ e (fun z => nomatch z) h
  | @dT a kvs ea =>
    cases (show u = Value.ref a from rx)
    obtain ⟨_, _, xs, _, o, es, ep, h1, h2, _⟩ := (show ObjOk X.prog X.w H s.heap a (.dT kvs) from I.hok a _ ea)
    exact PySem.W.kia_one PySem.W.kitx_dict I.kIn ⟨o, h1, h2.1⟩ e (fun z => nomatch z) h
  | @ins a C dx fs ea cl ha hn htk hm =>
    cases (show u = Value.ref a from rx)
    obtain ⟨mA, O, _⟩ := ins_get I.hok ea
    obtain ⟨od, J, _⟩ := O.look
    exact PySem.W.kia_one (PySem.W.kitx_own (cl.get _) cl.hd ha hn htk hm) I.kIn J e (fun z => nomatch z) h
end
end L2
namespace L2
open PySem PySem.Spec PyProof.Rows
structure Room (k : Nat) (A : Around) : Prop where
  hd : A.handled = none
  dp : A.depth + 3 * k + 5 < recursionLimit
  un : A.units + 16 * k + 200 < cLine
theorem Room.mono {j k : Nat} {A : Around} (r : Room k A) (h : j ≤ k) : Room j A := ⟨r.hd, by have := r.dp; omega, by have := r.un; omega⟩
theorem Room.deeper {k : Nat} {A : Around} (r : Room (k + 1) A) (env : Env) : Room k (A.deeper env) :=
  ⟨r.hd, by have := r.dp; show A.depth + 1 + 3 * k + 5 < _; omega, by have := r.un; show A.units + 3 + 16 * k + 200 < _; omega⟩
theorem Room.in1 {k : Nat} {A : Around} (r : Room (k + 1) A) : Room k A.in1 :=
  ⟨r.hd, by have := r.dp; show A.depth + 3 * k + 5 < _; omega, by have := r.un; show A.units + 1 + 16 * k + 200 < _; omega⟩
theorem Room.depth {k : Nat} {A : Around} (r : Room k A) : A.depth < recursionLimit := by have := r.dp; omega
theorem Room.units {k : Nat} {A : Around} (r : Room k A) : A.units + 64 < cLine := by have := r.un; omega
def tNil : TA := fun _ H Q => Q [] H
def tCons (ta : TE) (tr : TA) : TA := fun σ H Q => ta σ H fun x H1 => tr σ H1 fun xs H2 => Q (x :: xs) H2
section
variable {X : Cx} {e : Expr} {es : List Expr} {te : TE} {t : TA} {pos : Pos}
theorem pa_nil : PA X [] tNil := fun _ _ _ _ H Q I h => Calls.spliced_nil ⟨[], H, I, .nil, h⟩
theorem pa_cons (ha : PE X e te) (hr : PA X es t) (hs : starEach (e :: es) X.env = (false, eval e X.env) :: starEach es X.env := by rfl) : PA X (e :: es) (tCons te t) := by
  intro pos pins s σ H Q I h
  rw [hs]
  show wpAny _ _ (spliced ((false, eval e X.env) :: backTo pos (starEach es X.env))) _ _ s
  refine Calls.spliced_cons (thn (ha pins s σ H _ I h) fun u s1 ⟨x, H1, I1, r1, q1⟩ => ?_)
  exact thn (hr pos pins s1 σ H1 _ I1 q1) fun us s2 ⟨xs, H2, I2, r2, q2⟩ => ⟨x :: xs, H2, I2, .cons r1 r2, q2⟩
def tTup (t : TA) : TE := fun σ H Q => t σ H fun xs H1 => xs.length ≤ sizeLine ∧ ∀ p, H1 p = none → Q (.ref p) (upd H1 p (.tup xs))
def tLst (t : TA) : TE := fun σ H Q => t σ H fun xs H1 => xs.length ≤ sizeLine ∧ ∀ p, H1 p = none → Q (.ref p) (upd H1 p (.lst xs))
theorem pe_tup {x1} (h : PA X es t) : PE X (.Tuple es x1 pos) (tTup t) := by
  intro pins s σ H Q I hq
  refine wpAny_Tuple_spliced (thn (h pos pins s σ H _ I hq) fun us s1 ⟨xs, H1, I1, r, z, q⟩ => ⟨by rw [← r.length]; exact z, ?_⟩)
  have hf : H1 s1.heap.objs.size = none := I1.hok.fresh (Nat.le_refl _)
  refine ⟨.ref s1.heap.objs.size, upd H1 s1.heap.objs.size (.tup xs), I1.laid (t' := s1.toks) (fun b u e => Heap.get?_push_of_some _ e) (Nat.le_refl _) ?_, rfl, q _ hf⟩
  exact ⟨z, us, r, ⟨_, Heap.get?_push_size _ rfl, rfl, _, rfl⟩⟩
theorem pe_lst (h : PA X es t) : PE X (.List es pos) (tLst t) := by
  intro pins s σ H Q I hq
  refine wpAny_List_spliced (thn (h pos pins s σ H _ I hq) fun us s1 ⟨xs, H1, I1, r, z, q⟩ => ⟨by rw [← r.length]; exact z, ?_⟩)
  have hf : H1 s1.heap.objs.size = none := I1.hok.fresh (Nat.le_refl _)
  refine ⟨.ref s1.heap.objs.size, upd H1 s1.heap.objs.size (.lst xs), I1.laid (t' := s1.toks) (fun b u e => Heap.get?_push_of_some _ e) (Nat.le_refl _) ?_, rfl, q _ hf⟩
  exact ⟨z, us, 0, r, Heap.get?_push_size _ rfl⟩
end
abbrev Sp := List V → Hp → VK → XK → Prop
abbrev CXT := List Env → Hp → Shared → XK → Value → Shared → Prop
structure Env0 (P : Program) (w : World) (K : PySem.W.Frag) (mg : Str → Option Value) (base : Heap) (A : Around) (outer : List Env) (s : Shared) (H : Hp) : Prop where
  frames : A.frames = some outer
  mod : Mod K mg base
  bs : ∀ b o, base.get? b = some o → s.heap.get? b = some o ∧ H b = none
  bsz : base.objs.size ≤ s.heap.objs.size
  funs : s.heap.FunFrames base outer
  frf : ∀ b ∈ frs outer, H b = none
  hok : HOk P w H s.heap
  bare : AllBare s.gens
def CE (outer : List Env) (P : Program) (w : World) (H : Hp) (s : Shared) (Q : VK) (u : Value) (s' : Shared) : Prop :=
  ∃ v H', s'.os = s.os ∧ AllBare s'.gens ∧ Un (frs outer) [] H H' s.heap s'.heap ∧ HOk P w H' s'.heap ∧ RelV v u ∧ Q v H'
def CR (CX : CXT) (outer : List Env) (P : Program) (w : World) (H : Hp) (s : Shared) (Q : VK) (E : XK) (r : Result) (s' : Shared) : Prop :=
  match r with
  | .ok (.ret u) => CE outer P w H s Q u s'
  | .ok _ => False
  | .error e => CX outer H s E e s'
structure FnOk (P : Program) (w : World) (K : PySem.W.Frag) (mg : Str → Option Value) (base : Heap) (CX : CXT) (k : Nat) (f : Addr) (fd : FuncData) (ps : List Str) (sp : Sp) : Prop where
  len : ∀ vs H Q E, sp vs H Q E → vs.length = ps.length
  run : ∀ (A : Around) (outer : List Env) (s : Shared) (H : Hp) (args : Args) (us : List Value) (vs : List V) (Q : VK) (E : XK), Room k A → Env0 P w K mg base A outer s H → BindsTo s fd args (ps.zip us) → Vals vs us → sp vs H Q E →
    codeAny (model P w) A (.call (.ref f) args) (CR CX outer P w H s Q E) s
theorem FnOk.mono {P : Program} {w : World} {K : PySem.W.Frag} {mg : Str → Option Value} {base : Heap} {CX : CXT} {j k : Nat} {f : Addr} {fd : FuncData} {ps : List Str} {sp : Sp} (F : FnOk P w K mg base CX j f fd ps sp) (h : j ≤ k) :
    FnOk P w K mg base CX k f fd ps sp := ⟨F.len, fun A outer s H args us vs Q E hr => F.run A outer s H args us vs Q E (hr.mono h)⟩
theorem FnOk.imp {P : Program} {w : World} {K : PySem.W.Frag} {mg : Str → Option Value} {base : Heap} {CX : CXT} {k : Nat} {f : Addr} {fd : FuncData} {ps : List Str} {sp sp' : Sp} (F : FnOk P w K mg base CX k f fd ps sp)
    (h : ∀ vs H Q E, sp' vs H Q E → sp vs H Q E) : FnOk P w K mg base CX k f fd ps sp' :=
  ⟨fun vs H Q E q => F.len vs H Q E (h _ _ _ _ q), fun A outer s H args us vs Q E hr he hb hv hs => F.run A outer s H args us vs Q E hr he hb hv (h _ _ _ _ hs)⟩
theorem Env0.in1 {P : Program} {w : World} {K : PySem.W.Frag} {mg : Str → Option Value} {base : Heap} {A : Around} {outer : List Env} {s : Shared} {H : Hp} (e : Env0 P w K mg base A outer s H) :
    Env0 P w K mg base A.in1 outer s H := ⟨e.frames, e.mod, e.bs, e.bsz, e.funs, e.frf, e.hok, e.bare⟩
section
variable {X : Cx} {pins : List (Addr × Obj)} {σ : St} {H : Hp} {s s' : Shared}
theorem Inv.env0 (I : Inv X pins σ H s) : Env0 X.prog X.w X.K X.mg X.base X.A X.stack s H :=
  ⟨I.ok.frames, I.ok.mod, I.bs, Nat.le_trans I.ok.bsz I.sz, I.stack, I.stkFree, I.hok, I.bare⟩
theorem Inv.after {Q : VK} {u : Value} (I : Inv X pins σ H s) (h : CE X.stack X.prog X.w H s Q u s') : EP X pins σ Q u s' := by
  obtain ⟨v, H', os, bare, un, hok, r, q⟩ := h
  obtain ⟨hh, g, d, t, os'⟩ := s'
  obtain rfl : os' = s.os := os
  exact ⟨v, H', I.call (h' := hh) (g' := g) (d' := d) (t' := t) (ch := []) un hok bare (fun b z => absurd z (by simp)), r, q⟩
end
def tCall (sp : Sp) (dvs : List V) (E : XK) (t : TA) : TE := fun σ H Q => t σ H fun vs H1 => sp (vs ++ dvs) H1 Q E
def Binds (K : PySem.W.Frag) (fd : FuncData) (ps : List Str) (ds : List Value) : Prop :=
  ∀ (s : Shared) (us : List Value), K.In s.heap → (us ++ ds).length = ps.length → BindsTo s fd ⟨us, []⟩ (ps.zip (us ++ ds))
theorem Binds.all {K : PySem.W.Frag} {fd : FuncData} {ps : List Str} (h : ∀ us : List Value, us.length = ps.length → bindArgs fd ⟨us, []⟩ = pure (ps.zip us)) : Binds K fd ps [] := fun s us _ hl => by
  rw [List.append_nil] at hl ⊢
  exact .of_eq (h us hl)
def Passes (CX : CXT) (X : Cx) (E : XK) : Prop := ∀ (pins : List (Addr × Obj)) (σ : St) (H : Hp) (s : Shared) (e : Value) (s' : Shared), Inv X pins σ H s → CX X.stack H s E e s' → X.xe e s'
section
variable {X : Cx} {CX : CXT} {k : Nat} {f C : Addr} {fd : FuncData} {ps : List Str} {sp : Sp} {dvs : List V} {ds : List Value} {E : XK} {x m : Str} {p pos apos : Pos} {e o : Expr} {es : List Expr} {ta : TE} {t : TA}
theorem run_fn {pins : List (Addr × Obj)} {σ : St} {H : Hp} {s : Shared} {Q : VK} {us : List Value} {vs : List V} (F : FnOk X.prog X.w X.K X.mg X.base CX k f fd ps sp) (hr : Room k X.A) (hb : Binds X.K fd ps ds) (hd : Vals dvs ds) (hx : Passes CX X E)
    (I : Inv X pins σ H s) (r : Vals vs us) (h : sp (vs ++ dvs) H Q E) : wpAny (model X.prog X.w) X.A (call (.ref f) us) (EP X pins σ Q) X.xe s := by
  have r2 : Vals (vs ++ dvs) (us ++ ds) := r.append hd
  have hl : (us ++ ds).length = ps.length := by rw [← r2.length]; exact F.len _ _ _ _ h
  refine wpAny_call (codeAny_mono (F.run X.A X.stack s H ⟨us, []⟩ (us ++ ds) (vs ++ dvs) Q E hr I.env0 (hb s us I.kIn hl) r2 h) fun r s' hq => ?_)
  cases r with
  | error e => exact hx pins σ H s e s' I hq
  | ok fl =>
    cases fl with
    | ret u => exact I.after hq
    | next => exact False.elim hq
    | brk => exact False.elim hq
    | cont => exact False.elim hq
theorem pe_call (F : FnOk X.prog X.w X.K X.mg X.base CX k f fd ps sp) (hr : Room k X.A) (hg : Gl X x) (hm : X.mg x = some (.ref f)) (hk : PySem.W.keepIn X.K (.ref f) = true) (hb : Binds X.K fd ps ds) (hd : Vals dvs ds) (hx : Passes CX X E)
    (ha : PA X (e :: es) t) (hdb : (x == ("__debug__" : Str)) = false := by decide) (he : starEach (e :: es) X.env = (false, eval e X.env) :: starEach es X.env := by rfl) (hpl : (backTo pos (starEach es X.env)).any (·.1) = false := by rfl) :
    PE X (.Call (.Name x p) (e :: es) [] pos) (tCall sp dvs E t) := by
  intro pins s σ H Q I h
  refine wpAny_Call_Name_kw (ld_glob I hg hm ?_ hdb)
  refine PySem.W.callWith_K (h₀ := X.base) I.ok.mod.kin hk (thn (ha pos pins s σ H _ I h) fun us s1 ⟨vs, H1, I1, r, q⟩ => ⟨I1.kIn, ?_⟩) he hpl
  exact run_fn F hr hb hd hx I1 r q
structure Mk (K : PySem.W.Frag) (C f : Addr) : Prop where
  makes : PySem.W.makesIn K C = true
  init : PySem.W.findIn K (.ref C) "__init__" = some (some (.ref f))
  fn : PySem.W.isFn K (.ref f) = true
  kp : PySem.W.keepIn K (.ref C) = true
end
section
variable {X : Cx} {CX : CXT} {k : Nat} {f C : Addr} {fd : FuncData} {ps ks : List Str} {sp : Sp} {E : XK} {x m : Str} {p pos apos kpos : Pos} {e o : Expr} {es : List Expr} {kws : List Keyword} {te ta : TE} {t tk : TA} {nm : Option Str}
structure KBinds (K : PySem.W.Frag) (fd : FuncData) (ps ks : List Str) (g : List Value → List Value → List Value) (gV : List V → List V → List V) : Prop where
  to : ∀ (s : Shared) (us ws : List Value), K.In s.heap → (g us ws).length = ps.length → BindsTo s fd ⟨us, ks.zip ws⟩ (ps.zip (g us ws))
  rel : ∀ {vs : List V} {us : List Value} {zs : List V} {ws : List Value}, Vals vs us → Vals zs ws → Vals (gV vs zs) (g us ws)
variable {g : List Value → List Value → List Value} {gV : List V → List V → List V}
end
structure FnScope (N P : List Str) (sc : Scope) : Prop where
  kind : sc.kind = .function
  co : sc.isCoroutine = false
  gen : sc.isGenerator = false
  nd : N.Nodup
  pre : N.take P.length = P
  par : ∀ x ∈ P, sc.names.lookup x = some .local ∨ sc.names.lookup x = some .cell
  nofree : ∀ y ∈ sc.names, y.2 ≠ .free
theorem bindL_out {kindOf : Str → Option NameKind} {x : Str} : ∀ {binds : List (Str × Value)} {m : Str → Option Value}, (∀ v, (x, v) ∉ binds) → bindL kindOf binds m x = m x
  | [], _, _ => rfl
  | (n, v) :: r, m, h => by
    unfold bindL
    rw [bindL_out fun w hw => h w (List.mem_cons_of_mem _ hw)]
    split
    · have : x ≠ n := by rintro rfl; exact h v List.mem_cons_self
      simp [this]
    · rfl
theorem bindC_out {kindOf : Str → Option NameKind} {x : Str} : ∀ {binds : List (Str × Value)} {m : Str → Option Value}, (∀ v, (x, v) ∉ binds) → bindC kindOf binds m x = m x
  | [], _, _ => rfl
  | (n, v) :: r, m, h => by
    unfold bindC
    rw [bindC_out fun w hw => h w (List.mem_cons_of_mem _ hw)]
    split
    · rfl
    · have : x ≠ n := by rintro rfl; exact h v List.mem_cons_self
      simp [this]
theorem bindL_get {kindOf : Str → Option NameKind} {x : Str} {v : Value} : ∀ {P : List Str} {vs : List Value} {i : Nat} {m : Str → Option Value}, P.Nodup → P[i]? = some x → vs[i]? = some v → kindOf x = some .local →
    bindL kindOf (P.zip vs) m x = some v
  | [], _, _, _, _, h, _, _ => by simp at h
  | _ :: _, [], _, _, _, _, h, _ => by simp at h
  | p :: P, w :: vs, 0, m, nd, h1, h2, hk => by
    simp at h1 h2; subst h1; subst h2
    show bindL kindOf ((p, w) :: P.zip vs) m p = _
    unfold bindL
    rw [bindL_out fun v hv => (List.nodup_cons.mp nd).1 (List.of_mem_zip hv).1, if_pos hk]
    simp
  | p :: P, w :: vs, i + 1, m, nd, h1, h2, hk => by
    show bindL kindOf ((p, w) :: P.zip vs) m x = _
    unfold bindL
    exact bindL_get (i := i) (List.nodup_cons.mp nd).2 (by simpa using h1) (by simpa using h2) hk
theorem bindC_get {kindOf : Str → Option NameKind} {x : Str} {v : Value} : ∀ {P : List Str} {vs : List Value} {i : Nat} {m : Str → Option Value}, P.Nodup → P[i]? = some x → vs[i]? = some v → kindOf x ≠ some .local →
    bindC kindOf (P.zip vs) m x = some v
  | [], _, _, _, _, h, _, _ => by simp at h
  | _ :: _, [], _, _, _, _, h, _ => by simp at h
  | p :: P, w :: vs, 0, m, nd, h1, h2, hk => by
    simp at h1 h2; subst h1; subst h2
    show bindC kindOf ((p, w) :: P.zip vs) m p = _
    unfold bindC
    rw [bindC_out fun v hv => (List.nodup_cons.mp nd).1 (List.of_mem_zip hv).1, if_neg hk]
    simp
  | p :: P, w :: vs, i + 1, m, nd, h1, h2, hk => by
    show bindC kindOf ((p, w) :: P.zip vs) m x = _
    unfold bindC
    exact bindC_get (i := i) (List.nodup_cons.mp nd).2 (by simpa using h1) (by simpa using h2) hk
def start (N : List Str) (vs : List V) : St := vs.map some ++ List.replicate (N.length - vs.length) none
def cxOf (CX : CXT) (P : Program) (w : World) (K : PySem.W.Frag) (mg : Str → Option Value) (base : Heap) (N : List Str) (qual : Str) (scope : Scope) (f : Addr) (cd : Value) (A : Around) (outer : List Env) (s : Shared) (H : Hp) (E : XK) : Cx where
  prog := P
  w := w
  K := K
  mg := mg
  base := base
  A := A.deeper (envOfC qual scope s.heap.objs.size f cd)
  N := N
  s₀ := s
  H₀ := H
  env := envOfC qual scope s.heap.objs.size f cd
  outer := outer
  stack := envOfC qual scope s.heap.objs.size f cd :: outer
  ex := []
  calm := true
  fn := fun _ => true
  pn := []
  xe := fun e s' => wpAny (model P w) (A.deeper (envOfC qual scope s.heap.objs.size f cd)) (leaving (envOfC qual scope s.heap.objs.size f cd) e) (fun _ s'' => CX outer H s E e s'') (fun e' s'' => CX outer H s E e' s'') s'
theorem cell_has {sc : Scope} {n : Nat} {x : Str} (h : sc.names.lookup x = some .cell) : ∃ c, (cellsFrom n sc.names []).lookup x = some c := by
  have q := PySem.W.cellsFrom_some sc.names n [] (.inl h)
  exact Option.isSome_iff_exists.mp q
theorem inv_start {CX : CXT} {P : Program} {w : World} {K : PySem.W.Frag} {mg : Str → Option Value} {base : Heap} {N ps : List Str} {qual : Str} {scope : Scope} {f : Addr} {cd : Value} {A : Around} {outer : List Env} {s s1 : Shared} {H : Hp} {E : XK} {us : List Value} {vs : List V}
    (S : FnScope N ps scope) (hd : A.handled = none) (e0 : Env0 P w K mg base A outer s H) (hl : vs.length = ps.length) (r : Vals vs us)
    (x : InCallC s s.heap.objs.size (bindL (envOfC qual scope s.heap.objs.size f cd).kindOf (ps.zip us) fun _ => none) (cellsFrom (s.heap.objs.size + 1) scope.names []) (bindC (envOfC qual scope s.heap.objs.size f cd).kindOf (ps.zip us) fun _ => none) s1) :
    Inv (cxOf CX P w K mg base N qual scope f cd A outer s H E) [] (start N vs) H s1 := by
  have hpl : ps.length ≤ N.length := by have := congrArg List.length S.pre; rw [List.length_take] at this; omega
  obtain ⟨h1, tk, rfl, hk⟩ := x.done
  have noA : ∀ b : Addr, b ∉ (cxOf CX P w K mg base N qual scope f cd A outer s H E).ex := fun b z => absurd (show b ∈ ([] : List Addr) from z) (by simp)
  refine ⟨⟨e0.mod, S.kind, rfl, rfl, Nat.le_refl _, fun y z c h1 h2 => ?_, fun y hy => ?_, fun y c _ h => ?_, fun _ => hd, Around.frames_deeper e0.frames, .inr ⟨rfl, rfl⟩, fun b z => absurd z (noA b), e0.bs, e0.bsz, fun b _ _ => noA b, fun b z => absurd z (noA b), e0.funs, e0.frf⟩,
    rfl, e0.bare, Un.kept hk, ⟨_, x.toInCall.ns, fun i y v h1 h2 h3 => ?_⟩, fun y c h => ⟨_, x.cell y c h⟩, e0.hok.fresh (Nat.le_refl _), fun y c h => ?_, fun p hp => absurd (show p ∈ ([] : List (Addr × Obj)) from hp) (by simp), e0.hok.kept hk, ?_⟩
  · exact name_of_addr x.apart (PySem.mem_of_lookup h1) (PySem.mem_of_lookup h2)
  · have hy : scope.names.lookup y = some .cell ∨ scope.names.lookup y = some .free := hy
    rcases hy with hy | hy
    · exact cell_has hy
    · exact absurd rfl (S.nofree _ (PySem.mem_of_lookup hy))
  · exact Nat.le_of_lt (x.above y c (PySem.mem_of_lookup h))
  · have hi : i < vs.length := by
      unfold start at h2
      by_cases hi : i < vs.length
      · exact hi
      · rw [List.getElem?_append_right (by simpa using hi)] at h2
        rw [List.getElem?_replicate] at h2
        split at h2 <;> cases h2
    have ha : vs[i]? = some v := by
      unfold start at h2
      rw [List.getElem?_append_left (by simpa using hi), List.getElem?_map] at h2
      cases e : vs[i]? with
      | none => rw [e] at h2; cases h2
      | some a => rw [e] at h2; cases h2; rfl
    obtain ⟨u, hu, rv⟩ := r.get ha
    have hp : ps[i]? = some y := by
      rw [← S.pre, List.getElem?_take_of_lt (by omega)]; exact h1
    have ndP : ps.Nodup := by rw [← S.pre]; exact S.nd.sublist (List.take_sublist _ _)
    refine ⟨u, rv, ?_⟩
    rcases S.par y (List.mem_of_getElem? hp) with k | k
    · exact .inl ⟨k, bindL_get ndP hp hu k⟩
    · obtain ⟨c, e⟩ := cell_has (n := s.heap.objs.size + 1) k
      refine .inr ⟨.inl k, c, e, ?_⟩
      have q := x.cell y c e
      rw [bindC_get ndP hp hu (by show scope.names.lookup y ≠ _; rw [k]; decide)] at q
      exact q
  · exact e0.hok.fresh (Nat.le_of_lt (x.above y c (PySem.mem_of_lookup h)))
  · unfold start
    show _ = N.length
    rw [List.length_append, List.length_map, List.length_replicate]
    omega
theorem fn_of {CX : CXT} {P : Program} {w : World} {K : PySem.W.Frag} {mg : Str → Option Value} {base : Heap} {k : Nat} {f : Addr} {name qual : Str} {params : Arguments} {body : List Stmt} {scope : Scope} {dV kV doc pm cdv ct oc : Value} {an od : Option Addr}
    {osl : Array (Option Value)} {N ps : List Str} {sp : Sp} (lk : K.lookup f = some ⟨oc, od, .func (PySem.W.fnOf name qual params body scope dV kV doc pm an cdv ct), osl⟩) (hcd : PySem.W.codeIn K cdv qual = true) (S : FnScope N ps scope)
    (len : ∀ vs H Q E, sp vs H Q E → vs.length = ps.length)
    (hbody : ∀ (A : Around) (outer : List Env) (s : Shared) (H : Hp) (vs : List V) (Q : VK) (E : XK), Room k (A.deeper (envOfC qual scope s.heap.objs.size f cdv)) → sp vs H Q E →
      ∃ t, PSs (cxOf CX P w K mg base N qual scope f cdv A outer s H E) body t ∧ t { nx := fun _ H' => Q .non H', rt := Q } (start N vs) H) :
    FnOk P w K mg base CX (k + 1) f (PySem.W.fnOf name qual params body scope dV kV doc pm an cdv ct) ps sp := by
  refine ⟨len, fun A outer s H args us vs Q E hr e0 hb r hsp => ?_⟩
  have hl := len _ _ _ _ hsp
  have KX : K.In s.heap := e0.mod.kin.keeps fun b o e => (e0.bs b o e).1
  have lim : s.heap.NoLimit := e0.mod.nolimit.keeps fun b o e => (e0.bs b o e).1
  have hkind : ∀ y ∈ ps.zip us, scope.names.lookup y.1 = some .local ∨ (scope.names.lookup y.1 = some .cell ∧ ((cellsFrom (s.heap.objs.size + 1) scope.names []).lookup y.1).isSome = true) := fun ⟨n, v⟩ hy => by
    rcases S.par n (List.of_mem_zip hy).1 with q | q
    · exact .inl q
    · exact .inr ⟨q, PySem.W.cellsFrom_some _ _ _ (.inl q)⟩
  refine codeAny_call_function hr.depth (KX _ _ lk) rfl S.co S.gen rfl (PySem.W.codeRec_of KX hcd) (hb _ _ _ _ ?_)
  refine wpAny_newFunctionEnv_cells S.kind hkind fun env he s1 x => ?_
  subst he
  refine ⟨lim.keeps x.toInCall.keep, codeAny_func ?_⟩
  obtain ⟨t, ht, hq⟩ := hbody A outer s H vs Q E (hr.deeper _) hsp
  have I : Inv (cxOf CX P w K mg base N qual scope f cdv A outer s H E) [] (start N vs) H s1 := inv_start S hr.hd e0 hl r x
  refine wpAny_mono (ht [] s1 (start N vs) H _ I hq) (fun fl s' hs => ?_) fun e s' hs => hs
  have fin : ∀ {σ' : St} {H' : Hp} {v : V} {u : Value}, Inv (cxOf CX P w K mg base N qual scope f cdv A outer s H E) [] σ' H' s' → RelV v u → Q v H' → CE outer P w H s Q u s' :=
    fun {σ' H' v u} J rv q => ⟨v, H', J.os, J.bare, J.base, J.hok, rv, q⟩
  cases fl with
  | ret u =>
    obtain ⟨v, σ', H', J, rv, q⟩ := hs
    exact fin J rv q
  | next =>
    obtain ⟨σ', H', J, q⟩ := hs
    exact fin (v := V.non) (u := Value.none) J rfl q
  | brk =>
    obtain ⟨_, _, _, q⟩ := hs
    exact False.elim q
  | cont =>
    obtain ⟨_, _, _, q⟩ := hs
    exact False.elim q
end L2
namespace L2
open PySem PySem.Spec PyProof.Rows
section
variable {X : Cx} {x : Str} {p pos : Pos} {e : Expr} {es : List Expr} {t : TA} {id T : String} {r : List V → Hp → VK → Prop}
def tCB (r : List V → Hp → VK → Prop) (t : TA) : TE := fun σ H Q => t σ H fun vs H1 => r vs H1 Q
theorem pe_callB (hc : CallR X (.builtin id) r) (hg : Gl X x) (hm : X.mg x = none) (hv : bootBuiltins x = some (.builtin id)) (ha : PA X (e :: es) t) (hn : x ≠ "__name__" := by decide) (hdb : (x == ("__debug__" : Str)) = false := by decide)
    (he : starEach (e :: es) X.env = (false, eval e X.env) :: starEach es X.env := by rfl) (hpl : (backTo pos (starEach es X.env)).any (·.1) = false := by rfl) : PE X (.Call (.Name x p) (e :: es) [] pos) (tCB r t) := by
  intro pins s σ H Q I h
  refine wpAny_Call_Name_kw (ld_blt I hg hm hv ?_ hn hdb)
  exact PyProof.Rows.callWith_builtin1 (thn (ha pos pins s σ H _ I h) fun us s1 ⟨vs, H1, I1, r1, q1⟩ => hc pins s1 σ H1 vs us Q I1 r1 q1) he hpl
theorem pe_callTy (hc : CallR X (.type T) r) (hg : Gl X x) (hm : X.mg x = none) (hv : bootBuiltins x = some (.type T)) (ha : PA X (e :: es) t) (hn : x ≠ "__name__" := by decide) (hdb : (x == ("__debug__" : Str)) = false := by decide)
    (he : starEach (e :: es) X.env = (false, eval e X.env) :: starEach es X.env := by rfl) (hpl : (backTo pos (starEach es X.env)).any (·.1) = false := by rfl) : PE X (.Call (.Name x p) (e :: es) [] pos) (tCB r t) := by
  intro pins s σ H Q I h
  refine wpAny_Call_Name_kw (ld_blt I hg hm hv ?_ hn hdb)
  exact PyProof.Rows.callWith_type1 (thn (ha pos pins s σ H _ I h) fun us s1 ⟨vs, H1, I1, r1, q1⟩ => hc pins s1 σ H1 vs us Q I1 r1 q1) he hpl
end
end L2
namespace HT
open PySem PyProof.Rows
def lexLt : List Int → List Int → Bool
  | [], [] => false
  | [], _ :: _ => true
  | _ :: _, [] => false
  | x :: xs, y :: ys => if x = y then lexLt xs ys else decide (x < y)
theorem lexLt_cons (x y : Int) (xs ys : List Int) : lexLt (x :: xs) (y :: ys) = if x = y then lexLt xs ys else decide (x < y) := rfl
theorem lexLt_nil_nil : lexLt [] [] = false := rfl
theorem lexLt_nil_cons (y : Int) (ys : List Int) : lexLt [] (y :: ys) = true := rfl
theorem lexLt_cons_nil (x : Int) (xs : List Int) : lexLt (x :: xs) [] = false := rfl
theorem eqAt_int (A : Around) (s : Shared) (a : Int) (t : Tok) (c : Int) (u : Tok) : ∃ e, SeqAt.EqAt A s (.int a t) (.int c u) e ∧ (e = true ↔ a = c) :=
  ⟨(a == c), SeqAt.EqAt.int_int a t c u, by simp⟩
theorem rcLt_int (A : Around) (s : Shared) (a : Int) (t : Tok) (c : Int) (u : Tok) (prog : Program) (w : World) (E : Value → Shared → Prop) (Q : Value → Shared → Prop) (h : Q (.bool (decide (a < c))) s) :
    wpAny (model prog w) A (richCompare .Lt (.int a t) (.int c u)) Q E s :=
  (PyProof.Rows.lt_int h : wpAny (model prog w) A (compareOp .Lt (.int a t) (.int c u)) Q E s)
section
open PySem.SeqAt
open PySem.AutoSeq1 (wpAny_loadPart')
open PySem.MeetsSeq PySem.MeetsSeq2 PySem.MeetsSeq3
theorem tuple_lt_ints (l b : Addr) (items items2 : Array Value) (n n2 : Nat) (dd dd2 : Option Addr) (sl sl2 : Array (Option Value)) (ns ms : List Int) (hi : IntsAre items.toList ns) (hj : IntsAre items2.toList ms) :
    Meets (Builtin.«tuple.__lt__» ⟨[.ref l, .ref b], []⟩)
      (fun _ R s => s.heap.get? l = some { cls := .type "tuple", dict := dd, data := .seq items n, slots := sl } ∧ s.heap.get? b = some { cls := .type "tuple", dict := dd2, data := .seq items2 n2, slots := sl2 } ∧
        R (.ok (.ret (.bool (lexLt ns ms)))) s) :=
  .of_wp fun prog w A R s h => by
    obtain ⟨hp, g, d, tk, os⟩ := s; obtain ⟨hl, hb, h⟩ := h
    have f2 := AutoSeq1.sub_tuple_tuple
    have z1 : items.size = ns.length := by rw [← hi.length]; simp
    have z2 : items2.size = ms.length := by rw [← hj.length]; simp
    wp_walk using wpAny_loadPart' hl, wpAny_loadPart' hb, wpAny_forIn_list _ (fun rest b s' => b.1 = none ∧ s' = ⟨hp, g, d, tk, os⟩ ∧ ∃ (vs ws : List Value) (ns' ms' : List Int), rest = vs.zip ws ∧
      IntsAre vs ns' ∧ IntsAre ws ms' ∧ ns'.length + items2.size = ms'.length + items.size ∧ R (.ok (.ret (.bool (lexLt ns' ms')))) ⟨hp, g, d, tk, os⟩) _
    case turn =>
      rintro ⟨y, x⟩ rest b s' ⟨hb', rfl, vs, ws, ns', ms', hz, hvi, hwi, hlen, hR⟩
      cases hvi with
      | nil => rw [List.zip_nil_left] at hz; cases hz
      | cons a t hvi' =>
        cases hwi with
        | nil => rw [List.zip_nil_right] at hz; cases hz
        | cons c u hwi' =>
          rw [List.zip_cons_cons] at hz
          injection hz with hyx hrest
          injection hyx with hy hx
          subst hy hx
          rw [lexLt_cons] at hR
          simp only [List.length_cons] at hlen
          obtain ⟨e, he, hiff⟩ := eqAt_int A.in1 ⟨hp, g, d, tk, os⟩ a t c u
          refine wpAny_bind (he prog w _ _ ?_)
          cases e with
          | true =>
            rw [if_pos (hiff.mp rfl)] at hR
            wp_walk
            exact ⟨rfl, rfl, _, _, _, _, hrest, hvi', hwi', by omega, hR⟩
          | false =>
            rw [if_neg (fun q => absurd (hiff.mpr q) Bool.false_ne_true)] at hR
            have hri := rcLt_int A.in1 ⟨hp, g, d, tk, os⟩ a t c u prog w
            wp_walk using hri
            exact ⟨_, rfl, by simpa using hR⟩
    case fin =>
      rintro ⟨b1, b2⟩ s' ⟨hb', rfl, vs, ws, ns', ms', hz, hvi, hwi, hlen, hR⟩
      simp only at hb'
      subst hb'
      have hv : lexLt ns' ms' = decide (items.size < items2.size) := by
        cases hvi with
        | nil =>
          cases hwi with
          | nil =>
            simp only [List.length_nil] at hlen
            rw [lexLt_nil_nil]
            exact (decide_eq_false (by omega)).symm
          | cons c u hw =>
            simp only [List.length_nil, List.length_cons] at hlen
            rw [lexLt_nil_cons]
            exact (decide_eq_true (by omega)).symm
        | cons a t hv =>
          cases hwi with
          | nil =>
            simp only [List.length_nil, List.length_cons] at hlen
            rw [lexLt_cons_nil]
            exact (decide_eq_false (by omega)).symm
          | cons c u hw =>
            rw [List.zip_cons_cons] at hz
            cases hz
      rw [hv] at hR
      wp_walk
      exact ⟨_, rfl, by simpa [Builtin.Tuple.tupleCompareSizes] using hR⟩
    case h =>
      exact ⟨rfl, rfl, items.toList, items2.toList, ns, ms, rfl, hi, hj, by omega, h⟩
end
section
variable {prog : Program} {w : World} {A : Around} {E : Value → Shared → Prop} {s : Shared}
theorem lt_tupInts {l b : Addr} {items items2 : Array Value} {ns ms : List Int} {Q : Value → Shared → Prop} (hl : IsTup s.heap l items) (hb : IsTup s.heap b items2) (hi : IntsAre items.toList ns) (hj : IntsAre items2.toList ms)
    (hu : A.units < cLine) (h : Q (.bool (lexLt ns ms)) s) : wpAny (model prog w) A (compareOp .Lt (.ref l) (.ref b)) Q E s := by
  obtain ⟨⟨cls, dd, data, sl⟩, ho, hc, n, hd⟩ := id hl
  obtain ⟨⟨cls2, dd2, data2, sl2⟩, ho2, hc2, n2, hd2⟩ := id hb
  simp only at hc hd hc2 hd2
  subst hc hd hc2 hd2
  exact richCompare_meets_room (op := .Lt) ⟨_, ho, rfl⟩ ⟨_, ho2, rfl⟩ PySem.F.slot_tuple_lt PySem.F.entry_tuple_lt (PySem.F.args_tuple_lt_2 _ _) (tuple_lt_ints l b items items2 n n2 dd dd2 sl sl2 ns ms hi hj)
    ⟨ho, ho2, show Value.bool (lexLt ns ms) ≠ Value.notImplemented ∧ Q (.bool (lexLt ns ms)) s from ⟨(fun x => nomatch x), h⟩⟩ hu
def sIx (n d : Nat) : Option Int → Nat
  | none => d
  | some v => if v < 0 then (v + (n : Int)).toNat else min v.toNat n
theorem sIx_none (n d : Nat) : sIx n d none = d := rfl
theorem sIx_nat (n d k : Nat) : sIx n d (some (k : Int)) = min k n := by
  show (if (k : Int) < 0 then ((k : Int) + (n : Int)).toNat else min (k : Int).toNat n) = min k n
  rw [if_neg (by omega), Int.toNat_natCast]
theorem clip_eq (v : Int) (n d : Nat) : (if v < 0 then max (v + (n : Int)) 0 else min v (n : Int)) = ((sIx n d (some v) : Nat) : Int) := by
  show (if v < 0 then max (v + (n : Int)) 0 else min v (n : Int)) = (((if v < 0 then (v + (n : Int)).toNat else min v.toNat n) : Nat) : Int)
  by_cases hv : v < 0
  · simp only [if_pos hv]; omega
  · simp only [if_neg hv]; omega
theorem adjust_gen (lo hi : Option Int) (n : Nat) : Builtin.Slice.sliceAdjust lo hi 1 (n : Int) = (((sIx n 0 lo : Nat) : Int), ((sIx n n hi : Nat) : Int)) := by
  have h1 : ¬ ((1 : Int) < 0) := by omega
  unfold Builtin.Slice.sliceAdjust
  simp only [h1, if_false]
  refine Prod.ext ?_ ?_
  · cases lo with
    | none => rfl
    | some v => exact clip_eq v n 0
  · cases hi with
    | none => rfl
    | some v => exact clip_eq v n n
theorem places_gen (i j : Nat) : Builtin.Slice.slicePlaces (i : Int) (j : Int) 1 = j - i := by
  unfold Builtin.Slice.slicePlaces
  have h1 : (1 : Int) > 0 := by omega
  simp only [h1, if_true, Int.ediv_one]
  split <;> omega
theorem slicePart_ {v : Value} {o : Option Int} {Q : Option Int → Shared → Prop} (p : IsPart v o) (h : Q o s) : wpAny (model prog w) A (Builtin.Slice.slicePartIndex v) Q E s := by
  cases p with
  | none => exact slicePart_none h
  | int i t => exact slicePart_int h
theorem sliceApplied_gen {sl : Addr} {vl vu : Value} {lo hi : Option Int} {n : Nat} {Q : Int × Int × Nat → Shared → Prop} (hs : s.heap.IsSliceOf sl vl vu .none) (pl : IsPart vl lo) (pu : IsPart vu hi)
    (h : Q (((sIx n 0 lo : Nat) : Int), 1, sIx n n hi - sIx n 0 lo) s) : wpAny (model prog w) A (Builtin.Slice.sliceApplied (.ref sl) (pure (n : Int))) Q E s := by
  obtain ⟨os, hos, hcs, hds⟩ := id hs
  unfold Builtin.Slice.sliceApplied Builtin.Slice.sliceFields
  refine wpAny_bind (wpAny_bind (wpAny_field hos hds (x := vl) rfl (wpAny_bind (wpAny_field hos hds (x := vu) rfl (wpAny_bind (wpAny_field hos hds (x := .none) rfl (wpAny_pure ?_)))))))
  refine wpAny_bind (slicePart_none ?_)
  show wpAny _ _ (if ((1 : Int) == 0) = true then _ else _) _ _ s
  rw [if_neg (by decide)]
  refine wpAny_bind (slicePart_ pl (wpAny_bind (slicePart_ pu (wpAny_bind (wpAny_pure ?_)))))
  show wpAny _ _ (match Builtin.Slice.sliceAdjust lo hi 1 (n : Int) with | (lo, hi) => pure (lo, (1 : Int), Builtin.Slice.slicePlaces lo hi 1)) _ _ s
  rw [adjust_gen lo hi n]
  show wpAny _ _ (pure (((sIx n 0 lo : Nat) : Int), (1 : Int), Builtin.Slice.slicePlaces ((sIx n 0 lo : Nat) : Int) ((sIx n n hi : Nat) : Int) 1)) _ _ s
  rw [places_gen]
  exact wpAny_pure h
end
end HT
namespace L2
open PySem PySem.Spec PyProof.Rows
abbrev TO := St → Hp → (Option Int → Hp → Prop) → Prop
def PO (X : Cx) (e : Option Expr) (t : TO) : Prop :=
  ∀ (pins : List (Addr × Obj)) (s : Shared) (σ : St) (H : Hp) (Q : Option Int → Hp → Prop), Inv X pins σ H s → t σ H Q →
    wpAny (model X.prog X.w) X.A (evalPart e X.env) (fun u s' => ∃ o H', Inv X pins σ H' s' ∧ IsPart u o ∧ Q o H') X.xe s
def tNoPart : TO := fun _ H Q => Q none H
def tPart (t : TE) : TO := fun σ H Q => t σ H fun x H1 => ∃ i, x = .int i ∧ Q (some i) H1
theorem intsAre_of {ns : List Int} : ∀ {us : List Value}, Vals (ns.map V.int) us → IntsAre us ns := by
  induction ns with
  | nil => intro us r; rw [List.map_nil] at r; cases r; exact .nil
  | cons n ns ih =>
    intro us r
    rw [List.map_cons] at r
    cases r with
    | cons r1 r2 =>
      obtain ⟨t, e⟩ := r1
      subst e
      exact .cons n t (ih r2)
section
variable {X : Cx} {e : Expr} {te : TE} {lo hi : Option Expr} {tl th : TO} {pos p2 : Pos}
theorem po_none : PO X none tNoPart := by
  intro pins s σ H Q I h
  rw [evalPart_none]
  exact wpAny_pure ⟨none, H, I, .none, h⟩
theorem po_some (h : PE X e te) : PO X (some e) (tPart te) := by
  intro pins s σ H Q I hw
  rw [evalPart_some]
  refine thn (h pins s σ H _ I hw) fun u s1 ⟨x, H1, I1, r1, q1⟩ => ?_
  obtain ⟨i, rfl, q⟩ := q1
  obtain ⟨t, rfl⟩ := r1
  exact ⟨some i, H1, I1, .int i t, q⟩
def SlR (X : Cx) (r : V → Option Int → Option Int → Hp → VK → Prop) : Prop :=
  ∀ (pins : List (Addr × Obj)) (s : Shared) (σ : St) (H : Hp) (x : V) (v vl vu : Value) (lo hi : Option Int) (sl : Addr) (Q : VK), Inv X pins σ H s → RelV x v → s.heap.IsSliceOf sl vl vu .none → IsPart vl lo → IsPart vu hi → r x lo hi H Q →
    ∃ T id, typeLookup (.type T) "__getitem__" = pure (some (.builtin id)) ∧ s.TypeIs v T ∧ wpAny (model X.prog X.w) X.A (getItem v (.ref sl)) (EP X pins σ Q) X.xe s
def tSl (r : V → Option Int → Option Int → Hp → VK → Prop) (te : TE) (tl th : TO) : TE := fun σ H Q => te σ H fun x H1 => tl σ H1 fun l H2 => th σ H2 fun u H3 => r x l u H3 Q
theorem pe_slice {r : V → Option Int → Option Int → Hp → VK → Prop} (hr : SlR X r) (he : PE X e te) (hl : PO X lo tl) (hu : PO X hi th) : PE X (.Subscript e (.Slice lo hi none p2) pos) (tSl r te tl th) := by
  intro pins s σ H Q I h
  refine Subscript_ (thn (he pins s σ H _ I h) fun v s1 ⟨x, H1, I1, r1, q1⟩ => ?_)
  refine wpAny_Slice (thn (hl pins s1 σ H1 _ I1 q1) fun vl s2 ⟨l, H2, I2, pl, q2⟩ => thn (hu pins s2 σ H2 _ I2 q2) fun vu s3 ⟨u, H3, I3, pu, q3⟩ => ?_)
  rw [evalPart_none]
  refine wpAny_pure ?_
  have I4 : Inv X pins σ H3 { s3 with heap := s3.heap.push { cls := .type "slice", data := .fields #[vl, vu, .none] } } := I3.kept (t' := s3.toks) fun b ob q => Heap.get?_push_of_some _ q
  obtain ⟨T, id, hT, ht, hg⟩ := hr pins { s3 with heap := s3.heap.push { cls := .type "slice", data := .fields #[vl, vu, .none] } } σ H3 x v vl vu l u s3.heap.objs.size Q I4 r1 (Heap.IsSliceOf.new ..) pl pu q3
  show wpAny (model X.prog X.w) X.A (subscriptTail e (.Slice lo hi none p2) v (.ref s3.heap.objs.size)) (EP X pins σ Q) X.xe { s3 with heap := s3.heap.push { cls := .type "slice", data := .fields #[vl, vu, .none] } }
  exact tail_any (ops := [.ref s3.heap.objs.size, v]) ht hT hg (by with_unfolding_all rfl)
def cutV (xs : List V) (lo hi : Option Int) : List V := (xs.drop (HT.sIx xs.length 0 lo)).take (HT.sIx xs.length xs.length hi - HT.sIx xs.length 0 lo)
theorem cutV_length (xs : List V) (lo hi : Option Int) : (cutV xs lo hi).length ≤ xs.length := by
  unfold cutV
  rw [List.length_take, List.length_drop]
  omega
end
end L2
namespace L2
open PySem PySem.Spec PyProof.Rows
def ixN (n : Nat) (i : Int) : Option Nat := if 0 ≤ i then (if i < n then some i.toNat else none) else if -(n : Int) ≤ i then some (i + n).toNat else none
def atI {α : Type} (xs : List α) (i : Int) : Option α := (ixN xs.length i).bind fun j => xs[j]?
theorem ixN_seq {n : Nat} {i : Int} {j : Nat} (h : ixN n i = some j) : seqIndex? i n = some j ∧ j < n ∧ -(n : Int) ≤ i ∧ i < n := by
  unfold ixN at h
  by_cases h0 : 0 ≤ i
  · rw [if_pos h0] at h
    by_cases h1 : i < n
    · rw [if_pos h1] at h
      have e : i.toNat = j := Option.some.inj h
      exact ⟨by rw [seqIndex_of h0 h1, e], by omega, by omega, h1⟩
    · rw [if_neg h1] at h; cases h
  · rw [if_neg h0] at h
    by_cases h1 : -(n : Int) ≤ i
    · rw [if_pos h1] at h
      have e : (i + n).toNat = j := Option.some.inj h
      exact ⟨by rw [seqIndex_neg (by omega) h1, e], by omega, h1, by omega⟩
    · rw [if_neg h1] at h; cases h
theorem atI_get {α : Type} {xs : List α} {i : Int} {v : α} (h : atI xs i = some v) : ∃ j, seqIndex? i xs.length = some j ∧ xs[j]? = some v ∧ j < xs.length ∧ -(xs.length : Int) ≤ i ∧ i < xs.length := by
  unfold atI at h
  cases e : ixN xs.length i with
  | none => rw [e] at h; cases h
  | some j =>
    rw [e] at h
    obtain ⟨h1, h2, h3, h4⟩ := ixN_seq e
    exact ⟨j, h1, h, h2, h3, h4⟩
theorem atI_nat {α : Type} {xs : List α} {j : Nat} {v : α} (h : xs[j]? = some v) : atI xs (j : Int) = some v := by
  have hj : j < xs.length := (List.getElem?_eq_some_iff.mp h).1
  have e : ixN xs.length (j : Int) = some j := by
    unfold ixN
    rw [if_pos (by omega), if_pos (by omega)]; simp
  unfold atI; rw [e]; exact h
def PlainIx (b : Expr) : Prop := ∀ o i, subscripted b false o i = operate [o, i] (getItem o i)
def IxR (X : Cx) (r : R2) : Prop :=
  ∀ (value slice : Expr) (pins : List (Addr × Obj)) (s : Shared) (σ : St) (H : Hp) (x y : V) (v u : Value) (Q : VK), Inv X pins σ H s → RelV x v → RelV y u → r x y H Q →
    subscripted slice false v u = operate [v, u] (getItem v u) → wpAny (model X.prog X.w) X.A (subscriptTail value slice v u) (EP X pins σ Q) X.xe s
def MtR (X : Cx) (id : String) (r : V → List V → Hp → VK → Prop) : Prop :=
  ∀ (pins : List (Addr × Obj)) (s : Shared) (σ : St) (H : Hp) (x : V) (xs : List V) (v : Value) (us : List Value) (Q : VK), Inv X pins σ H s → RelV x v → Vals xs us → r x xs H Q →
    wpAny (model X.prog X.w) X.A (call (.builtin id) (v :: us)) (EP X pins σ Q) X.xe s
section
variable {X : Cx} {a b : Expr} {ta tb : TE} {pos : Pos}
theorem pe_ix {r : R2} (hr : IxR X r) (ha : PE X a ta) (hb : PE X b tb) (hs : PlainIx b) : PE X (.Subscript a b pos) (tOp r ta tb) := by
  intro pins s σ H Q I h
  exact Subscript_ (binT ha hb I h fun v u s2 x y H2 I2 rx ry q => hr a b pins s2 σ H2 x y v u Q I2 rx ry q (hs _ _))
def rIxL (K : PySem.W.Frag) : R2 := fun x y H Q => ∃ p xs i v, x = .ref p ∧ y = .int i ∧ SqL K H p xs ∧ atI xs i = some v ∧ Q v H
def rIxT (K : PySem.W.Frag) : R2 := fun x y H Q => ∃ p xs i v, x = .ref p ∧ y = .int i ∧ SqT K H p xs ∧ atI xs i = some v ∧ Q v H
theorem ix_list : IxR X (rIxL X.K) := by
  intro value slice pins s σ H x y v u Q I rx ry h hs
  obtain ⟨p, xs, i, z, rfl, rfl, hq, he, q⟩ := h
  cases rx
  obtain ⟨t, rfl⟩ := ry
  obtain ⟨its, r, pl, hz⟩ := I.list hq
  obtain ⟨j, h1, h2, h3, h4, h5⟩ := atI_get he
  obtain ⟨w, ew, rw'⟩ := r.get h2
  have hl := r.length
  have hn := line63
  have fin : EP X pins σ Q w s := ⟨z, H, I, rw', q⟩
  by_cases h0 : 0 ≤ i
  · have hj : i.toNat = j := by
      rw [seqIndex_of h0 h5] at h1
      exact Option.some.inj h1
    exact item_listR pl.isList h0 (by omega) (by rw [hj]; simpa using ew) fin hs
  · have hj : (i + (its.toArray.size : Int)).toNat = j := by
      rw [seqIndex_neg (by omega) h4] at h1
      rw [List.size_toArray, ← hl]
      exact Option.some.inj h1
    exact subscriptTail_builtinR (x := w) pl.isList.typeIs slot_list_getitem.lookup
      (wpAny_getItem_list_neg (Q := fun r s' => r = w ∧ EP X pins σ Q r s') pl.isList (by omega) (by rw [List.size_toArray] <;> omega) (by omega) (by rw [hj]; simpa using ew) ⟨rfl, fin⟩) hs
theorem ix_tup : IxR X (rIxT X.K) := by
  intro value slice pins s σ H x y v u Q I rx ry h hs
  obtain ⟨p, xs, i, z, rfl, rfl, hq, he, q⟩ := h
  cases rx
  obtain ⟨t, rfl⟩ := ry
  obtain ⟨its, r, pl, hz⟩ := I.tuple hq
  obtain ⟨j, h1, h2, h3, h4, h5⟩ := atI_get he
  obtain ⟨w, ew, rw'⟩ := r.get h2
  have hl := r.length
  have hn := line63
  have fin : EP X pins σ Q w s := ⟨z, H, I, rw', q⟩
  exact subscriptTail_builtinR (x := w) pl.typeIs slot_tuple_getitem.lookup
    (getItem_tuple (j := j) (Q := fun r s' => r = w ∧ EP X pins σ Q r s') pl (by omega) (by omega) (by rw [List.size_toArray, ← hl]; exact h1) (by simpa using ew) ⟨rfl, fin⟩) hs
theorem Inv.lst {pins : List (Addr × Obj)} {σ : St} {H : Hp} {s : Shared} {p : Addr} {xs : List V} (I : Inv X pins σ H s) (h : H p = some (.lst xs)) :
    ∃ (its : List Value) (n : Nat), Vals xs its ∧ s.heap.get? p = some { cls := .type "list", data := .seq its.toArray n } ∧ xs.length ≤ sizeLine := by
  obtain ⟨z, its, n, r, e⟩ := I.hok p _ h
  exact ⟨its, n, r, e, z⟩
theorem slice_bounds (lo hi : Option Int) (n : Nat) : (sliceBounds lo hi none n).1 = ((HT.sIx n 0 lo : Nat) : Int) ∧ (sliceBounds lo hi none n).2.1 = ((HT.sIx n n hi : Nat) : Int) ∧ (sliceBounds lo hi none n).2.2 = 1 := by
  refine ⟨?_, ?_, rfl⟩
  · cases lo with
    | none => simp [sliceBounds, HT.sIx]
    | some i =>
      simp only [sliceBounds, HT.sIx, Option.getD_none, show (1 : Int) > 0 by decide, if_true]
      by_cases h : i < 0
      · simp only [h, if_true] <;> omega
      · simp only [h, if_false] <;> omega
  · cases hi with
    | none => simp [sliceBounds, HT.sIx]
    | some i =>
      simp only [sliceBounds, HT.sIx, Option.getD_none, show (1 : Int) > 0 by decide, if_true]
      by_cases h : i < 0
      · simp only [h, if_true] <;> omega
      · simp only [h, if_false] <;> omega
theorem slicePick_cut (its : List Value) (lo hi : Option Int) : slicePick its.toArray lo hi none = ((its.drop (HT.sIx its.length 0 lo)).take (HT.sIx its.length its.length hi - HT.sIx its.length 0 lo)).toArray := by
  obtain ⟨h1, h2, h3⟩ := slice_bounds lo hi its.toArray.size
  unfold slicePick
  rw [h1, h2, h3]
  simp only [sliceRange_one, pick_run, List.size_toArray] <;> rfl
def rSlL (K : PySem.W.Frag) : V → Option Int → Option Int → Hp → VK → Prop := fun x lo hi H Q => ∃ a xs, x = .ref a ∧ SqL K H a xs ∧ ∀ p, H p = none → Q (.ref p) (upd H p (.lst (cutV xs lo hi)))
theorem sl_list : SlR X (rSlL X.K) := by
  intro pins s σ H x v vl vu lo hi sl Q I rx hs pl pu h
  obtain ⟨a, xs, rfl, hx, q⟩ := h
  cases rx
  obtain ⟨its, r, ht, hz⟩ := I.list hx
  have hlen := r.length
  refine ⟨"list", _, slot_list_getitem.lookup, ht.isList.typeIs, ?_⟩
  refine wpAny_getItem_list_slice ht.isList hs pl pu .none (by simp) ?_ (by rw [List.size_toArray] <;> omega)
  rw [slicePick_cut, ← hlen]
  refine ⟨.ref s.heap.objs.size, _, I.laid (t' := s.toks) (o := .lst (cutV xs lo hi)) (fun b ob q => Heap.get?_push_of_some _ q) (Nat.le_refl _) ?_, rfl, q _ (I.hok.fresh (Nat.le_refl _))⟩
  exact ⟨Nat.le_trans (cutV_length xs lo hi) hz, _, 0, (r.drop (HT.sIx xs.length 0 lo)).take (HT.sIx xs.length xs.length hi - HT.sIx xs.length 0 lo), Heap.get?_push_size _ rfl⟩
theorem call_len_seq : CallR X (.builtin "len") (fun xs H Q => ∃ p ys, xs = [.ref p] ∧ (SqL X.K H p ys ∨ SqT X.K H p ys) ∧ Q (.int ys.length) H) := by
  intro pins s σ H xs us Q I r h
  obtain ⟨p, ys, rfl, hq, q⟩ := h
  obtain ⟨u, rfl, rx⟩ := vals1 r
  cases rx
  have hn := line63
  rcases hq with hq | hq
  · obtain ⟨its, r', pl, hz⟩ := I.list hq
    have hlen := r'.length
    exact Calls.call_len_list pl.isList (by simp only [List.size_toArray] <;> omega) ⟨.int ys.length, H, I.tok _, ⟨s.toks + 1, by rw [List.size_toArray, hlen]⟩, q⟩
  · obtain ⟨its, r', pl, hz⟩ := I.tuple hq
    have hlen := r'.length
    exact len_tuple pl (by simp only [List.size_toArray] <;> omega) ⟨.int ys.length, H, I.tok _, ⟨s.toks + 1, by rw [List.size_toArray, hlen]⟩, q⟩
theorem call_list_of : CallR X (.type "list") (fun xs H Q => ∃ p ys, xs = [.ref p] ∧ (SqL X.K H p ys ∨ SqT X.K H p ys) ∧ ∀ l, H l = none → Q (.ref l) (upd H l (.lst ys))) := by
  intro pins s σ H xs us Q I r h
  obtain ⟨p, ys, rfl, hq, q⟩ := h
  obtain ⟨u, rfl, rx⟩ := vals1 r
  cases rx
  have fin : ∀ (its : List Value), Vals ys its → ys.length ≤ sizeLine → ∀ (h' : Heap) (c' : Nat), (∀ b o', s.heap.get? b = some o' → h'.get? b = some o') →
      h'.get? s.heap.objs.size = some { cls := .type "list", dict := none, data := .seq its.toArray c', slots := #[] } → EP X pins σ Q (.ref s.heap.objs.size) { s with heap := h' } := fun its r' hz h' c' kp e =>
    ⟨.ref s.heap.objs.size, _, I.laid (t' := s.toks) kp (Nat.le_refl _) (show ObjOk X.prog X.w _ h' _ (.lst ys) from ⟨hz, its, c', r', e⟩), rfl, q _ (I.hok.fresh (Nat.le_refl _))⟩
  rcases hq with hq | hq
  · obtain ⟨its, r', pl, hz⟩ := I.list hq
    have hlen := r'.length
    obtain ⟨o, ho, hc, n, hd⟩ := pl.isList
    exact call_list_seq p (.inl rfl) ho hc hd (fun h' c' kp e => fin its r' hz h' c' kp e) (by simp only [List.size_toArray] <;> omega)
  · obtain ⟨its, r', pl, hz⟩ := I.tuple hq
    have hlen := r'.length
    obtain ⟨o, ho, hc, n, hd⟩ := pl
    exact call_list_seq p (.inr rfl) ho hc hd (fun h' c' kp e => fin its r' hz h' c' kp e) (by simp only [List.size_toArray] <;> omega)
theorem call_tuple_of : CallR X (.type "tuple") (fun xs H Q => ∃ p ys, xs = [.ref p] ∧ ((SqL X.K H p ys ∧ ∀ l, H l = none → Q (.ref l) (upd H l (.tup ys))) ∨ (SqT X.K H p ys ∧ Q (.ref p) H))) := by
  intro pins s σ H xs us Q I r h
  obtain ⟨p, ys, rfl, h⟩ := h
  obtain ⟨u, rfl, rx⟩ := vals1 r
  cases rx
  rcases h with ⟨hq, q⟩ | ⟨hq, q⟩
  · obtain ⟨its, r', pl, hz⟩ := I.list hq
    have hlen := r'.length
    refine call_tuple_list pl.isList (fun h' kp => ?_) (by simp only [List.size_toArray] <;> omega)
    have I1 : Inv X pins σ H { s with heap := h' } := I.kept (t' := s.toks) kp
    have I2 : Inv X pins σ (upd H h'.objs.size (.tup ys)) { s with heap := h'.push { cls := .type "tuple", data := .seq its.toArray } } :=
      I1.laid (t' := s.toks) (fun b o e => Heap.get?_push_of_some _ e) (Nat.le_refl _) (show ObjOk X.prog X.w _ _ _ (.tup ys) from ⟨hz, its, r', IsTup.new _ _⟩)
    exact ⟨.ref h'.objs.size, _, I2, rfl, q _ (I1.hok.fresh (Nat.le_refl _))⟩
  · obtain ⟨its, r', pl, hz⟩ := I.tuple hq
    exact call_tuple_same pl ⟨.ref p, H, I, rfl, q⟩
def tyV (K : PySem.W.Frag) (T : String) (x : V) (H : Hp) : Prop := match x with
  | .str _ => T = "str"
  | .int _ => T = "int"
  | .ref p => (T = "list" ∧ ∃ xs, SqL K H p xs) ∨ (T = "tuple" ∧ ∃ o, K.lookup p = some o ∧ o.cls = .type "tuple" ∧ o.dict = none) ∨
      (T = "dict" ∧ ((∃ kvs, H p = some (.dK kvs)) ∨ ∃ kvs, H p = some (.dT kvs))) ∨ (T = "set" ∧ ∃ S n, H p = some (.set S n))
  | _ => False
theorem tyV_is {pins : List (Addr × Obj)} {σ : St} {H : Hp} {s : Shared} {T : String} {x : V} {v : Value} (I : Inv X pins σ H s) (r : RelV x v) (ty : tyV X.K T x H) :
    s.TypeIs v T ∧ ∀ a, v = .ref a → ∃ ob, s.heap.get? a = some ob ∧ ob.dict = none := by
  cases x with
  | str z =>
    obtain ⟨t, rfl⟩ := r
    cases (show T = "str" from ty)
    exact ⟨typeIs_str s z t, fun _ e => nomatch e⟩
  | int i =>
    obtain ⟨t, rfl⟩ := r
    cases (show T = "int" from ty)
    exact ⟨typeIs_int s i t, fun _ e => nomatch e⟩
  | ref p =>
    cases r
    rcases ty with ⟨rfl, xs, hq⟩ | ⟨rfl, o, hk, hc, hd⟩ | ⟨rfl, hk⟩ | ⟨rfl, S, n, hk⟩
    · obtain ⟨its, _, pl, _⟩ := I.list hq
      refine ⟨pl.isList.typeIs, fun a e => ?_⟩
      cases e
      obtain ⟨o, n, e, c, hd, _⟩ := pl
      exact ⟨o, e, hd⟩
    · refine ⟨⟨o, I.kIn p o hk, hc⟩, fun a e => ?_⟩
      cases e
      exact ⟨o, I.kIn _ o hk, hd⟩
    · have z : ∃ o, s.heap.get? p = some o ∧ o.ExactDict := by
        rcases hk with ⟨kvs, hk⟩ | ⟨kvs, hk⟩
        · obtain ⟨_, _, _, _, o, _, _, e, ex, _⟩ := I.hok p _ hk
          exact ⟨o, e, ex⟩
        · obtain ⟨_, _, _, _, o, _, _, e, ex, _⟩ := I.hok p _ hk
          exact ⟨o, e, ex⟩
      obtain ⟨o, e, ex⟩ := z
      refine ⟨⟨o, e, ex.1⟩, fun a e2 => ?_⟩
      cases e2
      exact ⟨o, e, ex.2.1⟩
    · obtain ⟨o, _, _, _, e, ex, _⟩ := I.hok p _ hk
      refine ⟨⟨o, e, ex.1⟩, fun a e2 => ?_⟩
      cases e2
      exact ⟨o, e, ex.2.1⟩
  | _ => exact False.elim ty
def tBM0 (K : PySem.W.Frag) (T : String) (r : V → List V → Hp → VK → Prop) (to : TE) : TE := fun σ H Q => to σ H fun x H1 => tyV K T x H1 ∧ r x [] H1 Q
def tBM (K : PySem.W.Frag) (T : String) (r : V → List V → Hp → VK → Prop) (to : TE) (t : TA) : TE := fun σ H Q => to σ H fun x H1 => tyV K T x H1 ∧ t σ H1 fun xs H2 => r x xs H2 Q
variable {o e : Expr} {es : List Expr} {to : TE} {t : TA} {name : Str} {apos cpos : Pos} {T id : String} {r : V → List V → Hp → VK → Prop}
theorem pe_bm0 (pa : PlainAttrs T) (slot : Slot T name id) (hty : typeOf (.builtin id) = pure (.type "method_descriptor")) (hm : MtR X id r) (ho : PE X o to)
    (hbase : attributeBase o name X.env (eval o X.env) = eval o X.env := by rfl) (hline : (apos.endLine == cpos.line) = true := by rfl) : PE X (.Call (.Attribute o name apos) [] [] cpos) (tBM0 X.K T r to) := by
  intro pins s σ H Q I h
  refine wpAny_Call_method0_late hbase hline (thn (ho pins s σ H _ I h) fun v s1 ⟨x, H1, I1, r1, ty, q1⟩ => ?_)
  obtain ⟨h1, h2⟩ := tyV_is I1 r1 ty
  exact ⟨T, id, pa, slot, hty, h1, h2, Calls.callWith_builtin rfl (PySem.evalArgs_none (hm pins s1 σ H1 x [] v [] Q I1 r1 .nil q1))⟩
theorem pe_bm (pa : PlainAttrs T) (slot : Slot T name id) (hty : typeOf (.builtin id) = pure (.type "method_descriptor")) (hm : MtR X id r) (ho : PE X o to) (ha : PA X (e :: es) t)
    (hbase : attributeBase o name X.env (eval o X.env) = eval o X.env := by rfl)
    (hfew : ((backTo cpos (starEach (e :: es) X.env)).all (fun x => !x.1) && (backToKw cpos (keywordEach [] X.env)).all (fun x => x.1.isSome)
      && decide ((e :: es).length + ([] : List Keyword).length + (if ([] : List Keyword).isEmpty then 0 else 1) < 30)) = true := by rfl)
    (hline : (apos.endLine == cpos.line) = true := by rfl) (hs : starEach (e :: es) X.env = (false, eval e X.env) :: starEach es X.env := by rfl) (hplain : (backTo cpos (starEach es X.env)).any (·.1) = false := by rfl) :
    PE X (.Call (.Attribute o name apos) (e :: es) [] cpos) (tBM X.K T r to t) := by
  intro pins s σ H Q I h
  refine wpAny_Call_method_late hbase hfew hline rfl (thn (ho pins s σ H _ I h) fun v s1 ⟨x, H1, I1, r1, ty, q1⟩ => ?_)
  obtain ⟨h1, h2⟩ := tyV_is I1 r1 ty
  refine ⟨T, id, pa, slot, hty, h1, h2, ?_⟩
  have hA := ha cpos pins s1 σ H1 _ I1 q1
  rw [hs] at hA ⊢
  refine Calls.callWith_builtin (by show (false || (backTo cpos (starEach es X.env)).any (·.1)) = false; rw [hplain] <;> rfl) (Calls.evalArgs_plain ?_)
  exact thn hA fun us s2 ⟨vs, H2, I2, r2, q2⟩ => hm pins s2 σ H2 x vs v us Q I2 r1 r2 q2
end
end L2
namespace L2
open PySem PySem.Spec PyProof.Rows
def MtM (X : Cx) (id : String) (r : V → List V → Hp → VK → Prop) : Prop :=
  ∀ (pins : List (Addr × Obj)) (s : Shared) (σ : St) (H : Hp) (x : V) (xs : List V) (v : Value) (us : List Value) (Q : VK), Inv X pins σ H s → RelV x v → Vals xs us → r x xs H Q →
    wpAny (model X.prog X.w) X.A (call (.builtin id) (v :: us)) (EP X pins σ Q) X.xe s
theorem Vals.one : ∀ {x : V} {us : List Value}, Vals [x] us → ∃ u, us = [u] ∧ RelV x u
  | _, _, .cons r .nil => ⟨_, rfl, r⟩
theorem Vals.two : ∀ {x y : V} {us : List Value}, Vals [x, y] us → ∃ u v, us = [u, v] ∧ RelV x u ∧ RelV y v
  | _, _, _, .cons r (.cons q .nil) => ⟨_, _, rfl, r, q⟩
theorem Vals.zero : ∀ {us : List Value}, Vals [] us → us = []
  | _, .nil => rfl
section
variable {X : Cx} {pins : List (Addr × Obj)} {σ : St} {H : Hp} {s : Shared} {l b : Addr} {xs ys zs : List V}
theorem Inv.lset {its its' : List Value} {n : Nat} {f : Array Value → Array Value} {t' : Nat} (I : Inv X pins σ H s) (hH : H l = some (.lst xs))
    (e : s.heap.get? l = some { cls := .type "list", data := .seq its.toArray n }) (hf : f its.toArray = its'.toArray) (hv : Vals ys its') (hz : ys.length ≤ sizeLine) :
    Inv X pins σ (upd H l (.lst ys)) { s with heap := s.heap.update l (Obj.mapSeq f), toks := t' } := by
  have q := PySem.IsL.update e f
  rw [hf] at q
  refine I.write (x := l) (e := l) (by rw [hH]; exact trivial) (.inl rfl) (fun b' u hb hu => (Heap.get?_update_other s.heap (Obj.mapSeq f) (Ne.symm hb)).trans hu) ⟨_, q⟩ ?_
  exact ⟨hz, its', _, hv, q⟩
theorem Inv.lnew {its : List Value} {t' : Nat} (I : Inv X pins σ H s) (hv : Vals ys its) (hz : ys.length ≤ sizeLine) :
    Inv X pins σ (upd H s.heap.objs.size (.lst ys)) { s with heap := s.heap.push { cls := .type "list", data := .seq its.toArray }, toks := t' } :=
  I.laid (fun _ _ q => Heap.get?_push_of_some _ q) (Nat.le_refl _) ⟨hz, its, 0, hv, Heap.get?_push_size _ rfl⟩
theorem Inv.fresh (I : Inv X pins σ H s) : H s.heap.objs.size = none := I.hok.fresh (Nat.le_refl _)
theorem Inv.lstM (I : Inv X pins σ H s) (hH : H l = some (.lst xs)) : xs.length ≤ sizeLine ∧ ∃ (its : List Value) (n : Nat), Vals xs its ∧ xs.length = its.length ∧ s.heap.get? l = some { cls := .type "list", data := .seq its.toArray n } := by
  obtain ⟨z, its, n, r, e⟩ := I.hok l _ hH
  exact ⟨z, its, n, r, r.length, e⟩
end
section
variable {X : Cx}
def rAppend : V → List V → Hp → VK → Prop := fun x vs H Q => ∃ l xs y, x = .ref l ∧ vs = [y] ∧ H l = some (.lst xs) ∧ xs.length < sizeLine ∧ Q .non (upd H l (.lst (xs ++ [y])))
theorem mt_append : MtM X "list.append" rAppend := by
  intro pins s σ H x vs v us Q I rx rv h
  obtain ⟨l, xs, y, rfl, rfl, hH, hz, q⟩ := h
  cases rx
  obtain ⟨u, rfl, ru⟩ := rv.one
  obtain ⟨z, its, n, r, hl, e⟩ := I.lstM hH
  refine call_meets F.slot_list_append ⟨_, e, rfl⟩ F.entry_list_append (F.args_list_append_2 _ _) (PySem.list_append l its.toArray n u (by rw [List.size_toArray]; omega)) ⟨e, ?_⟩
  refine ⟨.non, _, I.lset (its' := its ++ [u]) hH e (by simp) (r.append (.cons ru .nil)) ?_, rfl, q⟩
  rw [List.length_append, List.length_singleton]
  omega
def rCat : R2 := fun x y H Q => ∃ l b xs zs, x = .ref l ∧ y = .ref b ∧ H l = some (.lst xs) ∧ H b = some (.lst zs) ∧ xs.length + zs.length ≤ sizeLine ∧ ∀ p, H p = none → Q (.ref p) (upd H p (.lst (xs ++ zs)))
theorem op_cat : OpR X (binaryOp .Add) rCat := by
  intro pins s σ H x y v u Q I rx ry h
  obtain ⟨l, b, xs, zs, rfl, rfl, hH, hB, hz, q⟩ := h
  cases rx
  cases ry
  obtain ⟨z, its, n, r, hl, e⟩ := I.lstM hH
  obtain ⟨z2, its2, n2, r2, hl2, e2⟩ := I.lstM hB
  refine PySem.P.add_list e e2 ?_ (by rw [List.size_toArray, List.size_toArray]; omega)
  have ea : its.toArray ++ its2.toArray = (its ++ its2).toArray := by simp
  rw [ea]
  exact ⟨.ref _, _, I.lnew (t' := s.toks) (r.append r2) (by rw [List.length_append]; omega), rfl, q _ I.fresh⟩
end
section
variable {prog : Program} {w : World} {A : Around} {E : Value → Shared → Prop} {s : Shared}
set_option maxRecDepth 100000 in
end
section
variable {X : Cx}
end
end L2
namespace Att
open PySem PySem.W PySem.Calls PyProof.Rows
theorem ints_of_wellAll {P : Params} {h : Heap} : ∀ (ns : List Int) (vs : List Value), WellAll P h vs (ns.map WData.int) → IntsAre vs ns := by
  intro ns
  induction ns with
  | nil =>
    intro vs w
    rw [List.map_nil] at w
    cases w
    exact .nil
  | cons n ns ih =>
    intro vs w
    rw [List.map_cons] at w
    cases w with
    | cons a b =>
      cases a
      exact .cons _ _ (ih _ b)
theorem script_of {l : OpenLaw} {n : Nat} (hn : l.most = some n) {P : Params} {h : Heap} {args : List WData} {vals : List Value}
    (hpre : l.row.toRowW.claim.pre args = true) (hwl : WellAll P h vals args) :
    ∃ a vs ns, vals = [Value.ref a] ∧ args = [WData.list (ns.map WData.int)] ∧ h.get? a = some { cls := .type "list", data := .seq vs.toArray } ∧ IntsAre vs ns ∧ ns.length ≤ n := by
  have hsh : WShape.hasAll [] args [.list .int] = true := (pre_splitW hpre).1
  have hc : l.pre.holds [] { args := args } = true := (pre_splitW hpre).2
  obtain ⟨d, r, rfl, h1, h2⟩ := hasAllW_cons hsh
  obtain rfl := hasAllW_nil h2
  obtain ⟨xs, rfl, h3⟩ := hasW_list h1
  obtain ⟨ns, rfl⟩ := items_int h3
  have hlen : ns.length ≤ n := by
    unfold OpenLaw.pre at hc
    have h4 : (WTm.not (.lt (.lit (.int (n : Int))) (.len (.arg 0)))).holds [] { args := [.list (ns.map .int)] } = true := by
      have h4 := (holds_andW hc).1
      rw [hn] at h4
      exact h4
    have h5 := condW_of h4 (w_not (w_lt w_lit (w_len_list (w_arg rfl))))
    rw [List.length_map] at h5
    refine Nat.le_of_not_lt fun q => ?_
    have q' : (n : Int) < ((ns.length : Nat) : Int) := by omega
    first
      | (rw [decide_eq_true q'] at h5; exact absurd h5 (by decide))
      | (simp at h5; omega)
  cases hwl with
  | cons w1 w2 =>
    cases w2
    cases w1 with
    | list ho hall => exact ⟨_, _, ns, rfl, rfl, ho, ints_of_wellAll ns _ hall, hlen⟩
theorem post_true (l : OpenLaw) (args : List WData) : l.row.toRowW.claim.post args (.bool true) args = true :=
  postW_of (r := l.row.toRowW) (X := (true == true))
    (show WShape.has [] (.bool true) .bool = true by first | rfl | decide | simp [WShape.has, WShape.arms, WShape.armsAll])
    (show (WTm.eq .res (.lit (.bool true))).value [] { args := args, res := some (.bool true), after := args } = some (.bool (true == true)) from w_eq_bool (w_res rfl) w_lit) rfl
theorem attach_call {l : OpenLaw} {n : Nat} {q : Program} {loose : List Str} {XP : (Str → Option Value) → Heap → Prop} {YP : World → Heap → Prop} {d : DefRec}
    (hn : l.most = some n) (hdf : d.params.defaults = [])
    (call : ∀ (w : World) (s₀ s₁ : Shared) (mg mb : Str → Option Value) (fa : Addr) (o : Obj) (pm cd doc : Value) (a : Addr) (vs : List Value) (ns : List Int),
      Ground q loose [] XP w s₀ mg mb s₁.heap → YP w s₁.heap →
      s₁.heap.get? fa = some o → o.data = .func (docDef d.name d.params d.body d.scope pm cd doc) → s₁.heap.CodeRec cd d.name → mg d.name = some (.ref fa) →
      s₁.heap.get? a = some { cls := .type "list", data := .seq vs.toArray } → IntsAre vs ns → ns.length ≤ n → s₁.gens = #[] →
      codeAny (model l.prog w) callerA (.call (.ref fa) ⟨[.ref a], []⟩) (fun r s' => r = .ok (.ret (.bool true)) ∧ OldK s₁.heap s'.heap ∧ s'.os = s₁.os ∧ AllBare s'.gens) s₁) :
    WalkO q loose XP YP l.row.toRowW d [] (fun f vs => PySem.call f vs) := by
  intro w s₀ s₁ mg mb G Y fa o pm cd doc dV kV ho hd hcd hD hmg hg args vals as hpre hlay hrd hwl hlo
  obtain rfl : dV = .none := Dflts.none hD hdf
  obtain rfl : kV = .none := Dflts.noKw hD
  obtain ⟨a, vs, ns, rfl, rfl, hobj, hints, hlen⟩ := script_of hn hpre hwl
  refine enter_call (codeAny_mono (call w s₀ s₁ mg mb fa o pm cd doc a vs ns G Y ho (fd_plain hd) hcd hmg hobj hints hlen hg) fun r s' hq => ?_)
  obtain ⟨rfl, h2, h3, h4⟩ := hq
  exact ⟨.inl ⟨.bool true, .bool true, [], rfl, fun _ => rfl, .bool true, post_true l _, fun _ => ⟨List.Pairwise.nil, fun _ hm => (nomatch hm)⟩⟩, h2, h3, h4⟩
section
variable {prog : Program} {w : World} {A : Around} {E : Value → Shared → Prop} {s : Shared} {K : Frag}
end
end Att
namespace L2
open PySem PySem.Spec PyProof.Rows
theorem vals_ints : ∀ {vs : List Value} {ns : List Int}, IntsAre vs ns → Vals (ns.map V.int) vs
  | _, _, .nil => .nil
  | _, _, .cons n t h => .cons ⟨t, rfl⟩ (vals_ints h)
def Only (H : Hp) : Prop := ∀ b, H b = none ∨ ∃ o xs, H b = some (.frz o (.lst xs))
theorem law_call {P : Program} {w : World} {K : PySem.W.Frag} {mg mb : Str → Option Value} {CX : CXT} {k : Nat} {fa a : Addr} {fd : FuncData} {x : Str} {sp : Sp} {s₁ : Shared} {vs : List Value} {ns : List Int}
    (KX : K.In s₁.heap) (hns : s₁.heap.Ns mainGlobals mg) (hb : s₁.heap.Ns builtinsNs mb) (hbb : ∀ x : Str, x ≠ "__name__" → mb x = bootBuiltins x) (hlim : s₁.heap.NoLimit) (hg : s₁.gens = #[])
    (ha : s₁.heap.get? a = some { cls := .type "list", data := .seq vs.toArray }) (hi : IntsAre vs ns) (hl : ns.length ≤ sizeLine) (hr : Room k callerA)
    (F : ∀ base : Heap, K.In base → base.Ns mainGlobals mg → FnOk P w K mg base CX k fa fd [x] sp) (hbind : ∀ (s : Shared) (u : Value), BindsTo s fd ⟨[u], []⟩ [(x, u)])
    (hsp : ∀ H : Hp, Only H → SqL K H a (ns.map V.int) → sp [.ref a] H (fun v _ => v = .bl true) fun _ _ _ => False)
    (hCX : ∀ H e s', CX [] H s₁ (fun _ _ _ => False) e s' → False) :
    codeAny (model P w) callerA (.call (.ref fa) ⟨[.ref a], []⟩) (fun r s' => r = .ok (.ret (.bool true)) ∧ OldK s₁.heap s'.heap ∧ s'.os = s₁.os ∧ AllBare s'.gens) s₁ := by
  have rv := vals_ints hi
  have lenV := hi.length
  have core : ∀ H : Hp, Only H → SqL K H a (ns.map V.int) → HOk P w H s₁.heap → (∀ b, H b ≠ none → b = a) → (H a ≠ none → K.lookup a = none) →
      codeAny (model P w) callerA (.call (.ref fa) ⟨[.ref a], []⟩) (fun r s' => r = .ok (.ret (.bool true)) ∧ OldK s₁.heap s'.heap ∧ s'.os = s₁.os ∧ AllBare s'.gens) s₁ := by
    intro H hO hS hok hA hK
    have base_of : ∀ {b : Addr} {o : Obj}, s₁.heap.get? b = some o → H b = none → (hidT s₁.heap H).get? b = some o := fun e n => hidT_get e n
    have noA : ∀ {b : Addr} {o : Obj} {es : Array DictEntry} {ep : Nat}, s₁.heap.get? b = some o → o.data = .dict es ep → H b = none := fun {b o es ep} e d => by
      cases q : H b with
      | none => rfl
      | some u =>
        have e' : b = a := hA b (by rw [q]; simp)
        subst e'
        rw [ha] at e; cases e
        have d' : Data.seq vs.toArray _ = Data.dict es ep := d
        cases d'
    have nsK : ∀ {b : Addr} {m : Str → Option Value}, s₁.heap.Ns b m → (hidT s₁.heap H).Ns b m := fun {b m} ⟨o, es, ep, e, d, r⟩ => ⟨o, es, ep, base_of e (noA e d), d, r⟩
    have hKb : K.In (hidT s₁.heap H) := fun b o e => base_of (KX b o e) (by
      cases q : H b with
      | none => rfl
      | some u =>
        have e' : b = a := hA b (by rw [q]; simp)
        subst e'
        rw [hK (by rw [q]; simp)] at e; cases e)
    have hM : Mod K mg (hidT s₁.heap H) := ⟨hKb, nsK hns, ⟨mb, nsK hb, hbb⟩, let ⟨mc, h1, h2⟩ := hlim; ⟨mc, nsK h1, h2⟩⟩
    have e0 : Env0 P w K mg (hidT s₁.heap H) callerA [] s₁ H := ⟨rfl, hM, fun b o e => of_hidT e, Nat.le_of_eq (hidT_size _ _), trivial, fun b hb => absurd (show b ∈ ([] : List Addr) from hb) (by simp), hok, .of_eq hg⟩
    refine codeAny_mono ((F _ hKb (nsK hns)).run callerA [] s₁ H ⟨[.ref a], []⟩ [.ref a] [.ref a] _ _ hr e0 (hbind s₁ (.ref a)) (.cons rfl .nil) (hsp H hO hS)) fun r s' h => ?_
    cases r with
    | error e => exact (hCX H e s' h).elim
    | ok fl =>
      cases fl with
      | next => exact False.elim h
      | brk => exact False.elim h
      | cont => exact False.elim h
      | ret u =>
        obtain ⟨v, H', os, bare, un, hok', r', q⟩ := h
        have q' : v = .bl true := q
        subst q'
        obtain rfl : u = Value.bool true := r'
        refine ⟨rfl, OldK.of_keep fun b o e => ?_, os, bare⟩
        cases q : H b with
        | none => exact un.keep b o e q (by intro z; exact absurd (show b ∈ ([] : List Addr) from z) (by simp)) (by simp)
        | some u =>
          rcases hO b with z | ⟨ob, xs, z⟩
          · rw [q] at z; cases z
          · have z2 := un.frzs b ob _ z
            obtain ⟨e1, _⟩ := hok b _ z
            obtain ⟨e2, _⟩ := hok' b _ z2
            rw [e] at e1; cases e1
            exact e2
  cases hk : K.lookup a with
  | some o =>
    have e := KX a o hk
    rw [ha] at e
    cases e
    refine core (fun _ => none) (fun _ => .inl rfl) (.inr ⟨_, vs.toArray, _, hk, rfl, rfl, rfl, by rw [List.size_toArray, lenV]; exact hl, by simpa using rv⟩) (fun b u z => by have z' : (none : Option HO) = some u := z; cases z') (fun b z => absurd rfl z) fun z => absurd rfl z
  | none =>
    refine core (fun b => if b = a then some (.frz { cls := .type "list", data := .seq vs.toArray } (.lst (ns.map V.int))) else none) (fun b => ?_) (.inl (.inr ⟨{ cls := .type "list", data := .seq vs.toArray }, if_pos rfl⟩)) (fun b u z => ?_) (fun b z => ?_) fun _ => hk
    · by_cases hb : b = a
      · exact .inr ⟨_, _, if_pos hb⟩
      · exact .inl (if_neg hb)
    · by_cases hb : b = a
      · have z' := (if_pos hb).symm.trans z
        cases z'
        subst hb
        exact ⟨ha, by rw [List.length_map]; exact hl, vs, _, rv, ha⟩
      · have z' := (if_neg hb).symm.trans z
        cases z'
    · by_cases hb : b = a
      · exact hb
      · exact absurd (if_neg hb) z
end L2
namespace L2
open PySem PySem.Spec PyProof.Rows
theorem walk_of {l : PySem.W.OpenLaw} {n k : Nat} {q : Program} {loose : List Str} {XP : (Str → Option Value) → Heap → Prop} {YP : World → Heap → Prop} {d : DefRec} {K : Params → PySem.W.Frag} {CX : World → CXT} {sp : World → Sp} {x : Str}
    (hn : l.most = some n) (hn2 : n ≤ sizeLine) (hdf : d.params.defaults = []) (hr : Room k callerA)
    (hY : ∀ (w : World) (h : Heap), YP w h → (K w.params).In h)
    (F : ∀ (w : World) (mg : Str → Option Value) (fa : Addr) (h : Heap), (K w.params).In h → h.Ns mainGlobals mg → mg d.name = some (.ref fa) →
      ∃ fd : FuncData, (∀ (s : Shared) (u : Value), BindsTo s fd ⟨[u], []⟩ [(x, u)]) ∧
        ∀ base : Heap, (K w.params).In base → base.Ns mainGlobals mg → FnOk l.prog w (K w.params) mg base (CX w) k fa fd [x] (sp w))
    (hsp : ∀ (w : World) (H : Hp) (a : Addr) (ns : List Int), ns.length ≤ n → Only H → SqL (K w.params) H a (ns.map V.int) → sp w [.ref a] H (fun v _ => v = .bl true) fun _ _ _ => False)
    (hCX : ∀ (w : World) (H : Hp) (s : Shared) (e : Value) (s' : Shared), CX w [] H s (fun _ _ _ => False) e s' → False) :
    PySem.W.WalkO q loose XP YP l.row.toRowW d [] (fun f vs => PySem.call f vs) := by
  refine Att.attach_call hn hdf fun w s₀ s₁ mg mb fa o pm cd doc a vs ns G Y ho hd hcd hmg hobj hints hlen hg => ?_
  have KX := hY w _ Y
  obtain ⟨fd, hb, hF⟩ := F w mg fa _ KX G.T.g hmg
  exact law_call KX G.T.g G.T.b G.T.builtins G.T.nolimit hg hobj hints (Nat.le_trans hlen hn2) hr hF hb (fun H hO hS => hsp w H a ns hlen hO hS) fun H e s' => hCX w H s₁ e s'
end L2
namespace L2
open PySem PySem.Spec PyProof.Rows
def defArgs (s : Stmt) : Arguments := match s with
  | .FunctionDef _ a _ _ _ _ _ _ _ _ => a
  | _ => { posonlyargs := [], args := [], vararg := none, kwonlyargs := [], kw_defaults := [], kwarg := none, defaults := [] }
def defBody (s : Stmt) : List Stmt := match s with
  | .FunctionDef _ _ b _ _ _ _ _ _ _ => b
  | _ => []
def defScope (s : Stmt) : Scope := match s with
  | .FunctionDef _ _ _ _ _ _ sc _ _ _ => sc
  | _ => { kind := .function, names := [], isGenerator := false, isCoroutine := false }
abbrev CX0 : CXT := fun _ _ _ _ _ _ => False
abbrev E0 : XK := fun _ _ _ => False
theorem pass0 {X : Cx} : Passes CX0 X E0 := fun _ _ _ _ _ _ _ h => h.elim
structure Fun (K : PySem.W.Frag) (x qual : Str) (st : Stmt) (f : Addr) (fd : FuncData) : Prop where
  ex : ∃ (oc : Value) (od : Option Addr) (kV doc pm : Value) (an : Option Addr) (cdv ct : Value) (osl : Array (Option Value)),
    fd = PySem.W.fnOf x qual (defArgs st) (defBody st) (defScope st) .none kV doc pm an cdv ct ∧ K.lookup f = some ⟨oc, od, .func fd, osl⟩ ∧ PySem.W.codeIn K cdv qual = true
  kp : PySem.W.keepIn K (.ref f) = true
section
variable {P : Program} {w : World} {K : PySem.W.Frag} {mg : Str → Option Value} {base : Heap}
theorem Fun.ok {x qual : Str} {st : Stmt} {f : Addr} {fd : FuncData} {N ps : List Str} {k : Nat} {sp : Sp} (F : Fun K x qual st f fd) (S : FnScope N ps (defScope st)) (len : ∀ vs H Q E, sp vs H Q E → vs.length = ps.length)
    (hbody : ∀ (cdv : Value) (A : Around) (outer : List Env) (s : Shared) (H : Hp) (vs : List V) (Q : VK) (E : XK), Room k (A.deeper (envOfC qual (defScope st) s.heap.objs.size f cdv)) → sp vs H Q E →
      ∃ t, PSs (cxOf CX0 P w K mg base N qual (defScope st) f cdv A outer s H E).nox (defBody st) t ∧ t { nx := fun _ H' => Q .non H', rt := Q } (start N vs) H) : FnOk P w K mg base CX0 (k + 1) f fd ps sp := by
  obtain ⟨oc, od, kV, doc, pm, an, cdv, ct, osl, rfl, lk, hcd⟩ := F.ex
  refine fn_of lk hcd S len fun A outer s H vs Q E hr hsp => ?_
  obtain ⟨t, h, q⟩ := hbody cdv A outer s H vs Q E hr hsp
  exact ⟨t, h.nox, q⟩
theorem Fun.binds {x qual : Str} {st : Stmt} {f : Addr} {fd : FuncData} {ps : List Str} (F : Fun K x qual st f fd)
    (h : ∀ (kV doc pm : Value) (an : Option Addr) (cdv ct : Value) (us : List Value), us.length = ps.length → bindArgs (PySem.W.fnOf x qual (defArgs st) (defBody st) (defScope st) .none kV doc pm an cdv ct) ⟨us, []⟩ = pure (ps.zip us)) : Binds K fd ps [] := by
  obtain ⟨oc, od, kV, doc, pm, an, cdv, ct, osl, rfl, lk, hcd⟩ := F.ex
  exact .all (h kV doc pm an cdv ct)
theorem fun_mk {x qual : Str} {st : Stmt} {f : Addr} {oc : Value} {od an : Option Addr} {osl : Array (Option Value)} {kV doc pm cdv ct : Value} (l : K.lookup f = some ⟨oc, od, .func (PySem.W.fnOf x qual (defArgs st) (defBody st) (defScope st) .none kV doc pm an cdv ct), osl⟩)
    (c : PySem.W.codeIn K cdv qual = true) (k : PySem.W.keepIn K (.ref f) = true) : Fun K x qual st f (PySem.W.fnOf x qual (defArgs st) (defBody st) (defScope st) .none kV doc pm an cdv ct) := ⟨⟨oc, od, kV, doc, pm, an, cdv, ct, osl, rfl, l, c⟩, k⟩
end
theorem small1000 {n : Nat} (h : n ≤ 1000) : n < sizeLine := Nat.lt_of_le_of_lt h (by decide)
section
variable {X : Cx}
theorem pv (i : Nat) {x : Str} {pos : Pos} (hN : X.N[i]? = some x := by rfl) (hv : Vis X.env.scope x := by first | exact Or.inl rfl | exact Or.inr (Or.inl rfl) | exact Or.inr (Or.inr rfl)) (hd : (x == ("__debug__" : Str)) = false := by decide)
    (hcd : (x == ("__classdict__" : Str)) = false := by decide) : PE X (.Name x pos) (tVar i) := pe_var hN hv hd hcd
end
theorem iteF {A B : Prop} (h : B) : if false = true then A else B := by
  rw [if_neg Bool.false_ne_true]
  exact h
theorem iteT {A B : Prop} (h : A) : if true = true then A else B := by
  rw [if_pos rfl]
  exact h
theorem ite2 {c A B : Prop} [Decidable c] (h1 : c → A) (h2 : ¬ c → B) : if c then A else B := by
  by_cases h : c
  · rw [if_pos h]
    exact h1 h
  · rw [if_neg h]
    exact h2 h
def Same (H H' : Hp) : Prop := ∀ b o, H b = some o → H' b = some o
theorem Same.refl (H : Hp) : Same H H := fun _ _ h => h
theorem Same.trans {H H1 H2 : Hp} (a : Same H H1) (b : Same H1 H2) : Same H H2 := fun c o h => b c o (a c o h)
theorem Same.free {H H' : Hp} (e : Same H H') {l : Addr} (h : H' l = Option.none) : H l = Option.none := by
  cases q : H l with
  | none => rfl
  | some o =>
    rw [e l o q] at h
    cases h
theorem Same.seq {K : PySem.W.Frag} {H H' : Hp} {a : Addr} {xs : List V} (e : Same H H') (h : SqL K H a xs) : SqL K H' a xs := by
  rcases h with (h | ⟨o, h⟩) | h
  · exact .inl (.inl (e _ _ h))
  · exact .inl (.inr ⟨o, e _ _ h⟩)
  · exact .inr h
end L2
namespace L2
open PySem PySem.Spec PyProof.Rows
section
variable {κ : Type} [DecidableEq κ]
def valV (kvs : List (κ × V)) (k : κ) : Option V := (kvs.find? fun kv => decide (kv.1 = k)).map (·.2)
def putK (kvs : List (κ × V)) (k : κ) (v : V) : List (κ × V) :=
  if (kvs.any fun kv => decide (kv.1 = k)) = true then kvs.map (fun kv => if kv.1 = k then (kv.1, v) else kv) else kvs ++ [(k, v)]
def dropK (kvs : List (κ × V)) (k : κ) : List (κ × V) := kvs.filter fun kv => decide (kv.1 ≠ k)
theorem valV_pos {p : κ × V} {r : List (κ × V)} {k : κ} (e : p.1 = k) : valV (p :: r) k = some p.2 := by simp [valV, List.find?_cons, e]
theorem valV_neg {p : κ × V} {r : List (κ × V)} {k : κ} (e : ¬ p.1 = k) : valV (p :: r) k = valV r k := by simp [valV, List.find?_cons, e]
theorem valV_any (k : κ) : ∀ kvs : List (κ × V), (kvs.any fun kv => decide (kv.1 = k)) = (valV kvs k).isSome
  | [] => rfl
  | p :: r => by
    rw [List.any_cons]
    by_cases e : p.1 = k
    · simp only [valV_pos e, decide_eq_true e, Bool.true_or, Option.isSome_some]
    · rw [valV_neg e, decide_eq_false e, Bool.false_or]; exact valV_any k r
theorem valV_map (k j : κ) (y : V) : ∀ kvs : List (κ × V), valV (kvs.map fun kv => if kv.1 = k then (kv.1, y) else kv) j = (valV kvs j).map fun x => if j = k then y else x
  | [] => rfl
  | p :: r => by
    have ih := valV_map k j y r
    rw [List.map_cons]
    by_cases h : p.1 = k
    · rw [if_pos h]
      by_cases e : p.1 = j
      · rw [valV_pos (p := (p.1, y)) e, valV_pos e, Option.map_some, if_pos (e.symm.trans h)]
      · rw [valV_neg (p := (p.1, y)) e, valV_neg e, ih]
    · rw [if_neg h]
      by_cases e : p.1 = j
      · rw [valV_pos (p := p) e, valV_pos e, Option.map_some, if_neg (fun z => h (e.trans z))]
      · rw [valV_neg (p := p) e, valV_neg e, ih]
theorem valV_snoc (k j : κ) (y : V) : ∀ kvs : List (κ × V), valV kvs k = none → valV (kvs ++ [(k, y)]) j = if j = k then some y else valV kvs j
  | [], _ => by
    by_cases e : k = j
    · rw [if_pos e.symm]; exact valV_pos (p := (k, y)) e
    · rw [if_neg (fun z => e z.symm)]; exact valV_neg (p := (k, y)) e
  | p :: r, hn => by
    rw [List.cons_append]
    have hk : ¬ p.1 = k := fun z => by rw [valV_pos z] at hn; cases hn
    rw [valV_neg hk] at hn
    have ih := valV_snoc k j y r hn
    by_cases e : p.1 = j
    · rw [valV_pos e, valV_pos e, if_neg (fun z => hk (e.trans z))]
    · rw [valV_neg e, valV_neg e, ih]
theorem valV_put (kvs : List (κ × V)) (k j : κ) (y : V) : valV (putK kvs k y) j = if j = k then some y else valV kvs j := by
  unfold putK
  by_cases a : (kvs.any fun kv => decide (kv.1 = k)) = true
  · rw [if_pos a, valV_map]
    rw [valV_any] at a
    by_cases e : j = k
    · obtain ⟨x, hx⟩ := Option.isSome_iff_exists.mp a
      rw [if_pos e, e, hx, Option.map_some, if_pos rfl]
    · rw [if_neg e]
      cases valV kvs j with
      | none => rfl
      | some x => rw [Option.map_some, if_neg e]
  · rw [if_neg a]
    refine valV_snoc k j y kvs ?_
    rw [valV_any] at a
    cases q : valV kvs k with
    | none => rfl
    | some x => rw [q] at a; exact (a rfl).elim
theorem length_putK (kvs : List (κ × V)) (k : κ) (v : V) : (putK kvs k v).length ≤ kvs.length + 1 := by
  unfold putK
  split
  · rw [List.length_map]; omega
  · rw [List.length_append, List.length_cons, List.length_nil]; omega
theorem putK_new {kvs : List (κ × V)} {k : κ} (v : V) (h : valV kvs k = none) : putK kvs k v = kvs ++ [(k, v)] := by
  unfold putK
  rw [valV_any, h]
  exact if_neg (by decide)
theorem RelO.isSome_eq {o : Option V} {u : Option Value} (r : RelO o u) : o.isSome = u.isSome := by
  cases o with
  | none => cases u with
    | none => rfl
    | some _ => exact (show False from r).elim
  | some _ => cases u with
    | none => exact (show False from r).elim
    | some _ => rfl
theorem RelO.getD {o : Option V} {u : Option Value} {d : V} {d' : Value} (r : RelO o u) (rd : RelV d d') : RelV (o.getD d) (u.getD d') := by
  cases o with
  | none => cases u with
    | none => exact rd
    | some _ => exact (show False from r).elim
  | some _ => cases u with
    | none => exact (show False from r).elim
    | some _ => exact r
theorem KV.val {kvs : List (κ × V)} {vs : List (κ × Value)} (r : KV kvs vs) (k : κ) : RelO (valV kvs k) (valueAt vs k) := by
  unfold KV at r
  induction r with
  | nil => exact True.intro
  | @cons p q ps qs h t ih =>
    obtain ⟨h1, h2⟩ := h
    by_cases e : p.1 = k
    · have e' : q.1 = k := h1.symm.trans e
      have b : valueAt (q :: qs) k = some q.2 := by simp [valueAt, List.find?_cons, e']
      rw [valV_pos e, b]; exact h2
    · have e' : ¬ q.1 = k := fun z => e (h1.trans z)
      have b : valueAt (q :: qs) k = valueAt qs k := by simp [valueAt, List.find?_cons, e']
      rw [valV_neg e, b]; exact ih
theorem KV.any {kvs : List (κ × V)} {vs : List (κ × Value)} (r : KV kvs vs) (k : κ) : (kvs.any fun kv => decide (kv.1 = k)) = vs.any fun kv => decide (kv.1 = k) := by
  unfold KV at r
  induction r with
  | nil => rfl
  | cons h t ih => rw [List.any_cons, List.any_cons, ih, h.1]
theorem KV.repl {kvs : List (κ × V)} {vs : List (κ × Value)} (r : KV kvs vs) (k : κ) {y : V} {u : Value} (ry : RelV y u) :
    KV (kvs.map fun kv => if kv.1 = k then (kv.1, y) else kv) (vs.map fun kv => if kv.1 = k then (kv.1, u) else kv) := by
  unfold KV at r ⊢
  induction r with
  | nil => exact .nil
  | @cons p q ps qs h t ih =>
    rw [List.map_cons, List.map_cons]
    refine .cons ?_ ih
    obtain ⟨h1, h2⟩ := h
    by_cases e : p.1 = k
    · rw [if_pos e, if_pos (h1.symm.trans e)]; exact ⟨h1, ry⟩
    · rw [if_neg e, if_neg (fun z => e (h1.trans z))]; exact ⟨h1, h2⟩
theorem KV.put {kvs : List (κ × V)} {vs : List (κ × Value)} (r : KV kvs vs) (k : κ) {y : V} {u : Value} (ry : RelV y u) : KV (putK kvs k y) (stored vs k u) := by
  unfold putK stored
  rw [r.any k]
  by_cases e : (vs.any fun kv => decide (kv.1 = k)) = true
  · rw [if_pos e, if_pos e]; exact r.repl k ry
  · rw [if_neg e, if_neg e]; exact Paired.snoc r ⟨rfl, ry⟩
theorem KV.drop {kvs : List (κ × V)} {vs : List (κ × Value)} (r : KV kvs vs) (k : κ) : KV (dropK kvs k) (without vs k) := by
  unfold KV at r ⊢
  unfold dropK without
  induction r with
  | nil => exact .nil
  | @cons p q ps qs h t ih =>
    obtain ⟨h1, h2⟩ := h
    rw [List.filter_cons, List.filter_cons]
    by_cases e : p.1 = k
    · have a : ¬ decide (p.1 ≠ k) = true := by simp [e]
      have b : ¬ decide (q.1 ≠ k) = true := by simp [h1.symm.trans e]
      rw [if_neg a, if_neg b]; exact ih
    · have e' : ¬ q.1 = k := fun z => e (h1.trans z)
      have a : decide (p.1 ≠ k) = true := by simp [e]
      have b : decide (q.1 ≠ k) = true := by simp [e']
      rw [if_pos a, if_pos b]; exact .cons ⟨h1, h2⟩ ih
theorem KV.keys {kvs : List (κ × V)} {vs : List (κ × Value)} (r : KV kvs vs) : kvs.map (·.1) = vs.map (·.1) := by
  unfold KV at r
  induction r with
  | nil => rfl
  | cons h t ih => rw [List.map_cons, List.map_cons, ih, h.1]
theorem KV.length {kvs : List (κ × V)} {vs : List (κ × Value)} (r : KV kvs vs) : kvs.length = vs.length := Paired.length r
end
theorem kV_is {P : Program} {w : World} {k : Key} {u : Value} (r : RelV (kV k) u) : (mixKind P w).is k u = true := by
  cases k with
  | inl i => obtain ⟨t, e⟩ := (show ∃ t, u = Value.int i t from r); subst e; exact mixKind_int P w i t
  | inr x => obtain ⟨t, e⟩ := (show ∃ t, u = Value.str x t from r); subst e; exact mixKind_str P w x t
theorem items_are {P : Program} {w : World} : ∀ {ks : List Key} {us : List Value}, Vals (ks.map kV) us → ItemsAre (mixKind P w) ks us
  | [], _, r => by rw [List.map_nil] at r; cases r; exact .nil
  | k :: ks, _, r => by
    rw [List.map_cons] at r
    cases r with
    | cons h t => exact .cons (kV_is h) (items_are t)
abbrev KT (H : Hp) : List (List Key × V) → List (List Key × Addr × Value) → Prop := Paired fun p q => p.1 = q.1 ∧ H q.2.1 = some (.tup (p.1.map kV)) ∧ RelV p.2 q.2.2
theorem KT.val {H : Hp} {kvs : List (List Key × V)} {xs : List (List Key × Addr × Value)} (r : KT H kvs xs) (k : List Key) : RelO (valV kvs k) ((atKey xs k).map (·.2)) := by
  induction r with
  | nil => exact True.intro
  | @cons p q ps qs h t ih =>
    obtain ⟨h1, _, h2⟩ := h
    by_cases e : p.1 = k
    · have e' : q.1 = k := h1.symm.trans e
      have b : atKey (q :: qs) k = some q.2 := by simp [atKey, List.find?_cons, e']
      rw [valV_pos e, b]; exact h2
    · have e' : ¬ q.1 = k := fun z => e (h1.trans z)
      have b : atKey (q :: qs) k = atKey qs k := by simp [atKey, List.find?_cons, e']
      rw [valV_neg e, b]; exact ih
theorem KT.repl {H : Hp} {kvs : List (List Key × V)} {xs : List (List Key × Addr × Value)} (r : KT H kvs xs) (k : List Key) {y : V} {u : Value} (ry : RelV y u) :
    KT H (kvs.map fun kv => if kv.1 = k then (kv.1, y) else kv) (xs.map (putAt k u)) := by
  induction r with
  | nil => exact .nil
  | @cons p q ps qs h t ih =>
    rw [List.map_cons, List.map_cons]
    refine .cons ?_ ih
    obtain ⟨h1, h2, h3⟩ := h
    unfold putAt
    by_cases e : p.1 = k
    · rw [if_pos e, if_pos (h1.symm.trans e)]; exact ⟨h1, h2, ry⟩
    · rw [if_neg e, if_neg (fun z => e (h1.trans z))]; exact ⟨h1, h2, h3⟩
theorem KT.put {H : Hp} {kvs : List (List Key × V)} {xs : List (List Key × Addr × Value)} (r : KT H kvs xs) (k : List Key) {b : Addr} {y : V} {u : Value} (hb : H b = some (.tup (k.map kV))) (ry : RelV y u) :
    KT H (putK kvs k y) (storedH xs k b u) := by
  have e : (kvs.any fun kv => decide (kv.1 = k)) = (atKey xs k).isSome := by
    rw [valV_any, (r.val k).isSome_eq, Option.isSome_map]
  unfold putK storedH
  rw [e]
  by_cases q : (atKey xs k).isSome = true
  · rw [if_pos q, if_pos q]; exact r.repl k ry
  · rw [if_neg q, if_neg q]; exact Paired.snoc r ⟨rfl, hb, ry⟩
theorem KT.keeps {H H' : Hp} {kvs : List (List Key × V)} {xs : List (List Key × Addr × Value)} (r : KT H kvs xs) (ht : ∀ b ys, H b = some (.tup ys) → H' b = some (.tup ys)) : KT H' kvs xs :=
  Paired.mapP r fun _ _ z => ⟨z.1, ht _ _ z.2.1, z.2.2⟩
section
variable {P : Program} {w : World} {H : Hp} {h : Heap} {a : Addr}
theorem rd_of {u : HO} (ok : HOk P w H h) (e : Rd H a u) : ObjOk P w H h a u := e.ok ok
theorem dk_rd {kvs : List (Key × V)} (ok : HOk P w H h) (e : Rd H a (.dK kvs)) : kvs.length ≤ sizeLine ∧ (a == sysModules) = false ∧ ∃ vs, KV kvs vs ∧ h.DictOf (mixKind P w) a vs :=
  show ObjOk P w H h a (.dK kvs) from rd_of ok e
theorem dk_of {kvs : List (Key × V)} (ok : HOk P w H h) (e : H a = some (.dK kvs)) : kvs.length ≤ sizeLine ∧ (a == sysModules) = false ∧ ∃ vs, KV kvs vs ∧ h.DictOf (mixKind P w) a vs := dk_rd ok (.inl e)
theorem key_of {ks : List Key} (ok : HOk P w H h) (e : H a = some (.tup (ks.map kV))) : (tupleKind (mixKind P w)).is h ks a := by
  obtain ⟨_, its, r, o, h1, h2, n, h3⟩ := (show ObjOk P w H h a (.tup (ks.map kV)) from ok a _ e)
  exact ⟨o, its.toArray, n, h1, h2, h3, by simpa using items_are r⟩
theorem dt_rd {kvs : List (List Key × V)} (ok : HOk P w H h) (e : Rd H a (.dT kvs)) : kvs.length ≤ sizeLine ∧ (a == sysModules) = false ∧
    ∃ xs, KT H kvs xs ∧ h.DictOfH (tupleKind (mixKind P w)) a xs := by
  obtain ⟨z, y, xs, r, o, es, ep, h1, h2, h3, h4, h5⟩ := (show ObjOk P w H h a (.dT kvs) from rd_of ok e)
  refine ⟨z, y, xs, r, o, es, ep, h1, h2, h3, h4, fun x hx => ?_, h5⟩
  have all : ∀ {l : List (List Key × V)} {m : List (List Key × Addr × Value)}, KT H l m → ∀ x ∈ m, (tupleKind (mixKind P w)).is h x.1 x.2.1 := by
    intro l m q
    induction q with
    | nil => intro x hx; exact nomatch hx
    | @cons p q ps qs hq t ih =>
      intro x hx
      rcases List.mem_cons.mp hx with e | hx
      · subst e
        exact key_of ok (by rw [← hq.1]; exact hq.2.1)
      · exact ih x hx
  exact all r x hx
theorem dt_of {kvs : List (List Key × V)} (ok : HOk P w H h) (e : H a = some (.dT kvs)) : kvs.length ≤ sizeLine ∧ (a == sysModules) = false ∧
    ∃ xs, KT H kvs xs ∧ h.DictOfH (tupleKind (mixKind P w)) a xs := dt_rd ok (.inl e)
end
def DGet (H : Hp) (a : Addr) (y : V) (r : Option V) : Prop :=
  (∃ kvs k, Rd H a (.dK kvs) ∧ y = kV k ∧ r = valV kvs k) ∨ ∃ kvs k b, Rd H a (.dT kvs) ∧ y = .ref b ∧ H b = some (.tup (k.map kV)) ∧ r = valV kvs k
def DPut (H : Hp) (a : Addr) (y v : V) (H' : Hp) : Prop :=
  (∃ kvs k, H a = some (.dK kvs) ∧ y = kV k ∧ kvs.length < sizeLine ∧ H' = upd H a (.dK (putK kvs k v))) ∨
  ∃ kvs k b, H a = some (.dT kvs) ∧ y = .ref b ∧ H b = some (.tup (k.map kV)) ∧ kvs.length < sizeLine ∧ H' = upd H a (.dT (putK kvs k v))
theorem DGet.k {H : Hp} {a : Addr} {kvs : List (Key × V)} {k : Key} (e : H a = some (.dK kvs)) : DGet H a (kV k) (valV kvs k) := .inl ⟨kvs, k, .inl e, rfl, rfl⟩
theorem DGet.t {H : Hp} {a b : Addr} {kvs : List (List Key × V)} {k : List Key} (e : H a = some (.dT kvs)) (eb : H b = some (.tup (k.map kV))) : DGet H a (.ref b) (valV kvs k) := .inr ⟨kvs, k, b, .inl e, rfl, eb, rfl⟩
theorem DPut.k {H : Hp} {a : Addr} {kvs : List (Key × V)} {k : Key} {v : V} (e : H a = some (.dK kvs)) (hl : kvs.length < sizeLine) : DPut H a (kV k) v (upd H a (.dK (putK kvs k v))) := .inl ⟨kvs, k, e, rfl, hl, rfl⟩
theorem DPut.t {H : Hp} {a b : Addr} {kvs : List (List Key × V)} {k : List Key} {v : V} (e : H a = some (.dT kvs)) (eb : H b = some (.tup (k.map kV))) (hl : kvs.length < sizeLine) :
    DPut H a (.ref b) v (upd H a (.dT (putK kvs k v))) := .inr ⟨kvs, k, b, e, rfl, eb, hl, rfl⟩
section
variable {X : Cx} {pins : List (Addr × Obj)} {σ : St} {H : Hp} {s : Shared} {a : Addr} {y v : V} {u r : Value} {o : Option V} {A : Around} {E : Value → Shared → Prop}
theorem Inv.big (I : Inv X pins σ H s) : sysModules < s.heap.objs.size := by
  have h : mainGlobals < s.heap.objs.size := (I.mod.glob.keeps I.bk).lt
  exact Nat.lt_trans (by decide) h
theorem d_getItem {Q : Value → Shared → Prop} (hu : A.units + 1 < cLine) (I : Inv X pins σ H s) (g : DGet H a y (some v)) (ry : RelV y u) (h : ∀ w' s', Inv X pins σ H s' → RelV v w' → Q w' s') :
    wpAny (model X.prog X.w) A (getItem (.ref a) u) Q E s := by
  rcases g with ⟨kvs, k, e, ey, l⟩ | ⟨kvs, k, b, e, ey, eb, l⟩
  · subst ey
    obtain ⟨z, hd, vs, rel, dd⟩ := dk_rd I.hok e
    obtain ⟨w', hw, rw'⟩ := RelO.some_of (v := v) (o := valueAt vs k) (by rw [l]; exact rel.val k)
    exact wpAny_getItem_of (kV_is ry) dd.mapOf hw (h w' _ (I.tok _) rw')
  · subst ey
    cases (show u = Value.ref b from ry)
    obtain ⟨z, hd, xs, rel, dd⟩ := dt_rd I.hok e
    obtain ⟨w', hw, rw'⟩ := RelO.some_of (v := v) (o := (atKey xs k).map (·.2)) (by rw [l]; exact rel.val k)
    obtain ⟨p, hp, hp2⟩ := Option.map_eq_some_iff.mp hw
    refine wpAny_getItem_heap (tupleKind_room_in1 hu) (key_of I.hok eb) dd hp ?_
    rw [hp2]
    exact h w' _ (I.tok _) rw'
theorem d_write {h' : Heap} {t' : Nat} {ob : HO} (I : Inv X pins σ H s) (mu : Mut (H a)) (hs : Heap.SameBut a s.heap h') (he : ∃ q, h'.get? a = some q) (new : ObjOk X.prog X.w (upd H a ob) h' a ob) :
    Inv X pins σ (upd H a ob) { s with heap := h', toks := t' } :=
  I.write (x := a) (e := a) mu (.inl rfl) (fun b q hb z => (hs.2 b hb).trans z) he new
theorem dk_new {P : Program} {w : World} {H' : Hp} {h' : Heap} {kvs : List (Key × V)} {vs : List (Key × Value)} (z : kvs.length ≤ sizeLine) (hd : (a == sysModules) = false) (rel : KV kvs vs) (dd : h'.DictOf (mixKind P w) a vs) :
    ObjOk P w H' h' a (.dK kvs) := ⟨z, hd, vs, rel, dd⟩
theorem d_setItem {H' : Hp} {Q : Unit → Shared → Prop} (hu : A.units + 1 < cLine) (I : Inv X pins σ H s) (g : DPut H a y v H') (ry : RelV y u) (rv : RelV v r) (h : ∀ s', Inv X pins σ H' s' → Q () s') :
    wpAny (model X.prog X.w) A (setItem (.ref a) u r) Q E s := by
  rcases g with ⟨kvs, k, e, ey, l, eH⟩ | ⟨kvs, k, b, e, ey, eb, l, eH⟩
  · subst ey eH
    obtain ⟨z, hd, vs, rel, dd⟩ := dk_of I.hok e
    have hz : vs.length ≤ sizeLine := by rw [← rel.length]; exact z
    have hl : (putK kvs k v).length ≤ sizeLine := by have := length_putK kvs k v; omega
    refine wpAny_setItem_pairs (hsz := hz) (kV_is ry) dd fun h' dd' hs => h _ ?_
    have he : ∃ q, h'.get? a = some q := let ⟨q, _, _, hq, _⟩ := dd'; ⟨q, hq⟩
    exact d_write I (by rw [e]; exact True.intro) hs he (dk_new hl hd (rel.put k rv) dd')
  · subst ey eH
    cases (show u = Value.ref b from ry)
    obtain ⟨z, hd, xs, rel, dd⟩ := dt_of I.hok e
    have hz : xs.length ≤ sizeLine := by rw [← Paired.length rel]; exact z
    have hl : (putK kvs k v).length ≤ sizeLine := by have := length_putK kvs k v; omega
    refine wpAny_setItem_heap (hsz := hz) (tupleKind_room_in1 hu) (key_of I.hok eb) dd fun h' dd' hs => h _ ?_
    obtain ⟨q, es, ep, hq, h2, h3, h4, _, h5⟩ := dd'
    refine d_write I (by rw [e]; exact True.intro) hs ⟨q, hq⟩ ⟨hl, hd, _, (rel.put k eb rv).keeps fun c ys ec => ?_, q, es, ep, hq, h2, h3, h4, h5⟩
    rw [upd_ne (ne_of ec e (fun z => nomatch z))]
    exact ec
end
section
variable {X : Cx} {pins : List (Addr × Obj)} {σ : St} {H : Hp} {s : Shared} {a : Addr} {kvs : List (Key × V)} {k : Key} {u : Value} {A : Around} {E : Value → Shared → Prop}
end
def NoSl (i : Expr) : Prop := ∀ ov iv, subscripted i false ov iv = operate [ov, iv] (getItem ov iv)
theorem subD_of {prog : Program} {w : World} {A : Around} {E : Value → Shared → Prop} {s : Shared} {env : Env} {value slice : Expr} {pos : Pos} {T id : String} {Q : Value → Shared → Prop}
    (hl : typeLookup (.type T) "__getitem__" = pure (some (.builtin id))) (hs : NoSl slice)
    (h : wpAny (model prog w) A (eval value env) (fun o s₁ => wpAny (model prog w) A (eval slice env) (fun i s₂ => s₂.TypeIs o T ∧ wpAny (model prog w) A (getItem o i) Q E s₂) E s₁) E s) :
    wpAny (model prog w) A (eval (.Subscript value slice pos) env) Q E s := by
  refine Subscript_ (wpAny_mono h (fun o s₁ h₁ => wpAny_mono h₁ (fun i s₂ h₂ => ?_) fun _ _ x => x) fun _ _ x => x)
  obtain ⟨hT, h₂⟩ := h₂
  unfold subscriptTail
  refine wpAny_bind ?_
  rw [getitemInPython_of_ne hT.not_modules]
  refine wpAny_bind (wpAny_specialOf hT hl ?_)
  have fin : wpAny (model prog w) A (subscripted slice false o i) (fun r s₃ => wpAny (model prog w) A (letTemporaryGo value o r >>= fun _ => pure r) Q E s₃) E s₂ := by
    rw [hs o i]
    exact wpAny_operating (wpAny_mono h₂ (fun r s₃ h₃ => wpAny_bind (wpAny_letTemporaryGo (wpAny_pure h₃))) fun _ _ x => x)
  first
    | exact wpAny_pure (wpAny_bind fin)
    | exact wpAny_bind (wpAny_pure (wpAny_bind fin))
    | exact wpAny_bind fin
theorem dict_typeIs {X : Cx} {pins : List (Addr × Obj)} {σ : St} {H : Hp} {s : Shared} {a : Addr} {y : V} {o : Option V} (I : Inv X pins σ H s) (g : DGet H a y o) : s.TypeIs (.ref a) "dict" := by
  rcases g with ⟨kvs, k, e, _, _⟩ | ⟨kvs, k, b, e, _, _, _⟩
  · obtain ⟨_, _, vs, _, dd⟩ := dk_rd I.hok e
    exact dd.typeIs
  · obtain ⟨_, _, xs, _, dd⟩ := dt_rd I.hok e
    exact dd.typeIs
def tDGet (td ty : TE) : TE := fun σ H Q => td σ H fun x H1 => ty σ H1 fun y H2 => ∃ a v, x = .ref a ∧ DGet H2 a y (some v) ∧ Q v H2
def sDPut (td ty tv : TE) : TS := fun D σ H => tv σ H fun v H1 => td σ H1 fun x H2 => ty σ H2 fun y H3 => ∃ a H4, x = .ref a ∧ DPut H3 a y v H4 ∧ D.nx σ H4
section
variable {X : Cx} {o i e value : Expr} {pos pos' tpos : Pos} {td ty tv : TE}
theorem pe_dget (hu : X.A.units + 1 < cLine) (ho : PE X o td) (hi : PE X i ty) (hs : NoSl i) : PE X (.Subscript o i pos) (tDGet td ty) := by
  intro pins s σ H Q I h
  refine subD_of PySem.F.slot_dict_getitem.lookup hs (thn (ho pins s σ H _ I h) fun u s1 ⟨x, H1, I1, rx, q1⟩ => thn (hi pins s1 σ H1 _ I1 q1) fun iv s2 ⟨y, H2, I2, ry, a, v, ex, g, q2⟩ => ?_)
  subst ex
  obtain rfl : u = Value.ref a := rx
  exact ⟨dict_typeIs I2 g, d_getItem hu I2 g ry fun w' s3 I3 rw' => ⟨v, H2, I3, rw', q2⟩⟩
theorem ps_dput (hu : X.A.units + 1 < cLine) (ho : PE X o td) (hi : PE X i ty) (hv : PE X value tv) (hs : swapsWith value (some (.Subscript o i pos')) pos.line X.env = pure false) :
    PS X (.Assign [.Subscript o i pos'] value pos) (sDPut td ty tv) := by
  intro pins s σ H D I h
  refine wpAny_Assign_Subscript (thn (hv pins s σ H _ I h) fun r s1 ⟨v, H1, I1, rv, q1⟩ => thn (ho pins s1 σ H1 _ I1 q1) fun u s2 ⟨x, H2, I2, rx, q2⟩ => thn (hi pins s2 σ H2 _ I2 q2) fun iv s3 ⟨y, H3, I3, ry, a, H4, ex, g, q3⟩ => ?_) hs
  subst ex
  obtain rfl : u = Value.ref a := rx
  exact d_setItem hu I3 g ry rv fun s4 I4 => ⟨σ, H4, I4, q3⟩
end
theorem dt_empty {P : Program} {w : World} {H : Hp} (h : Heap) (hb : sysModules < h.objs.size) : ObjOk P w H (h.push { cls := .type "dict", data := .dict #[] }) h.objs.size (.dT []) :=
  ⟨Nat.zero_le _, beq_eq_false_iff_ne.mpr (Ne.symm (Nat.ne_of_lt hb)), [], .nil, _, #[], 0, Heap.get?_push_size _ rfl, ⟨rfl, rfl, rfl⟩, rfl, rfl, List.nodup_nil⟩
def tDNewT : TE := fun _ H Q => ∀ p, H p = none → Q (.ref p) (upd H p (.dT []))
section
variable {X : Cx} {pos : Pos}
theorem pe_dnewT : PE X (.Dict [] [] pos) tDNewT := fun pins s σ H Q I h =>
  wpAny_Dict_empty ⟨.ref s.heap.objs.size, _, I.laid (a := s.heap.objs.size) (o := .dT []) (t' := s.toks) (fun _ _ q => Heap.get?_push_of_some _ q) (Nat.le_refl _) (dt_empty s.heap I.big), rfl, h _ (I.hok.fresh (Nat.le_refl _))⟩
end
structure M1 (X : Cx) (o : Expr) (m : Str) (apos : Pos) (e : Expr) (cpos : Pos) : Prop where
  base : attributeBase o m X.env (eval o X.env) = eval o X.env
  few : ((backTo cpos (starEach [e] X.env)).all (fun x => !x.1) && (backToKw cpos (keywordEach [] X.env)).all (fun x => x.1.isSome)
    && decide (([e] : List Expr).length + ([] : List Keyword).length + (if ([] : List Keyword).isEmpty then 0 else 1) < 30)) = true
  line : (apos.endLine == cpos.line) = true
  trees : backTo cpos (starEach [e] X.env) = [(false, eval e X.env)]
structure M2 (X : Cx) (o : Expr) (m : Str) (apos : Pos) (e f : Expr) (cpos : Pos) : Prop where
  base : attributeBase o m X.env (eval o X.env) = eval o X.env
  few : ((backTo cpos (starEach [e, f] X.env)).all (fun x => !x.1) && (backToKw cpos (keywordEach [] X.env)).all (fun x => x.1.isSome)
    && decide (([e, f] : List Expr).length + ([] : List Keyword).length + (if ([] : List Keyword).isEmpty then 0 else 1) < 30)) = true
  line : (apos.endLine == cpos.line) = true
  trees : backTo cpos (starEach [e, f] X.env) = [(false, eval e X.env), (false, eval f X.env)]
def IsD (H : Hp) (a : Addr) : Prop := (∃ kvs, Rd H a (.dK kvs)) ∨ ∃ kvs, Rd H a (.dT kvs)
theorem isD_at {X : Cx} {pins : List (Addr × Obj)} {σ : St} {H : Hp} {s : Shared} {a : Addr} (I : Inv X pins σ H s) (d : IsD H a) :
    s.TypeIs (.ref a) "dict" ∧ (∀ b, Value.ref a = .ref b → ∃ ob, s.heap.get? b = some ob ∧ ob.dict = none) ∧ (a == sysModules) = false := by
  rcases d with ⟨kvs, e⟩ | ⟨kvs, e⟩
  · obtain ⟨_, hd, vs, _, dd⟩ := dk_rd I.hok e
    refine ⟨dd.typeIs, fun b q => ?_, hd⟩
    cases q
    obtain ⟨ob, _, _, h1, h2, _⟩ := dd
    exact ⟨ob, h1, h2.2.1⟩
  · obtain ⟨_, hd, xs, _, dd⟩ := dt_rd I.hok e
    refine ⟨dd.typeIs, fun b q => ?_, hd⟩
    cases q
    obtain ⟨ob, _, _, h1, h2, _⟩ := dd
    exact ⟨ob, h1, h2.2.1⟩
section
variable {X : Cx} {pins : List (Addr × Obj)} {σ : St} {H : Hp} {s : Shared} {a : Addr} {y d : V} {u r : Value} {o : Option V} {A : Around} {E : Value → Shared → Prop}
theorem d_get2 {Q : Value → Shared → Prop} (hu : A.units + 1 < cLine) (I : Inv X pins σ H s) (g : DGet H a y o) (ry : RelV y u) (rd : RelV d r) (h : ∀ w' s', Inv X pins σ H s' → RelV (o.getD d) w' → Q w' s') :
    wpAny (model X.prog X.w) A (call (.builtin "dict.get") [.ref a, u, r]) Q E s := by
  rcases g with ⟨kvs, k, e, ey, l⟩ | ⟨kvs, k, b, e, ey, eb, l⟩
  · subst ey
    obtain ⟨z, hd, vs, rel, dd⟩ := dk_rd I.hok e
    refine call_meetsIn PySem.F.slot_dict_get dd.typeIs PySem.F.entry_dict_get (PySem.F.args_dict_get_3 _ _ _) (meets_dict_get_default (mixKind X.prog X.w) a (kV_is ry) hd r) ⟨_, dd.mapOf, h _ _ (I.tok _) ?_⟩
    rw [l]
    exact (rel.val k).getD rd
  · subst ey
    cases (show u = Value.ref b from ry)
    obtain ⟨z, hd, xs, rel, dd⟩ := dt_rd I.hok e
    refine call_meetsIn PySem.F.slot_dict_get dd.typeIs PySem.F.entry_dict_get (PySem.F.args_dict_get_3 _ _ _) (meetsH_dict_get_default (tupleKind (mixKind X.prog X.w)) a b hd r) ⟨tupleKind_room_in1 hu, k, xs, key_of I.hok eb, dd, h _ _ (I.tok _) ?_⟩
    rw [l]
    exact (rel.val k).getD rd
end
def tDGet2 (td ty tx : TE) : TE := fun σ H Q => td σ H fun x H1 => ∃ a, x = .ref a ∧ IsD H1 a ∧ ty σ H1 fun y H2 => tx σ H2 fun z H3 => ∃ o, DGet H3 a y o ∧ Q (o.getD z) H3
section
variable {X : Cx} {o e f : Expr} {apos cpos : Pos} {td ty tx : TE}
theorem pe_dget2 (hu : X.A.units + 1 < cLine) (ho : PE X o td) (he : PE X e ty) (hf : PE X f tx) (m : M2 X o "get" apos e f cpos) : PE X (.Call (.Attribute o "get" apos) [e, f] [] cpos) (tDGet2 td ty tx) := by
  intro pins s σ H Q I h
  refine wpAny_Call_method m.base m.few m.line PySem.F.plainAttrs_dict PySem.F.slot_dict_get PySem.F.type_dict_get (thn (ho pins s σ H _ I h) fun u s1 ⟨x, H1, I1, rx, a, ex, d, q1⟩ => ?_)
  subst ex
  obtain rfl : u = Value.ref a := rx
  obtain ⟨t1, t2, _⟩ := isD_at I1 d
  refine ⟨t1, t2, ?_⟩
  rw [m.trees]
  refine Calls.callWith_builtin rfl (Calls.evalArgs_plain (Calls.spliced_cons (thn (he pins s1 σ H1 _ I1 q1) fun iv s2 ⟨y, H2, I2, ry, q2⟩ =>
    Calls.spliced_cons (thn (hf pins s2 σ H2 _ I2 q2) fun fv s3 ⟨z, H3, I3, rz, ov, g, q3⟩ => Calls.spliced_nil ?_))))
  exact d_get2 hu I3 g ry rz fun w' s4 I4 rw' => ⟨_, H3, I4, rw', q3⟩
end
section
variable {X : Cx} {pins : List (Addr × Obj)} {σ : St} {H : Hp} {s : Shared} {a : Addr} {kvs : List (Key × V)} {A : Around} {E : Value → Shared → Prop}
end
section
variable {X : Cx} {pins : List (Addr × Obj)} {σ : St} {H : Hp} {s : Shared} {a : Addr} {y : V} {u : Value} {A : Around} {E : Value → Shared → Prop}
end
end L2
namespace L2
open PySem PySem.Spec PyProof.Rows
section
variable {κ : Type} [DecidableEq κ]
theorem valV_not {kvs : List (κ × V)} {k : κ} (h : valV kvs k = none) : ¬ k ∈ kvs.map (·.1) := by
  intro m
  obtain ⟨p, hp, e⟩ := List.mem_map.mp m
  have q : (kvs.any fun kv => decide (kv.1 = k)) = true := List.any_eq_true.mpr ⟨p, hp, decide_eq_true e⟩
  rw [valV_any, h] at q
  exact absurd q (by simp)
theorem valV_in {kvs : List (κ × V)} {k : κ} {v : V} (h : valV kvs k = some v) : k ∈ kvs.map (·.1) := by
  have q : (kvs.any fun kv => decide (kv.1 = k)) = true := by
    rw [valV_any, h]
    all_goals rfl
  obtain ⟨p, hp, e⟩ := List.any_eq_true.mp q
  exact List.mem_map.mpr ⟨p, hp, of_decide_eq_true e⟩
theorem nd_snoc : ∀ {l : List κ} {k : κ}, l.Nodup → ¬ k ∈ l → (l ++ [k]).Nodup
  | [], k, _, _ => by simp
  | a :: r, k, h, hk => by
    obtain ⟨h1, h2⟩ := List.nodup_cons.mp h
    show (a :: (r ++ [k])).Nodup
    refine List.nodup_cons.mpr ⟨fun m => ?_, nd_snoc h2 fun m => hk (List.mem_cons.mpr (Or.inr m))⟩
    rcases List.mem_append.mp m with q | q
    · exact h1 q
    · exact hk (List.mem_cons.mpr (Or.inl (List.mem_singleton.mp q).symm))
theorem nd_putK {kvs : List (κ × V)} {k : κ} (v : V) (hn : (kvs.map (·.1)).Nodup) (h : valV kvs k = none) : ((putK kvs k v).map (·.1)).Nodup := by
  rw [putK_new v h, List.map_append]
  exact nd_snoc hn (valV_not h)
end
end L2
namespace L2
open PySem PySem.Spec PyProof.Rows
def Sz (n : Nat) (x : Int) : Prop := x.natAbs < 2 ^ n
section
variable {m n : Nat} {x y : Int}
theorem Sz.bits (h : Sz n x) : Builtin.Int.intBits x ≤ n := intBits_le_iff.mpr h
theorem Sz.of_bits (h : Builtin.Int.intBits x ≤ n) : Sz n x := intBits_le_iff.mp h
theorem Sz.mono (h : Sz m x) (l : m ≤ n) : Sz n x := .of_bits (Nat.le_trans h.bits l)
theorem Sz.mul (h : Sz m x) (k : Sz n y) : Sz (m + n) (x * y) := .of_bits (intBits_mul_le h.bits k.bits)
theorem Sz.add (h : Sz m x) (k : Sz n y) : Sz (max m n + 1) (x + y) := .of_bits (intBits_add_le h.bits k.bits)
theorem Sz.sub (h : Sz m x) (k : Sz n y) : Sz (max m n + 1) (x - y) := .of_bits (intBits_sub_le h.bits k.bits)
theorem Sz.neg (h : Sz m x) : Sz m (-x) := .of_bits (intBits_neg_le h.bits)
theorem Sz.fdiv (h : Sz m x) : Sz m (x.fdiv y) := .of_bits (intBits_fdiv_le h.bits)
theorem Sz.abs (h : Sz m x) : Sz m (if x < 0 then -x else x) := by
  by_cases c : x < 0
  · rw [if_pos c]; exact h.neg
  · rw [if_neg c]; exact h
theorem szd (n : Nat) {x : Int} (h : decide (x.natAbs < 2 ^ n) = true := by decide +kernel) : Sz n x := (show x.natAbs < 2 ^ n from of_decide_eq_true h)
theorem sz_of (h : -(2 ^ n : Nat) < x) (k : x < (2 ^ n : Nat)) : Sz n x := by
  unfold Sz
  generalize 2 ^ n = p at h k ⊢
  omega
end
def CMulB (i j : Int) : Prop := ∃ m n, Sz m i ∧ Sz n j ∧ m + n ≤ 134217728
def CDivB (_ j : Int) : Prop := j ≠ 0 ∧ Sz 9000 j
section
variable {X : Cx}
theorem op_mulB : OpR X (binaryOp .Mult) (rI CMulB fun i j => .int (i * j)) := opI fun _ _ _ _ _ _ _ hc q =>
  mul_int q (let ⟨_, _, a, b, c⟩ := hc; IntMulOk.of_le a.bits b.bits c)
theorem op_fdivB : OpR X (binaryOp .FloorDiv) (rI CDivB fun i j => .int (i.fdiv j)) := opI fun _ j _ _ _ _ _ hc q =>
  floordiv_int hc.1 q (.inl (PyProof.noPylong_of_log2 ((Nat.log2_lt (by have := hc.1; omega)).mpr hc.2)))
theorem call_isi : CallR X (.builtin "isinstance") (fun xs H Q => ∃ x t c b, xs = [x, .ty c] ∧ TyOf X.K H x t ∧ PySem.W.kitOne X.K t (.type c) = some b ∧ Q (.bl b) H) := by
  intro pins s σ H xs us Q I rv h
  obtain ⟨x, t, c, b, rfl, ty, e, q⟩ := h
  obtain ⟨u, u', rfl, r1, r2⟩ := vals2 rv
  cases (show u' = Value.type c from r2)
  exact isinst_ok I r1 ty e fun tk => ⟨.bl b, H, I.tok tk, rfl, q⟩
end
section
variable {K : PySem.W.Frag}
theorem kit_int_int : PySem.W.kitOne K (.type "int") (.type "int") = some true := by
  show (if ((Value.type "int") == (Value.type "int")) = true then some true else (if PySem.W.kitMeta "int" = true then (PySem.fastBuiltinMro "int").map (·.contains (Value.type "int")) else none)) = some true
  decide +kernel
theorem kit_int_bool : PySem.W.kitOne K (.type "int") (.type "bool") = some false := by
  show (if ((Value.type "int") == (Value.type "bool")) = true then some true else (if PySem.W.kitMeta "bool" = true then (PySem.fastBuiltinMro "int").map (·.contains (Value.type "bool")) else none)) = some false
  decide +kernel
theorem kit_bool_bool : PySem.W.kitOne K (.type "bool") (.type "bool") = some true := by
  show (if ((Value.type "bool") == (Value.type "bool")) = true then some true else (if PySem.W.kitMeta "bool" = true then (PySem.fastBuiltinMro "bool").map (·.contains (Value.type "bool")) else none)) = some true
  decide +kernel
theorem kit_tuple_tuple : PySem.W.kitOne K (.type "tuple") (.type "tuple") = some true := by
  show (if ((Value.type "tuple") == (Value.type "tuple")) = true then some true else (if PySem.W.kitMeta "tuple" = true then (PySem.fastBuiltinMro "tuple").map (·.contains (Value.type "tuple")) else none)) = some true
  decide +kernel
theorem kit_list_list : PySem.W.kitOne K (.type "list") (.type "list") = some true := by
  show (if ((Value.type "list") == (Value.type "list")) = true then some true else (if PySem.W.kitMeta "list" = true then (PySem.fastBuiltinMro "list").map (·.contains (Value.type "list")) else none)) = some true
  decide +kernel
end
def tIfJ (c : TT) (t u : TS) : TS := fun D σ H => ∃ M : St → Hp → Prop, (c σ H fun b H1 => if b = true then t { D with nx := M } σ H1 else u { D with nx := M } σ H1) ∧ ∀ σ' H', M σ' H' → D.nx σ' H'
theorem ps_ifJ {X : Cx} {c : Expr} {a b : List Stmt} {tc : TT} {t u : TS} {pos : Pos} (hc : PT X c tc) (ha : PSs X a t) (hb : PSs X b u) : PS X (.If c a b pos) (tIfJ tc t u) := by
  intro pins s σ H D I h
  obtain ⟨M, h, hM⟩ := h
  have up : ∀ (f : Flow) (s' : Shared), SP X pins { D with nx := M } f s' → SP X pins D f s' := fun f s' q => by
    cases f with
    | next =>
      obtain ⟨σ', H', I', q⟩ := q
      exact ⟨σ', H', I', hM σ' H' q⟩
    | ret v => exact q
    | brk => exact q
    | cont => exact q
  refine wpAny_If (thn (hc pins s σ H _ I h) fun d s1 ⟨H1, I1, q1⟩ => ?_)
  cases d with
  | true => exact thn (ha pins s1 σ H1 _ I1 q1) up
  | false => exact thn (hb pins s1 σ H1 _ I1 q1) up
theorem cpow40 : CPow 10 40 := ⟨by decide, by decide, by decide⟩
theorem small63 {n : Nat} (h : n ≤ 1000) : n ≤ sizeLine := Nat.le_of_lt (small1000 h)
theorem item_at {ns : List Int} {k : Int} (h0 : 0 ≤ k) (h : k < (ns.length : Int)) : ∃ v : Int, atI (ns.map V.int) k = some (.int v) := by
  have hk : k.toNat < ns.length := by omega
  have ek : k = ((k.toNat : Nat) : Int) := by omega
  have q : atI (ns.map V.int) ((k.toNat : Nat) : Int) = some (.int ns[k.toNat]) := atI_nat (by rw [List.getElem?_map, List.getElem?_eq_getElem hk] <;> rfl)
  rw [← ek] at q
  exact ⟨_, q⟩
end L2
namespace L2
open PySem PySem.Spec PyProof.Rows
def Cx.inComp (X : Cx) (Nc : List Str) (sc : Scope) (cl : List (Str × Addr)) (s : Shared) (H : Hp) (ex : List Addr) : Cx :=
  { X with N := Nc, s₀ := s, H₀ := H, env := compEnvC sc cl s.heap.objs.size X.env, outer := X.stack, stack := X.stack, ex := ex, fn := fun _ => false, pn := [], xe := fun _ _ => False }
theorem closure_go {env : Env} {f : Str × NameKind → List (Str × Addr) → Sem (ForInStep (List (Str × Addr)))}
    (hf : ∀ n k r, f (n, k) r = if (k == NameKind.free) = true then (cellOf env n >>= fun c => pure (ForInStep.yield ((n, c) :: r))) else pure (ForInStep.yield r)) :
    ∀ (l : List (Str × NameKind)) (cs : List (Str × Addr)), (∀ x ∈ l, x.2 = .free → ∃ c, env.cells.lookup x.1 = some c) →
      ∃ cl, (forIn l cs f : Sem (List (Str × Addr))) = pure cl ∧ (∀ p ∈ cl, p ∈ cs ∨ env.cells.lookup p.1 = some p.2) ∧ (∀ p ∈ cs, p ∈ cl) ∧ ∀ x ∈ l, x.2 = .free → ∃ c, (x.1, c) ∈ cl := by
  intro l
  induction l with
  | nil =>
    intro cs _
    exact ⟨cs, by rw [List.forIn_nil], fun p hp => .inl hp, fun p hp => hp, fun x hx => absurd hx (by simp)⟩
  | cons y r ih =>
    intro cs h
    obtain ⟨n, k⟩ := y
    by_cases hk : k = .free
    · subst hk
      obtain ⟨c, hc⟩ := h (n, .free) (by simp) rfl
      have e : cellOf env n = pure c := by
        unfold cellOf
        rw [show env.cells.lookup n = some c from hc]
      obtain ⟨cl, h1, h2, h3, h4⟩ := ih ((n, c) :: cs) fun x hx => h x (List.mem_cons_of_mem _ hx)
      refine ⟨cl, ?_, fun p hp => ?_, fun p hp => h3 p (List.mem_cons_of_mem _ hp), fun x hx hf' => ?_⟩
      · rw [List.forIn_cons, hf, if_pos (by decide), e]
        simp only [pure_bind]
        exact h1
      · rcases h2 p hp with z | z
        · rcases List.mem_cons.mp z with z | z
          · subst z; exact .inr hc
          · exact .inl z
        · exact .inr z
      · rcases List.mem_cons.mp hx with z | z
        · subst z; exact ⟨c, h3 _ (by simp)⟩
        · exact h4 x z hf'
    · have hb : (k == NameKind.free) = false := by simpa using hk
      obtain ⟨cl, h1, h2, h3, h4⟩ := ih cs fun x hx => h x (List.mem_cons_of_mem _ hx)
      refine ⟨cl, ?_, h2, h3, fun x hx hf' => ?_⟩
      · rw [List.forIn_cons, hf, hb, if_neg (by decide)]
        simp only [pure_bind]
        exact h1
      · rcases List.mem_cons.mp hx with z | z
        · subst z; exact absurd hf' hk
        · exact h4 x z hf'
theorem lookup_has {α : Type} : ∀ {l : List (Str × α)} {n : Str} {c : α}, (n, c) ∈ l → ∃ d, l.lookup n = some d
  | (k, v) :: r, n, c, h => by
    rw [List.lookup_cons]
    cases hx : (n == k) with
    | true => exact ⟨v, rfl⟩
    | false =>
      rcases List.mem_cons.mp h with z | z
      · cases z
        simp at hx
      · exact lookup_has z
theorem closure_ok {env : Env} {sc : Scope} (h : ∀ x ∈ sc.names, x.2 = .free → ∃ c, env.cells.lookup x.1 = some c) :
    ∃ cl, closureFor sc env = pure cl ∧ (∀ y c, cl.lookup y = some c → env.cells.lookup y = some c) ∧ ∀ x ∈ sc.names, x.2 = .free → ∃ c, cl.lookup x.1 = some c := by
  obtain ⟨cl, h1, h2, _, h4⟩ := closure_go (env := env) (f := fun x r => if (x.2 == NameKind.free) = true then (cellOf env x.1 >>= fun c => pure (ForInStep.yield ((x.1, c) :: r))) else pure (ForInStep.yield r)) (fun _ _ _ => rfl) sc.names [] h
  refine ⟨cl, ?_, fun y c e => ?_, fun x hx hf => ?_⟩
  · unfold closureFor
    have : (forIn sc.names ([] : List (Str × Addr)) fun x r => (match x with | (name, kind) => if (kind == NameKind.free) = true then (do let __do_lift ← cellOf env name; pure (ForInStep.yield ((name, __do_lift) :: r))) else pure (ForInStep.yield r)) : Sem (List (Str × Addr))) = pure cl := h1
    first
      | (simp only [this, pure_bind]; done)
      | (simp only [h1, pure_bind]; done)
      | (rw [show (forIn sc.names ([] : List (Str × Addr)) _ : Sem (List (Str × Addr))) = pure cl from h1]; rfl)
  · rcases h2 (y, c) (PySem.mem_of_lookup e) with z | z
    · exact absurd z (by simp)
    · exact z
  · obtain ⟨c, hc⟩ := h4 x hx hf
    exact lookup_has hc
theorem lookup_relabel (env : Env) : ∀ (names : List (Str × NameKind)) (y : Str),
    (names.map fun (n, k) => if (k == NameKind.free && env.scope.kind == .function && env.kindOf n == some .cell) then (n, NameKind.cell) else (n, k)).lookup y
      = (names.lookup y).map fun k => if (k == NameKind.free && env.scope.kind == .function && env.kindOf y == some .cell) then NameKind.cell else k
  | [], y => rfl
  | (n, k) :: r, y => by
    have ih := lookup_relabel env r y
    rw [List.map_cons]
    dsimp only
    cases hx : (y == n) with
    | true =>
      have e : y = n := by simpa using hx
      subst e
      by_cases c : (k == NameKind.free && env.scope.kind == .function && env.kindOf y == some .cell) = true
      · rw [if_pos c]; simp only [List.lookup_cons, hx, Option.map_some]; rw [if_pos c]
      · rw [if_neg c]; simp only [List.lookup_cons, hx, Option.map_some]; rw [if_neg c]
    | false =>
      by_cases c : (k == NameKind.free && env.scope.kind == .function && env.kindOf n == some .cell) = true
      · rw [if_pos c]; simp only [List.lookup_cons, hx]; exact ih
      · rw [if_neg c]; simp only [List.lookup_cons, hx]; exact ih
def PIfs (X : Cx) (ifs : List Expr) (t : TT) : Prop :=
  ∀ (pins : List (Addr × Obj)) (s : Shared) (σ : St) (H : Hp) (Q : Bool → Hp → Prop), Inv X pins σ H s → t σ H Q →
    wpAny (model X.prog X.w) X.A (forIn ifs true fun c r => if r = true then do let ok ← isTrue c X.env (eval c X.env); pure (ForInStep.yield ok) else pure (ForInStep.yield r)) (TP X pins σ Q) X.xe s
def tYes : TT := fun _ H Q => Q true H
theorem yes {σ : St} {H : Hp} {Q : Bool → Hp → Prop} (h : Q true H) : tYes σ H Q := h
theorem pif_nil {X : Cx} : PIfs X [] tYes := by
  intro pins s σ H Q I h
  rw [List.forIn_nil]
  exact wpAny_pure ⟨H, I, h⟩
theorem pif_one {X : Cx} {c : Expr} {t : TT} (hc : PT X c t) : PIfs X [c] t := by
  intro pins s σ H Q I h
  rw [List.forIn_cons, if_pos rfl]
  refine wpAny_bind (wpAny_bind (thn (hc pins s σ H Q I h) fun b s1 q => wpAny_pure ?_))
  dsimp only
  rw [List.forIn_nil]
  exact wpAny_pure q
theorem thnF {α : Type} {t : Sem α} {Q Q' : α → Shared → Prop} {M : Model} {A : Around} {E : Value → Shared → Prop} {s : Shared} (h : wpAny M A t Q (fun _ _ => False) s) (hQ : ∀ a s, Q a s → Q' a s) : wpAny M A t Q' E s := wpAny_mono h hQ fun _ _ z => z.elim
def tComp (wi : TI) (tt : TT) (te : TE) : TE := fun σ H Q => wi σ H fun J H1 => ∀ D, H1 D = none → ∃ W : Nat → Nat → List V → Hp → Prop, (∃ m, W 0 m [] (upd H1 D (.lst []))) ∧ ∀ i m ys H2, W i m ys H2 →
  H2 D = some (.lst ys) ∧ ((J.stop i H2 ∧ Q (.ref D) H2) ∨ (J.go i H2 ∧ ys.length < sizeLine ∧ ∀ x H3, J.yld i H2 x H3 → tt (σ ++ [some x]) H3 fun b H4 => if b = true then te (σ ++ [some x]) H4 fun y H5 => H5 D = some (.lst ys) ∧ ∃ m', m' < m ∧ W (i + 1) m' (ys ++ [y]) (upd H5 D (.lst (ys ++ [y])))
    else ∃ m', m' < m ∧ W (i + 1) m' ys H4))
structure CompN (N Nc : List Str) (x : Str) (sc fsc : Scope) : Prop where
  kind : sc.kind = .function
  cell : ∀ y ∈ sc.names, y.2 ≠ .cell
  nm : ∀ y ∈ sc.names, y.2 = .local → sc.names.lookup y.1 = some .local
  own : sc.names.lookup x = some .local
  fr : ∀ y ∈ sc.names, y.2 = .free → fsc.names.lookup y.1 = some .cell ∨ fsc.names.lookup y.1 = some .free
  len : Nc.length = N.length + 1
  nd : Nc.Nodup
  last : Nc[N.length]? = some x
  slot : ((List.range N.length).all fun i => match Nc[i]? with
    | some y => (match sc.names.lookup y with | some .free => N[i]? == some y | some .local => false | some .cell => false | _ => true)
    | none => true) = true
theorem CompN.at {N Nc : List Str} {x : Str} {sc fsc : Scope} (C : CompN N Nc x sc fsc) {i : Nat} {y : Str} (hi : i < N.length) (h : Nc[i]? = some y) : sc.names.lookup y ≠ some .local ∧ sc.names.lookup y ≠ some .cell ∧ (sc.names.lookup y = some .free → N[i]? = some y) := by
  have q := List.all_eq_true.mp C.slot i (List.mem_range.mpr hi)
  rw [h] at q
  dsimp only at q
  cases e : sc.names.lookup y with
  | none => exact ⟨fun z => (nomatch z), fun z => (nomatch z), fun z => (nomatch z)⟩
  | some k =>
    rw [e] at q
    cases k with
    | «local» => exact absurd (show false = true from q) Bool.false_ne_true
    | cell => exact absurd (show false = true from q) Bool.false_ne_true
    | free => exact ⟨fun z => (nomatch z), fun z => (nomatch z), fun _ => by simpa using q⟩
    | _ => exact ⟨fun z => (nomatch z), fun z => (nomatch z), fun z => (nomatch z)⟩
section
variable {X : Cx} {elt iter : Expr} {x : Str} {px pos : Pos} {ifs : List Expr} {sc fsc : Scope} {N Nc : List Str} {wi : TI} {tt : TT} {te : TE}
structure CLoc (X : Cx) (pins : List (Addr × Obj)) (H : Hp) (C : Addr) : Prop where
  free : H C = none
  ne : C ≠ X.env.locals
  new : X.s₀.heap.objs.size ≤ C
  cells : ∀ x c, X.env.cells.lookup x = some c → c ≠ C
  pins : ∀ p ∈ X.pn ++ pins, p.1 ≠ C
theorem Inv.sameBut {pins : List (Addr × Obj)} {σ : St} {H : Hp} {s : Shared} {C : Addr} {h' : Heap} (I : Inv X pins σ H s) (c : CLoc X pins H C) (k : Heap.SameBut C s.heap h') : Inv X pins σ H { s with heap := h' } :=
  I.turned (t' := s.toks) (it := C) (fun b o hb e => (k.2 b hb).trans e) c.free c.ne (.inr c.new) c.cells c.pins
theorem set_last {σ : St} {o v : Option V} : (σ ++ [o]).set σ.length v = σ ++ [v] := by
  rw [List.set_append_right _ _ (Nat.le_refl _), Nat.sub_self]
  rfl
theorem comp_core (hE : X.env.scope = fsc) (hXN : X.N = N) (cn : CompN N Nc x sc fsc) (hc : X.calm = true)
    (ht : ∀ cl s H ex, PIfs (X.inComp Nc sc cl s H ex) ifs tt) (he : ∀ cl s H ex, PE (X.inComp Nc sc cl s H ex) elt te)
    {cl : List (Str × Addr)} (clS : ∀ y c, cl.lookup y = some c → X.env.cells.lookup y = some c) (clH : ∀ y ∈ sc.names, y.2 = .free → ∃ c, cl.lookup y.1 = some c)
    {pins : List (Addr × Obj)} {σ : St} {H2 : Hp} {s2 : Shared} {it : Addr} {fp : List Addr} {tn : Nat → Heap → Prop} {J : It} {Q : VK} {E : Value → Shared → Prop}
    (I2 : Inv X pins σ H2 s2) (T : Turn X.prog X.w X.K (.Name x px) J fp it tn) (st2 : tn 0 s2.heap) (f2 : ∀ b ∈ fp, FpOk X pins H2 b)
    (h2 : ∀ D, H2 D = none → ∃ W : Nat → Nat → List V → Hp → Prop, (∃ m, W 0 m [] (upd H2 D (.lst []))) ∧ ∀ i m ys H2, W i m ys H2 →
      H2 D = some (.lst ys) ∧ ((J.stop i H2 ∧ Q (.ref D) H2) ∨ (J.go i H2 ∧ ys.length < sizeLine ∧ ∀ x H3, J.yld i H2 x H3 → tt (σ ++ [some x]) H3 fun b H4 => if b = true then te (σ ++ [some x]) H4 fun y H5 => H5 D = some (.lst ys) ∧ ∃ m', m' < m ∧ W (i + 1) m' (ys ++ [y]) (upd H5 D (.lst (ys ++ [y])))
        else ∃ m', m' < m ∧ W (i + 1) m' ys H4))) :
    wpAny (model X.prog X.w) X.A (newList []) (fun acc s₃ => wpAny (model X.prog X.w) X.A (newFunctionEnv sc X.env.globals cl [] X.env.qual none .none (some X.env)) (fun cenv s₄ =>
      codeAny (model X.prog X.w) X.A (.compStart (.ListComp elt [⟨.Name x px, iter, ifs, 0⟩] sc pos) 0 (.ref it) acc { cenv with scope := relabel sc X.env })
        (fun r s' => r = .ok .next ∧ ∃ D H', acc = .ref D ∧ Inv X pins σ H' s' ∧ Q (.ref D) H' ∧ CLoc X pins H' cenv.locals ∧ ∃ m, s'.heap.Ns cenv.locals m) s₄) E s₃) E s2 := by
  refine wpAny_newObj_type (wpAny_newFunctionEnv cn.cell (by intro y hy; simp at hy) (fun h₁ hns₁ hsb₁ => ?_) cn.kind)
  dsimp only at hns₁ hsb₁ ⊢
  have hD : H2 s2.heap.objs.size = none := I2.hok.fresh (Nat.le_refl _)
  obtain ⟨W, ⟨m0, w0⟩, turn⟩ := h2 s2.heap.objs.size hD
  have I3 : Inv X pins σ (upd H2 s2.heap.objs.size (.lst [])) { s2 with heap := s2.heap.push { cls := .type "list", dict := none, data := .seq ([] : List Value).toArray } } :=
    I2.laid (t' := s2.toks) (fun b u e => Heap.get?_push_of_some _ e) (Nat.le_refl _) ⟨Nat.zero_le _, [], 0, .nil, Heap.get?_push_size _ rfl⟩
  generalize hs3 : ({ s2 with heap := s2.heap.push { cls := .type "list", dict := none, data := .seq ([] : List Value).toArray } } : Shared) = s3 at I3
  have eh : s3.heap = s2.heap.push { cls := .type "list", dict := none, data := .seq ([] : List Value).toArray } := by rw [← hs3]
  have e2 : ({ s2 with heap := h₁, toks := s2.toks + ([] : List (Str × Value)).length } : Shared) = { s3 with heap := h₁, toks := s3.toks } := by rw [← hs3]; rfl
  generalize hH3 : upd H2 s2.heap.objs.size (.lst []) = H3 at I3 w0
  rw [← eh] at hns₁ hsb₁ ⊢
  rw [e2]
  have below2 : ∀ b, b ∈ fp → b < s3.heap.objs.size := fun b hb => by
    obtain ⟨o, e, _⟩ := T.obj _ _ st2 b hb
    have : s2.heap.objs.size ≤ s3.heap.objs.size := by rw [eh, Heap.size_push]; exact Nat.le_succ _
    exact Nat.lt_of_lt_of_le (Heap.lt_size e) this
  have old : ∀ b o, s3.heap.get? b = some o → h₁.get? b = some o := fun b o e => (hsb₁.2 b (Nat.ne_of_lt (Heap.lt_size e))).trans (Heap.get?_push_of_some _ e)
  have old2 : ∀ b o, s2.heap.get? b = some o → s3.heap.get? b = some o := fun b o e => by rw [eh]; exact Heap.get?_push_of_some _ e
  have hsz3 : s2.heap.objs.size < s3.heap.objs.size := by rw [eh, Heap.size_push]; exact Nat.lt_succ_self _
  have fpFree : ∀ b ∈ fp, H3 b = none := fun b hb => by
    rw [← hH3, upd_ne (fun z => ?_)]
    · exact (f2 b hb).1
    · obtain ⟨o, e, _⟩ := T.obj _ _ st2 b hb
      have := Heap.lt_size e
      rw [z] at this
      exact Nat.lt_irrefl _ this
  have rl : ∀ y, (relabel sc X.env).names.lookup y = (sc.names.lookup y).map fun k => if (k == NameKind.free && X.env.scope.kind == .function && X.env.kindOf y == some .cell) then NameKind.cell else k := fun y => lookup_relabel X.env sc.names y
  have freeOf : ∀ y, sc.names.lookup y = some .free → ∃ c, cl.lookup y = some c := fun y e => clH (y, .free) (PySem.mem_of_lookup e) rfl
  have noCell : ∀ y, sc.names.lookup y ≠ some .cell := fun y e => cn.cell (y, .cell) (PySem.mem_of_lookup e) rfl
  have isFree : ∀ y, ((relabel sc X.env).names.lookup y = some .cell ∨ (relabel sc X.env).names.lookup y = some .free) → sc.names.lookup y = some .free := fun y h => by
    rw [rl y] at h
    cases e : sc.names.lookup y with
    | none => rw [e] at h; rcases h with z | z <;> exact absurd z (by simp)
    | some k =>
      rw [e] at h
      cases k with
      | free => rfl
      | cell => exact absurd e (noCell y)
      | «local» => rcases h with z | z <;> exact absurd z (by simp)
      | _ => rcases h with z | z <;> exact absurd z (by simp)
  have ownLoc : (relabel sc X.env).names.lookup x = some .local := by rw [rl x, cn.own]; rfl
  have exOk : ∀ b ∈ fp, b ≠ s3.heap.objs.size ∧ (∀ y c, X.env.cells.lookup y = some c → c ≠ b) ∧ b ∉ frs X.stack := fun b hb => by
    obtain ⟨g0, g1, g2, g3, g4, g5⟩ := f2 b hb
    refine ⟨Nat.ne_of_lt (below2 b hb), g4, fun z => ?_⟩
    rcases List.mem_cons.mp (I2.stkSub b z) with z | z
    · exact g1 z
    · exact g2 z
  have hCnew : X.s₀.heap.objs.size ≤ s3.heap.objs.size := I3.sz
  have hCcell : ∀ y c, X.env.cells.lookup y = some c → c ≠ s3.heap.objs.size := fun y c e z => by
    obtain ⟨v, q⟩ := I3.cell y c e
    have := q.lt
    rw [z] at this
    exact Nat.lt_irrefl _ this
  have hCpin : ∀ p ∈ X.pn ++ pins, p.1 ≠ s3.heap.objs.size := fun p hp z => by
    have := Heap.lt_size (I3.pin p hp).1
    rw [z] at this
    exact Nat.lt_irrefl _ this
  have okc : (X.inComp Nc sc cl s3 H3 fp).Ok := by
    refine ⟨I3.ok.mod, cn.kind, I3.ok.glob, I3.ok.blt, Nat.le_refl _, fun y z c h1 h2 => I3.ok.inj y z c (clS y c h1) (clS z c h2), fun y hy => freeOf y (isFree y hy), fun y c hf => absurd (show false = true from hf) Bool.false_ne_true, I3.ok.hd, I3.ok.frames, .inl rfl,
      fun b hb => ⟨(exOk b hb).1, fun y c e => (exOk b hb).2.1 y c (clS y c e)⟩, fun b o e => I3.bs b o e, Nat.le_trans I3.ok.bsz I3.sz, fun b o e hb => ?_, fun b hb => (exOk b hb).2.2, I3.stack, I3.stkFree⟩
    obtain ⟨g0, g1, g2, g3, g4, g5⟩ := f2 b hb
    rcases g3 with z | z
    · exact I3.ok.noex b o e z
    · exact absurd (Heap.lt_size (I3.ok.bs b o e).1) (Nat.not_lt.mpr z)
  have hlen : σ.length = N.length := by rw [I3.len, hXN]
  have Ic : Inv (X.inComp Nc sc cl s3 H3 fp) [] (σ ++ [none]) H3 { s3 with heap := h₁, toks := s3.toks } := by
    refine ⟨okc, rfl, I3.bare, Un.kept old, ⟨_, hns₁, fun i y v h1 h2 h3 => ?_⟩, fun y c e => ?_, I3.hok.fresh (Nat.le_refl _), fun y c e => I3.freeC y c (clS y c e), fun p hp => absurd (show p ∈ ([] : List (Addr × Obj)) from hp) (by simp), I3.hok.kept old, ?_⟩
    · have hi : i < σ.length := by
        by_cases hi : i < σ.length
        · exact hi
        · rw [List.getElem?_append_right (Nat.not_lt.mp hi)] at h2
          cases e : i - σ.length with
          | zero => rw [e] at h2; cases h2
          | succ k => rw [e] at h2; simp at h2
      rw [List.getElem?_append_left hi] at h2
      have hi' : i < N.length := by rw [← hlen]; exact hi
      obtain ⟨n1, n2, n3⟩ := cn.at hi' h1
      have hf : sc.names.lookup y = some .free := by
        rcases h3 with z | z
        · exfalso
          have z' : (relabel sc X.env).names.lookup y = some .local := z
          rw [rl y] at z'
          cases e : sc.names.lookup y with
          | none => rw [e] at z'; simp at z'
          | some k =>
            rw [e] at z'
            cases k with
            | «local» => exact n1 e
            | cell => exact n2 e
            | free =>
              simp only [Option.map_some, Option.some.injEq] at z'
              split at z' <;> cases z'
            | _ => simp at z'
        · exact isFree y z
      have hN : X.N[i]? = some y := by rw [hXN]; exact n3 hf
      obtain ⟨m, hn, hl⟩ := I3.loc
      have hv : fsc.names.lookup y = some .cell ∨ fsc.names.lookup y = some .free := cn.fr (y, .free) (PySem.mem_of_lookup hf) rfl
      have hv' : X.env.scope.names.lookup y = some .cell ∨ X.env.scope.names.lookup y = some .free := by rw [hE]; exact hv
      obtain ⟨u, ru, lk⟩ := hl i y v hN h2 (.inr hv')
      refine ⟨u, ru, .inr ⟨?_, ?_⟩⟩
      · show (relabel sc X.env).names.lookup y = some .cell ∨ (relabel sc X.env).names.lookup y = some .free
        rw [rl y, hf]
        simp only [Option.map_some, Option.some.injEq]
        split
        · exact .inl rfl
        · exact .inr rfl
      · rcases lk with ⟨kl, _⟩ | ⟨_, c, hc, hcell⟩
        · exfalso
          have kl' : X.env.scope.names.lookup y = some .local := kl
          rw [kl'] at hv'
          rcases hv' with z | z <;> cases z
        · obtain ⟨d, hd⟩ := freeOf y hf
          have ed := clS y d hd
          rw [hc] at ed
          cases ed
          exact ⟨c, hd, hcell.keeps old⟩
    · obtain ⟨v, q⟩ := I3.cell y c (clS y c e)
      exact ⟨v, q.keeps old⟩
    · show (σ ++ [none]).length = Nc.length
      rw [List.length_append, hlen, cn.len]
      rfl
  have stc : tn 0 ({ s3 with heap := h₁, toks := s3.toks } : Shared).heap := T.keep _ _ _ st2 fun b _ o e => old b o (old2 b o e)
  have hDf : s2.heap.objs.size ∉ fp := fun hm => by
    obtain ⟨o, e, _⟩ := T.obj _ _ st2 _ hm
    exact Nat.lt_irrefl _ (Heap.lt_size e)
  have fpc : ∀ {pins' : List (Addr × Obj)} {H' : Hp}, pins' = [] → (∀ b ∈ fp, H' b = none) → ∀ b ∈ fp, FpOk (X.inComp Nc sc cl s3 H3 fp) pins' H' b := fun {pins' H'} hp hn b hb => by
    subst hp
    exact ⟨hn b hb, (exOk b hb).1, (exOk b hb).2.2, .inl hb, fun y c e => (exOk b hb).2.1 y c (clS y c e), fun p hp => absurd (show p ∈ ([] : List (Addr × Obj)) from hp) (by simp)⟩
  have hg : PG (X.inComp Nc sc cl s3 H3 fp) (.Name x px) (gName σ.length) := pg_name (X := X.inComp Nc sc cl s3 H3 fp) cn.nd (by show Nc[σ.length]? = some x; rw [hlen]; exact cn.last) (.inl ownLoc) (.inr ownLoc)
  have loop : ∀ s₄ : Shared, s₄ = { s3 with heap := h₁, toks := s3.toks } →
      codeAny (model X.prog X.w) X.A (.compLoop (.ListComp elt [⟨.Name x px, iter, ifs, 0⟩] sc pos) 0 (.ref it) (.ref s2.heap.objs.size) (compEnvC sc cl s3.heap.objs.size X.env))
        (fun r s' => r = .ok .next ∧ ∃ D H', (Value.ref s2.heap.objs.size) = .ref D ∧ Inv X pins σ H' s' ∧ Q (.ref D) H' ∧ CLoc X pins H' s3.heap.objs.size ∧ ∃ m, s'.heap.Ns s3.heap.objs.size m) s₄ := by
    rintro s₄ rfl
    refine codeAny_compLoop_tests (fun n s' => ∃ (i : Nat) (o : Option V) (H' : Hp) (ys : List V), Inv (X.inComp Nc sc cl s3 H3 fp) [] (σ ++ [o]) H' s' ∧ tn i s'.heap ∧ (∀ b ∈ fp, H' b = none) ∧ W i n ys H') ?_ m0 ⟨0, none, H3, [], Ic, stc, fpFree, w0⟩
    rintro n s' ⟨i, o, H', ys, I', st', fr', w'⟩
    obtain ⟨hDl, tw⟩ := turn i n ys H' w'
    rcases tw with ⟨stop, q⟩ | ⟨go, hz, step⟩
    ·
      refine thn (T.done (X.inComp Nc sc cl s3 H3 fp) rfl rfl rfl hc i [] s' _ H' _ I' (fpc rfl fr') st' stop) fun r s5 ⟨hr, I5⟩ => ?_
      subst hr
      have Ix : Inv X pins σ H' s5 := I3.call' (ch := fp) I5.os I5.base I5.hok I5.bare fun b hb => by
        obtain ⟨g0, g1, g2, g3, g4, g5⟩ := f2 b hb
        exact ⟨g3, g1, g4, g5⟩
      have hCf : H' s3.heap.objs.size = none := I5.free
      obtain ⟨m, hn, _⟩ := I5.loc
      exact ⟨rfl, s2.heap.objs.size, H', rfl, Ix, q, ⟨hCf, fun z => Nat.lt_irrefl _ (by have := I3.lt; rw [← z] at this; exact this), hCnew, hCcell, hCpin⟩, m, hn⟩
    ·
      refine thn (T.item (X.inComp Nc sc cl s3 H3 fp) rfl rfl rfl hc i [] s' _ H' _ I' (fpc rfl fr') st' go) fun r s5 ⟨u, hr, h4⟩ => ?_
      subst hr
      dsimp only
      have e0 : letOwnedTupleGo (.Name x px) (.ref it) u = pure () := rfl
      have e1 : (letOwnedTupleGo (.Name x px) (.ref it) u >>= fun _ => assign (.Name x px) (compEnvC sc cl s3.heap.objs.size X.env) u) = assign (.Name x px) (compEnvC sc cl s3.heap.objs.size X.env) u := by rw [e0, pure_bind]
      rw [← e1]
      refine wpAny_bind (thn h4 fun _ s6 ⟨xv, H5, I5, r5, y5, st5, fr5⟩ => ?_)
      have I5' := I5.pinned (fpc rfl fr5) (T.obj _ _ st5)
      have again : ∀ {H7 : Hp} {s7 : Shared} {m' : Nat} {ys' : List V}, Inv (X.inComp Nc sc cl s3 H3 fp) ([] ++ pinsAt fp s6.heap) (σ ++ [some xv]) H7 s7 → m' < n → W (i + 1) m' ys' H7 →
          ∃ m, m < n ∧ ∃ (i : Nat) (o : Option V) (H' : Hp) (ys : List V), Inv (X.inComp Nc sc cl s3 H3 fp) [] (σ ++ [o]) H' s7 ∧ tn i s7.heap ∧ (∀ b ∈ fp, H' b = none) ∧ W i m ys H' := fun {H7 s7 m' ys'} I7 hm w7 => by
        refine ⟨m', hm, i + 1, some xv, H7, ys', I7.unpinned, T.keep _ _ _ st5 fun b hb o e => (I7.pin (b, o) (List.mem_append_right _ (List.mem_append_right _ (mem_pinsAt hb e)))).1, fun b hb => ?_, w7⟩
        obtain ⟨o', e, d⟩ := T.obj _ _ st5 b hb
        exact (I7.pin (b, o') (List.mem_append_right _ (List.mem_append_right _ (mem_pinsAt hb e)))).2.1
      refine thnF (hg _ s6 _ H5 xv u (fun σ' H'' => σ' = σ ++ [some xv] ∧ H'' = H5) I5' r5 ⟨set_last, rfl⟩) fun _ s7 ⟨σ7, H7, I7, e7, e7'⟩ => ?_
      subst e7
      subst e7'
      refine thnF (ht cl s3 H3 fp _ s7 _ _ _ I7 (step xv _ y5)) fun b s8 ⟨H8, I8, q8⟩ => ?_
      cases b with
      | false =>
        rw [if_neg Bool.false_ne_true] at q8 ⊢
        obtain ⟨m', hm, w8⟩ := q8
        exact again I8 hm w8
      | true =>
        rw [if_pos rfl] at q8 ⊢
        refine thnF (he cl s3 H3 fp _ s8 _ H8 _ I8 q8) fun y s9 ⟨yv, H9, I9, r9, hD9, m', hm, w9⟩ => ?_
        refine thnF (mt_append _ s9 _ H9 (.ref s2.heap.objs.size) [yv] (.ref s2.heap.objs.size) [y] (fun v H => v = .non ∧ H = upd H9 s2.heap.objs.size (.lst (ys ++ [yv]))) I9 rfl (.cons r9 .nil) ⟨_, ys, yv, rfl, rfl, hD9, hz, rfl, rfl⟩) fun _ s10 ⟨v10, H10, I10, r10, e10, e11⟩ => ?_
        subst e11
        exact again I10 hm w9
  exact codeAny_compStart_list (loop _ rfl) (T.self _ 0 _ _ _ stc (loop _ rfl))
theorem comp_has (I : ∀ y, (X.env.kindOf y = some .cell ∨ X.env.kindOf y = some .free) → ∃ c, X.env.cells.lookup y = some c) (hE : X.env.scope = fsc) (cn : CompN N Nc x sc fsc) : ∀ y ∈ sc.names, y.2 = .free → ∃ c, X.env.cells.lookup y.1 = some c := fun y hy hf => by
  refine I y.1 ?_
  show X.env.scope.names.lookup y.1 = some .cell ∨ X.env.scope.names.lookup y.1 = some .free
  rw [hE]
  exact cn.fr y hy hf
theorem pe_comp (hE : X.env.scope = fsc) (hXN : X.N = N) (cn : CompN N Nc x sc fsc) (hc : X.calm = true) (hi : PI X (.Name x px) iter wi)
    (ht : ∀ cl s H ex, PIfs (X.inComp Nc sc cl s H ex) ifs tt) (he : ∀ cl s H ex, PE (X.inComp Nc sc cl s H ex) elt te)
    (hs : ∀ v, foldedSetIterable iter X.env v = pure v := by intro _; rfl) : PE X (.ListComp elt [⟨.Name x px, iter, ifs, 0⟩] sc pos) (tComp wi tt te) := by
  intro pins s σ H Q I h
  obtain ⟨cl, hcl, clS, clH⟩ := closure_ok (env := X.env) (sc := sc) (comp_has I.ok.has hE cn)
  rw [eval_ListComp]
  refine wpAny_comprehension_free (use := none) rfl hs hcl cn.kind cn.nm (thn (hi pins s σ H _ I h) fun v s1 h1 => thn h1 fun itv s2 h2 => ?_)
  obtain ⟨it, fp, tn, J, H2, rfl, I2, T, st2, f2, h2⟩ := h2
  refine thn (comp_core (pos := pos) (iter := iter) hE hXN cn hc ht he clS clH I2 T st2 f2 h2) fun acc s3 h3 => thn h3 fun cenv s4 h4 => codeAny_mono h4 fun r s' h5 => ?_
  obtain ⟨rfl, D, H', rfl, I', q, cloc, m, hn⟩ := h5
  exact ⟨m, hn, fun h' k => ⟨.ref D, H', I'.sameBut cloc k, rfl, q⟩⟩
theorem ps_setC {j : Nat} {y : Str} {py spos : Pos} (hE : X.env.scope = fsc) (hXN : X.N = N) (cn : CompN N Nc x sc fsc) (hc : X.calm = true) (hnd : X.N.Nodup) (hj : X.N[j]? = some y) (hy : X.env.scope.names.lookup y = some .local) (hi : PI X (.Name x px) iter wi)
    (ht : ∀ cl s H ex, PIfs (X.inComp Nc sc cl s H ex) ifs tt) (he : ∀ cl s H ex, PE (X.inComp Nc sc cl s H ex) elt te)
    (hsw : swapsWith (.ListComp elt [⟨.Name x px, iter, ifs, 0⟩] sc pos) (some (.Name y py)) spos.line X.env = pure true)
    (hs : ∀ v, foldedSetIterable iter X.env v = pure v := by intro _; rfl) : PS X (.Assign [.Name y py] (.ListComp elt [⟨.Name x px, iter, ifs, 0⟩] sc pos) spos) (tAsg (tComp wi tt te) (gName j)) := by
  intro pins s σ H D I h
  obtain ⟨cl, hcl, clS, clH⟩ := closure_ok (env := X.env) (sc := sc) (comp_has I.ok.has hE cn)
  rw [exec_Assign_Name_used _ _ _ _ hsw]
  refine wpAny_bind (wpAny_standAt (wpAny_bind ?_))
  show wpAny _ X.A (do let _ ← comprehension (.ListComp elt [⟨.Name x px, iter, ifs, 0⟩] sc pos) sc X.env _ (newList []) false (eval iter X.env) (some (assign (.Name y py) X.env))) _ _ s
  refine wpAny_bind (thn (wpAny_comprehension_free (Q := fun _ s' => SP X pins D .next s') rfl hs hcl cn.kind cn.nm (thn (hi pins s σ H _ I h) fun v s1 h1 => thn h1 fun itv s2 h2 => ?_)) fun _ s' hq => wpAny_pure (wpAny_pure hq))
  obtain ⟨it, fp, tn, J, H2, rfl, I2, T, st2, f2, h2⟩ := h2
  refine thn (comp_core (pos := pos) (iter := iter) (Q := fun x H1 => gName j x σ H1 D.nx) hE hXN cn hc ht he clS clH I2 T st2 f2 h2) fun acc s3 h3 => thn h3 fun cenv s4 h4 => codeAny_mono h4 fun r s' h5 => ?_
  obtain ⟨rfl, D', H', rfl, I', q, cloc, m, hn⟩ := h5
  refine wpAny_assign_Name (store_ok2 (v := .ref D') I' hnd hj (.inl hy) rfl (fun s6 I6 sb => ?_) (.inr hy))
  obtain ⟨a, k, ha⟩ := sb
  refine ⟨m, hn.sameBut k (fun z => ?_), fun h' k' => ⟨_, H', I6.sameBut cloc k', q⟩⟩
  rcases ha with ha | ha
  · exact cloc.ne (z.trans ha)
  · exact cloc.cells _ _ ha z.symm
end
theorem comp_range {lo : Int} {n : Nat} {tt : TT} {te : TE} {σ : St} {H1 : Hp} {Q : Addr → Hp → Prop} (hn : n ≤ sizeLine) (Pv : Addr → Nat → List V → Hp → Prop)
    (h0 : ∀ D, H1 D = none → Pv D 0 [] (upd H1 D (.lst []))) (hD : ∀ D i ys H, Pv D i ys H → H D = some (.lst ys) ∧ ys.length ≤ i)
    (hs : ∀ D i ys H (K1 : VK) (K2 : Hp → Prop), H1 D = none → i < n → Pv D i ys H → (∀ y H5, H5 D = some (.lst ys) → Pv D (i + 1) (ys ++ [y]) (upd H5 D (.lst (ys ++ [y]))) → K1 y H5) → (∀ H4, Pv D (i + 1) ys H4 → K2 H4) →
      tt (σ ++ [some (.int (lo + i))]) H fun b H4 => if b = true then te (σ ++ [some (.int (lo + i))]) H4 K1 else K2 H4)
    (hd : ∀ D ys H, H1 D = none → Pv D n ys H → Q D H) :
    ∀ D, H1 D = none → ∃ W : Nat → Nat → List V → Hp → Prop, (∃ m, W 0 m [] (upd H1 D (.lst []))) ∧ ∀ i m ys H2, W i m ys H2 →
      H2 D = some (.lst ys) ∧ (((Itr lo n).stop i H2 ∧ Q D H2) ∨ ((Itr lo n).go i H2 ∧ ys.length < sizeLine ∧ ∀ x H3, (Itr lo n).yld i H2 x H3 → tt (σ ++ [some x]) H3 fun b H4 => if b = true then te (σ ++ [some x]) H4 fun y H5 => H5 D = some (.lst ys) ∧ ∃ m', m' < m ∧ W (i + 1) m' (ys ++ [y]) (upd H5 D (.lst (ys ++ [y])))
        else ∃ m', m' < m ∧ W (i + 1) m' ys H4)) := by
  intro D hDn
  refine ⟨fun i m ys H => m = n - i ∧ i ≤ n ∧ Pv D i ys H, ⟨n, rfl, Nat.zero_le _, h0 D hDn⟩, ?_⟩
  rintro i m ys H2 ⟨rfl, hi, p⟩
  obtain ⟨e, l⟩ := hD D i ys H2 p
  refine ⟨e, ?_⟩
  by_cases hlt : i < n
  · refine .inr ⟨hlt, Nat.lt_of_le_of_lt l (Nat.lt_of_lt_of_le hlt hn), fun x H3 y => ?_⟩
    obtain ⟨e1, e2⟩ := y
    subst e1 e2
    exact hs D i ys _ _ _ hDn hlt p (fun y H5 h5 p5 => ⟨h5, n - (i + 1), by omega, rfl, hlt, p5⟩) fun H4 p4 => ⟨n - (i + 1), by omega, rfl, hlt, p4⟩
  · have ei : i = n := by omega
    subst ei
    exact .inl ⟨Nat.le_refl _, hd D ys H2 hDn p⟩
theorem comp_list {K : PySem.W.Frag} {a : Addr} {xs : List V} {tt : TT} {te : TE} {σ : St} {H1 : Hp} {Q : Addr → Hp → Prop} (hn : xs.length ≤ sizeLine) (Pv : Addr → Nat → List V → Hp → Prop)
    (h0 : ∀ D, H1 D = none → Pv D 0 [] (upd H1 D (.lst []))) (hD : ∀ D i ys H, Pv D i ys H → H D = some (.lst ys) ∧ ys.length ≤ i) (hl : ∀ D i ys H, H1 D = none → Pv D i ys H → SqL K H a xs)
    (hs : ∀ D i x ys H (K1 : VK) (K2 : Hp → Prop), H1 D = none → xs[i]? = some x → Pv D i ys H → (∀ y H5, H5 D = some (.lst ys) → Pv D (i + 1) (ys ++ [y]) (upd H5 D (.lst (ys ++ [y]))) → K1 y H5) → (∀ H4, Pv D (i + 1) ys H4 → K2 H4) →
      tt (σ ++ [some x]) H fun b H4 => if b = true then te (σ ++ [some x]) H4 K1 else K2 H4)
    (hd : ∀ D ys H, H1 D = none → Pv D xs.length ys H → Q D H) :
    ∀ D, H1 D = none → ∃ W : Nat → Nat → List V → Hp → Prop, (∃ m, W 0 m [] (upd H1 D (.lst []))) ∧ ∀ i m ys H2, W i m ys H2 →
      H2 D = some (.lst ys) ∧ (((Itl K a).stop i H2 ∧ Q D H2) ∨ ((Itl K a).go i H2 ∧ ys.length < sizeLine ∧ ∀ x H3, (Itl K a).yld i H2 x H3 → tt (σ ++ [some x]) H3 fun b H4 => if b = true then te (σ ++ [some x]) H4 fun y H5 => H5 D = some (.lst ys) ∧ ∃ m', m' < m ∧ W (i + 1) m' (ys ++ [y]) (upd H5 D (.lst (ys ++ [y])))
        else ∃ m', m' < m ∧ W (i + 1) m' ys H4)) := by
  intro D hDn
  refine ⟨fun i m ys H => m = xs.length - i ∧ i ≤ xs.length ∧ Pv D i ys H, ⟨xs.length, rfl, Nat.zero_le _, h0 D hDn⟩, ?_⟩
  rintro i m ys H2 ⟨rfl, hi, p⟩
  obtain ⟨e, l⟩ := hD D i ys H2 p
  have q := hl D i ys H2 hDn p
  refine ⟨e, ?_⟩
  by_cases hlt : i < xs.length
  · refine .inr ⟨⟨xs, xs[i], q, by simp [hlt]⟩, Nat.lt_of_le_of_lt l (Nat.lt_of_lt_of_le hlt hn), fun x H3 y => ?_⟩
    obtain ⟨e1, y⟩ := y
    subst e1
    exact hs D i x ys _ _ _ hDn (y xs q) p (fun y H5 h5 p5 => ⟨h5, xs.length - (i + 1), by omega, rfl, hlt, p5⟩) fun H4 p4 => ⟨xs.length - (i + 1), by omega, rfl, hlt, p4⟩
  · have ei : i = xs.length := by omega
    subst ei
    exact .inl ⟨⟨xs, q, Nat.le_refl _⟩, hd D ys H2 hDn p⟩
section
variable {X : Cx}
theorem ix_listK (K : PySem.W.Frag) (h : X.K = K := by rfl) : IxR X (rIxL K) := by subst h; exact ix_list
theorem ix_tupK (K : PySem.W.Frag) (h : X.K = K := by rfl) : IxR X (rIxT K) := by subst h; exact ix_tup
theorem sl_listK (K : PySem.W.Frag) (h : X.K = K := by rfl) : SlR X (rSlL K) := by subst h; exact sl_list
end
end L2
namespace L2
open PySem PySem.Spec PyProof.Rows
section
variable {X : Cx}
theorem call_sum (hc : X.calm = true) : CallR X (.builtin "sum") (fun xs H Q => ∃ (p : Addr) (ns : List Int), xs = [.ref p] ∧ SqL X.K H p (ns.map V.int) ∧ Q (.int ns.sum) H) := by
  intro pins s σ H xs us Q I rv h
  obtain ⟨p, ns, rfl, hS, q⟩ := h
  obtain ⟨u, rfl, r⟩ := vals1 rv
  cases r
  obtain ⟨its, rv, pl, hz⟩ := I.list hS
  have hi := intsAre_of rv
  obtain ⟨xs, e⟩ := hi.allInts.items
  have en : xs.toList.map (·.1) = ns := by
    have := nums_intItems xs
    rw [← e, show its.toArray.toList = its from rfl, hi.numsOf] at this
    exact this.symm
  refine sum_intListG (I.ok.hd hc) (by rw [← e]; exact pl.isList) fun h' tk t' hk => ?_
  rw [preSum_eq, List.take_of_length_le (by simp), en]
  exact ⟨.int ns.sum, H, I.kept hk, ⟨_, rfl⟩, q⟩
end
theorem cut_take {xs : List V} {j : Nat} : cutV xs none (some (j : Int)) = xs.take j := by
  unfold cutV
  rw [HT.sIx_none, HT.sIx_nat, List.drop_zero, Nat.sub_zero]
  by_cases h : j ≤ xs.length
  · rw [Nat.min_eq_left h]
  · rw [Nat.min_eq_right (by omega), List.take_of_length_le (Nat.le_refl _), List.take_of_length_le (by omega)]
end L2
namespace L2
open PySem PySem.Spec PyProof.Rows
def Rec (h : Heap) (e : Addr) (cls : Value) (od T : Option Addr) (fl : Value) : Prop :=
  ∃ oe vs, h.get? e = some oe ∧ oe.cls = cls ∧ oe.dict = od ∧ oe.data = .fields vs ∧
    match T with
    | none => vs[1]? = some .none
    | some t => vs[1]? = some (.ref t) ∧ t ≠ e ∧ ∃ oT ts, h.get? t = some oT ∧ oT.data = .fields ts ∧ ts[3]? = some fl
structure Keep (fs xs : List Addr) (h h' : Heap) : Prop where
  keep : ∀ b o, h.get? b = some o → b ∉ fs → b ∉ xs → h'.get? b = some o
  slot : ∀ b o, h.get? b = some o → b ∈ fs → b ∉ xs → ∃ sl, h'.get? b = some { o with slots := sl }
  there : ∀ b o, h.get? b = some o → ∃ o', h'.get? b = some o'
theorem Keep.any {fs xs : List Addr} {h h' : Heap} (k : Keep fs xs h h') {b : Addr} {o : Obj} (e : h.get? b = some o) (n : b ∉ xs) : ∃ sl, h'.get? b = some { o with slots := sl } := by
  by_cases hb : b ∈ fs
  · exact k.slot b o e hb n
  · exact ⟨o.slots, k.keep b o e hb n⟩
theorem Keep.mono {fs fs' xs xs' : List Addr} {h h' : Heap} (k : Keep fs xs h h') (hf : ∀ b ∈ fs, b ∈ fs') (hx : ∀ b ∈ xs, b ∈ xs') : Keep fs' xs' h h' :=
  ⟨fun b o e n m => k.keep b o e (fun z => n (hf b z)) fun z => m (hx b z), fun b o e _ m => k.any e fun z => m (hx b z), k.there⟩
theorem Keep.trans {fs xs : List Addr} {h h1 h2 : Heap} (a : Keep fs xs h h1) (b : Keep fs xs h1 h2) : Keep fs xs h h2 where
  keep := fun c o e n m => b.keep c o (a.keep c o e n m) n m
  slot := fun c o e n m => by
    obtain ⟨sl, e1⟩ := a.slot c o e n m
    obtain ⟨sl', e2⟩ := b.slot c _ e1 n m
    exact ⟨sl', e2⟩
  there := fun c o e => let ⟨o1, e1⟩ := a.there c o e; b.there c o1 e1
theorem dict_mf (f : Array Value → Array Value) (o : Obj) : (Obj.mapFields f o).dict = o.dict := by
  obtain ⟨c, d, dt, sl⟩ := o
  cases dt <;> rfl
section
variable {M : Model} {A : Around} {E : Value → Shared → Prop} {s : Shared} {env : Env} {outer : List Env} {L e : Addr} {base : Heap}
theorem entry_ok {oe : Obj} {vs : Array Value} {head : Value} {nx : Bool} {Q : Unit → Shared → Prop} (fr : A.frames = some (env :: outer)) (hl : s.heap.FunFrames base (env :: outer)) (hf : env.frame = some L)
    (he : s.heap.get? e = some oe) (hd : oe.data = .fields vs) (sz : 1 < vs.size)
    (k : ∀ h' oT ts, Keep (frs (env :: outer)) [e] s.heap h' → h'.get? e = some (oe.mapFields (·.setIfInBounds 1 (.ref s.heap.objs.size))) → h'.get? s.heap.objs.size = some oT → oT.data = .fields ts → ts[3]? = some (rawInt L) → Q () { s with heap := h' }) :
    wpAny M A (do let a ← frameOf env; let pl ← entryPlaceOf L nx; let b ← EntryCells.newEntry head a .none (rawInt L) .none pl; setField (.ref e) 1 b) Q E s := by
  have ne : e ∉ frs (env :: outer) := fun hm => by
    obtain ⟨_, o, ho, hn⟩ := hl.mem hm
    rw [he] at ho
    cases ho
    exact hn vs hd
  refine wpAny_bind (wpAny_frameOf_fun fr hl hf fun h₁ q => ?_)
  obtain ⟨q1, q2, q3⟩ := q
  refine wpAny_bind (wpAny_entryPlaceOf fun pl hp => ?_)
  simp only [EntryCells.newEntry, newFields]
  refine wpAny_bind (wpAny_newObj_type ?_ (hp.sizeOk5 _ _ _ _ _))
  rw [q1]
  generalize hT : ({ cls := .type "traceback", dict := none, data := .fields ([head, Value.ref L, .none, rawInt L, .none] ++ (if pl.isEmpty then List.replicate 6 Value.none else pl)).toArray } : Obj) = oT
  have e1 : h₁.get? e = some oe := (q2 e ne).trans he
  have e2 : (h₁.push oT).get? e = some oe := Heap.get?_push_of_some _ e1
  have lt : s.heap.objs.size ≠ e := Nat.ne_of_gt (Heap.lt_size he)
  have hT0 : (h₁.push oT).get? s.heap.objs.size = some oT := by
    have := Heap.get?_push_size h₁ (o := oT) (by rw [← hT]; rfl)
    rw [q1] at this
    exact this
  refine wpAny_setField e2 hd sz ?_
  have d3 := Obj.data_mapFields hd (·.setIfInBounds 1 (Value.ref s.heap.objs.size))
  have oth : ∀ b o, b ≠ e → h₁.get? b = some o → ((h₁.push oT).update e (Obj.mapFields (·.setIfInBounds 1 (Value.ref s.heap.objs.size)))).get? b = some o := fun b o hb z => by
    rw [Heap.get?_update_other _ _ (Ne.symm hb)]
    exact Heap.get?_push_of_some _ z
  have es := Heap.get?_update_self (Obj.mapFields (·.setIfInBounds 1 (Value.ref s.heap.objs.size))) e2 (Obj.isFreed_of_fields d3)
  refine k _ oT _ ⟨fun b o z hb hx => ?_, fun b o z hb hx => ?_, fun b o z => ?_⟩ es ?_ (by rw [← hT]) ?_
  · exact oth b o (fun y => hx (by rw [y]; exact List.mem_singleton.mpr rfl)) ((q2 b hb).trans z)
  · obtain ⟨sl, z1⟩ := q3 b o z
    exact ⟨sl, oth b _ (fun y => hx (by rw [y]; exact List.mem_singleton.mpr rfl)) z1⟩
  · by_cases hb : b = e
    · rw [hb]; exact ⟨_, es⟩
    · obtain ⟨sl, z1⟩ := q3 b o z
      exact ⟨_, oth b _ hb z1⟩
  · rw [Heap.get?_update_other _ _ (Ne.symm lt)]; exact hT0
  · rcases hp with rfl | ⟨_, _, _, _, _, _, _, rfl⟩ <;> simp
theorem note_rec {cls : Value} {od T : Option Addr} {fl : Value} {Q : Unit → Shared → Prop} (fr : A.frames = some (env :: outer)) (hl : s.heap.FunFrames base (env :: outer)) (hf : env.frame = some L) (R : Rec s.heap e cls od T fl)
    (hfl : T = none ∨ fl = .none ∨ fl = rawInt L)
    (k : ∀ h' t, Rec h' e cls od (some t) (rawInt L) → (T = some t ∨ t = s.heap.objs.size) → Keep (frs (env :: outer)) (e :: T.toList) s.heap h' → Q () { s with heap := h' }) : wpAny M A (noteFrame (.ref e) env) Q E s := by
  obtain ⟨oe, vs, he, hc, ho, hd, hT⟩ := R
  have lt : s.heap.objs.size ≠ e := Nat.ne_of_gt (Heap.lt_size he)
  unfold noteFrame
  simp only [hf]
  cases T with
  | none =>
    have h1 : vs[1]? = some Value.none := hT
    have sz := (Array.getElem?_eq_some_iff.mp h1).1
    refine wpAny_bind (wpAny_field he hd h1 ?_)
    rw [if_neg (by decide)]
    refine entry_ok fr hl hf he hd sz fun h' oT ts kp e' t1 t2 t3 => k h' _ ?_ (.inr rfl) kp
    exact ⟨_, _, e', by rw [Obj.cls_mapFields]; exact hc, by rw [dict_mf]; exact ho, Obj.data_mapFields hd _, by simp [sz], lt, oT, ts, t1, t2, t3⟩
  | some t =>
    obtain ⟨h1, ne, oT, ts, ht, hdt, h3⟩ := hT
    have sz := (Array.getElem?_eq_some_iff.mp h1).1
    have sz3 := (Array.getElem?_eq_some_iff.mp h3).1
    refine wpAny_bind (wpAny_field he hd h1 ?_)
    rw [if_pos (show (Value.ref t != Value.none) = true from by simp)]
    refine wpAny_bind (wpAny_field ht hdt h3 ?_)
    by_cases hh : fl = rawInt L
    · subst hh
      rw [if_pos (show (rawInt L == rawInt L) = true from by simp)]
      exact wpAny_pure (k s.heap t ⟨oe, vs, he, hc, ho, hd, h1, ne, oT, ts, ht, hdt, h3⟩ (.inl rfl) ⟨fun _ _ z _ _ => z, fun _ o z _ _ => ⟨o.slots, z⟩, fun _ o z => ⟨o, z⟩⟩)
    · have hn : fl = .none := by
        rcases hfl with z | z | z
        · cases z
        · exact z
        · exact absurd z hh
      subst hn
      rw [if_neg (show ¬ ((Value.none == rawInt L) = true) from by simp [rawInt])]
      refine wpAny_bind (wpAny_setField ht hdt sz3 ?_)
      have oth : ∀ b, b ≠ t → (s.heap.update t (Obj.mapFields (·.setIfInBounds 3 Value.none))).get? b = s.heap.get? b := fun b hb => Heap.get?_update_other _ _ (Ne.symm hb)
      have nf : ∀ b o, s.heap.get? b = some o → (∀ vs, o.data ≠ .fields vs) → b ≠ t := fun b o hb hnf q => by
        rw [q, ht] at hb
        cases hb
        exact hnf ts hdt
      have ts' := Heap.get?_update_self (Obj.mapFields (·.setIfInBounds 3 Value.none)) ht (Obj.isFreed_of_fields (Obj.data_mapFields hdt _))
      have zs : (s.heap.update t (Obj.mapFields (·.setIfInBounds 3 Value.none))).objs.size = s.heap.objs.size := by first | exact Heap.size_update _ _ _ | simp [Heap.update]
      refine entry_ok (s := { s with heap := s.heap.update t (Obj.mapFields (·.setIfInBounds 3 Value.none)) }) fr (hl.of_keeps fun b o hb hnf => ⟨o, (oth b (nf b o hb hnf)).trans hb, rfl⟩) hf ((oth e (Ne.symm ne)).trans he) hd sz
        fun h' oT' ts'' kp e' t1 t2 t3 => k h' _ ?_ (.inr zs) ?_
      · rw [show ({ s with heap := s.heap.update t (Obj.mapFields (·.setIfInBounds 3 Value.none)) } : Shared).heap.objs.size = s.heap.objs.size from zs] at *
        exact ⟨_, _, e', by rw [Obj.cls_mapFields]; exact hc, by rw [dict_mf]; exact ho, Obj.data_mapFields hd _, by simp [sz], lt, oT', ts'', t1, t2, t3⟩
      · refine ⟨fun b o z hb hx => ?_, fun b o z hb hx => ?_, fun b o z => ?_⟩
        · have hbe : b ≠ e := fun y => hx (by rw [y]; simp)
          have hbt : b ≠ t := fun y => hx (by rw [y]; simp)
          exact kp.keep b o ((oth b hbt).trans z) hb (by simpa using hbe)
        · have hbe : b ≠ e := fun y => hx (by rw [y]; simp)
          have hbt : b ≠ t := fun y => hx (by rw [y]; simp)
          exact kp.slot b o ((oth b hbt).trans z) hb (by simpa using hbe)
        · by_cases hbt : b = t
          · rw [hbt]; exact kp.there t _ ts'
          · exact kp.there b o ((oth b hbt).trans z)
theorem flight_rec {cls : Value} {od : Option Addr} {t : Addr} {fl : Value} {f : Option Addr} {Q : Unit → Shared → Prop} (R : Rec s.heap e cls od (some t) fl)
    (k : ∀ h', Rec h' e cls od (some t) (f.elim .none fun a => rawInt a) → Keep [] [t] s.heap h' → Q () { s with heap := h' }) : wpAny M A (setFlight (.ref e) f) Q E s := by
  obtain ⟨oe, vs, he, hc, ho, hd, h1, ne, oT, ts, ht, hdt, h3⟩ := R
  have sz3 := (Array.getElem?_eq_some_iff.mp h3).1
  unfold setFlight
  refine wpAny_bind (wpAny_field he hd h1 ?_)
  rw [if_pos (show (Value.ref t != Value.none) = true from by simp)]
  have oth : ∀ b, b ≠ t → (s.heap.update t (Obj.mapFields (·.setIfInBounds 3 (f.elim .none fun a => rawInt a)))).get? b = s.heap.get? b := fun b hb => Heap.get?_update_other _ _ (Ne.symm hb)
  have ts' := Heap.get?_update_self (Obj.mapFields (·.setIfInBounds 3 (f.elim .none fun a => rawInt a))) ht (Obj.isFreed_of_fields (Obj.data_mapFields hdt _))
  refine wpAny_setField ht hdt sz3 (k _ ?_ ⟨fun b o z _ hx => (oth b fun y => hx (by rw [y]; simp)).trans z, fun b o z _ hx => ⟨o.slots, (oth b fun y => hx (by rw [y]; simp)).trans z⟩, fun b o z => ?_⟩)
  · exact ⟨oe, vs, (oth e (Ne.symm ne)).trans he, hc, ho, hd, h1, ne, _, _, ts', Obj.data_mapFields hdt _, by simp [sz3]⟩
  · by_cases hbt : b = t
    · rw [hbt]; exact ⟨_, ts'⟩
    · exact ⟨o, (oth b hbt).trans z⟩
end
end L2
namespace L2
open PySem PySem.Spec PyProof.Rows
structure Mine (X : Cx) (pins : List (Addr × Obj)) (H : Hp) (b : Addr) : Prop where
  un : H b = none
  new : X.s₀.heap.get? b = none
  loc : b ≠ X.env.locals
  cel : ∀ x c, X.env.cells.lookup x = some c → c ≠ b
  pin : ∀ p ∈ X.pn ++ pins, p.1 ≠ b
def Fly (X : Cx) (pins : List (Addr × Obj)) (H : Hp) (e : Addr) (cls : Value) (od : Option Addr) (s : Shared) : Prop :=
  ∃ T fl, Rec s.heap e cls od T fl ∧ (T = none ∨ fl = .none ∨ ∃ L : Addr, X.env.frame = some L ∧ fl = rawInt L) ∧ ∀ b ∈ e :: T.toList, Mine X pins H b
def Held (X : Cx) (pins : List (Addr × Obj)) (H : Hp) (e : Addr) (cls : Value) (od : Option Addr) (fl : Value) (s : Shared) : Prop :=
  ∃ t, Rec s.heap e cls od (some t) fl ∧ ∀ b ∈ [e, t], Mine X pins H b
structure Body (X : Cx) : Prop where
  stk : X.stack = X.env :: X.outer
  fr : X.env.frame = some X.env.locals
  ex : X.ex = []
theorem HOk.there {P : Program} {w : World} {H : Hp} {h : Heap} {a : Addr} {o : HO} (k : HOk P w H h) (z : H a = some o) : ∃ ob, h.get? a = some ob := by
  have x := k a o z
  cases o with
  | lst xs => obtain ⟨_, _, _, _, e⟩ := x; exact ⟨_, e⟩
  | tup xs => obtain ⟨_, _, _, ob, e, _⟩ := x; exact ⟨ob, e⟩
  | dK kvs => obtain ⟨_, _, _, _, ob, _, _, e, _⟩ := x; exact ⟨ob, e⟩
  | dT kvs => obtain ⟨_, _, _, _, ob, _, _, e, _⟩ := x; exact ⟨ob, e⟩
  | set S n => obtain ⟨ob, _, _, _, e, _⟩ := x; exact ⟨ob, e⟩
  | ins C dx fs => obtain ⟨_, _, _, e, _⟩ := x; exact ⟨_, e⟩
  | own y => exact x
  | xd fs => obtain ⟨_, ⟨ob, _, _, e, _⟩, _⟩ := x; exact ⟨ob, e⟩
  | rng lo hi => obtain ⟨_, _, _, e⟩ := x; exact ⟨_, e⟩
  | frz ob u => obtain ⟨e, _⟩ := x; exact ⟨ob, e⟩
  | tbl ps => exact ⟨_, (show h.get? a = some _ from x)⟩
  | met f y => exact ⟨_, (show h.get? a = some _ from x)⟩
  | ext φ => obtain ⟨_, e, _⟩ := x; exact e
section
variable {X : Cx} {pins : List (Addr × Obj)} {σ : St} {H : Hp} {s : Shared} {e : Addr} {cls : Value} {od : Option Addr}
theorem Inv.mine {b : Addr} (B : Body X) (I : Inv X pins σ H s) (hb : s.heap.get? b = none) : Mine X pins H b where
  un := by
    cases z : H b with
    | none => rfl
    | some o =>
      obtain ⟨ob, y⟩ := I.hok.there z
      rw [hb] at y; cases y
  new := by
    cases z : X.s₀.heap.get? b with
    | none => rfl
    | some o =>
      obtain ⟨ob, y⟩ := I.base.there b o z (by rw [B.ex]; simp)
      rw [hb] at y; cases y
  loc := fun z => by
    obtain ⟨m, ⟨o, _, _, y, _⟩, _⟩ := I.loc
    rw [← z, hb] at y; cases y
  cel := fun x c y z => by
    obtain ⟨v, o, ho, _⟩ := I.cell x c y
    rw [z, hb] at ho; cases ho
  pin := fun p hp z => by
    have y := (I.pin p hp).1
    rw [z, hb] at y; cases y
theorem Inv.kept2 {xs : List Addr} {h' : Heap} (I : Inv X pins σ H s) (k : Keep (frs X.stack) xs s.heap h') (hx : ∀ b ∈ xs, Mine X pins H b) : Inv X pins σ H { s with heap := h' } := by
  have tr : ∀ c w, H c = some w → c ∉ frs X.stack ∧ c ∉ xs := fun c w z => ⟨fun y => (by rw [I.stkFree c y] at z; cases z), fun y => (by rw [(hx c y).un] at z; cases z)⟩
  have sub : ∀ b ∈ X.fs, b ∈ frs X.stack := fun b hb => by
    rcases I.ok.stk with z | ⟨z, _⟩
    · rw [z]; exact hb
    · rw [z]
      unfold frs
      rw [List.filterMap_cons]
      split
      · exact hb
      · exact List.mem_cons_of_mem _ hb
  have nf : ∀ b, b ∈ frs X.stack → b ∉ X.fs → b = X.env.locals := fun b hb hn => by
    rcases List.mem_cons.mp (I.stkSub b hb) with z | z
    · exact z
    · exact absurd z hn
  refine ⟨I.ok, I.os, I.bare, ⟨fun b o z n hb he => ?_, fun b o z n hb he => ?_, I.base.free, fun b o z he => ?_, I.base.tups, I.base.frzs, I.base.tbls⟩, ?_, fun x c z => ?_, I.free, I.freeC, fun p hp => ?_, fun b u z => ?_, I.len⟩
  · have y := I.base.keep b o z n hb he
    have nx : b ∉ xs := fun q => by rw [(hx b q).new] at z; cases z
    refine k.keep b o y (fun q => ?_) nx
    have := nf b q hb
    exact absurd (Nat.lt_of_lt_of_le (Heap.lt_size z) I.ok.above) (by rw [this]; exact Nat.lt_irrefl _)
  · obtain ⟨sl, y⟩ := I.base.slot b o z n hb he
    have nx : b ∉ xs := fun q => by rw [(hx b q).new] at z; cases z
    obtain ⟨sl', y'⟩ := k.any y nx
    exact ⟨sl', y'⟩
  · obtain ⟨o', y⟩ := I.base.there b o z he
    exact k.there b o' y
  · obtain ⟨m, ⟨o, es, ep, ho, r⟩, hl⟩ := I.loc
    obtain ⟨sl, y⟩ := k.any ho fun q => (hx _ q).loc rfl
    refine ⟨m, ⟨_, es, ep, y, r⟩, fun i x v e1 e2 e3 => ?_⟩
    obtain ⟨u, ru, l⟩ := hl i x v e1 e2 e3
    refine ⟨u, ru, ?_⟩
    rcases l with l | ⟨kd, c, e, oc, hoc, hd⟩
    · exact .inl l
    · obtain ⟨sl, y⟩ := k.any hoc fun q => (hx _ q).cel x c e rfl
      exact .inr ⟨kd, c, e, _, y, hd⟩
  · obtain ⟨v, o, ho, hd⟩ := I.cell x c z
    obtain ⟨sl, y⟩ := k.any ho fun q => (hx _ q).cel x c z rfl
    exact ⟨v, _, y, hd⟩
  · obtain ⟨e, n, ne, nfs, d⟩ := I.pin p hp
    exact ⟨k.keep p.1 p.2 e (fun q => ne (nf _ q nfs)) fun q => (hx _ q).pin p hp rfl, n, ne, nfs, d⟩
  · refine (I.hok b u z).stay (fun c v hc q => ?_) (fun _ q => q) fun _ _ q => q
    have t : ∃ w, H c = some w := by
      rcases hc with y | y
      · exact ⟨u, by rw [y]; exact z⟩
      · exact ⟨_, y⟩
    obtain ⟨w, t⟩ := t
    exact k.keep c v q (tr c w t).1 (tr c w t).2
theorem Inv.note {A : Around} {E : Value → Shared → Prop} {Q : Unit → Shared → Prop} (B : Body X) (fr : A.frames = some X.stack) (I : Inv X pins σ H s) (F : Fly X pins H e cls od s)
    (k : ∀ s', Inv X pins σ H s' → Held X pins H e cls od (rawInt X.env.locals) s' → Q () s') : wpAny (model X.prog X.w) A (noteFrame (.ref e) X.env) Q E s := by
  obtain ⟨T, fl, R, hfl, hm⟩ := F
  have st := I.stack
  rw [B.stk] at st fr
  refine note_rec fr st B.fr R ?_ fun h' t R' ht kp => ?_
  · rcases hfl with z | z | ⟨L, z1, z2⟩
    · exact .inl z
    · exact .inr (.inl z)
    · rw [B.fr] at z1
      cases z1
      exact .inr (.inr z2)
  · refine k _ (I.kept2 (by rw [B.stk]; exact kp) hm) ⟨t, R', fun b hb => ?_⟩
    rcases List.mem_cons.mp hb with z | z
    · rw [z]; exact hm e (by simp)
    · have z' : b = t := by simpa using z
      rcases ht with y | y
      · rw [z']; exact hm t (by rw [y]; simp)
      · exact I.mine B (by rw [z', y]; exact Heap.get?_none_of_le (Nat.le_refl _))
theorem Inv.flight {A : Around} {E : Value → Shared → Prop} {Q : Unit → Shared → Prop} {fl : Value} {f : Option Addr} (I : Inv X pins σ H s) (F : Held X pins H e cls od fl s)
    (k : ∀ s', Inv X pins σ H s' → Held X pins H e cls od (f.elim .none fun a => rawInt a) s' → Q () s') : wpAny (model X.prog X.w) A (setFlight (.ref e) f) Q E s := by
  obtain ⟨t, R, hm⟩ := F
  refine flight_rec R fun h' R' kp => k _ (I.kept2 (kp.mono (fun _ z => absurd z (by simp)) fun b z => z) fun b hb => ?_) ⟨t, R', hm⟩
  have z : b = t := by simpa using hb
  rw [z]; exact hm t (by simp)
theorem Held.fly {fl : Value} (F : Held X pins H e cls od fl s) (h : fl = .none ∨ ∃ L : Addr, X.env.frame = some L ∧ fl = rawInt L) : Fly X pins H e cls od s := by
  obtain ⟨t, R, hm⟩ := F
  exact ⟨some t, fl, R, .inr h, hm⟩
theorem Mine.less {b : Addr} (m : Mine X pins H b) : Mine X [] H b := ⟨m.un, m.new, m.loc, m.cel, fun p hp => m.pin p (by rw [List.append_nil] at hp; exact List.mem_append_left _ hp)⟩
theorem Fly.less (F : Fly X pins H e cls od s) : Fly X [] H e cls od s := by
  obtain ⟨T, fl, R, hf, hm⟩ := F
  exact ⟨T, fl, R, hf, fun b hb => (hm b hb).less⟩
theorem Inv.nopins (I : Inv X pins σ H s) : Inv X [] σ H s := I.pins_of fun _ z => absurd z (by simp)
end
def Wish (X : Cx) (W : St → XK) (ev : Value) (s : Shared) : Prop := ∃ σ H e cls od, ev = .ref e ∧ Inv X [] σ H s ∧ Fly X [] H e cls od s ∧ W σ cls od H
abbrev Cx.wants (X : Cx) (W : St → XK) : Cx := X.wish (Wish X W)
theorem passW {X : Cx} {W : St → XK} (B : Body X) : PassesOwn (model X.prog X.w) X.A X.env (Wish X W) := by
  rintro ev s ⟨σ, H, e, cls, od, rfl, I, F, w⟩
  unfold notedBy
  refine I.note B I.ok.frames F fun s1 I1 F1 => ?_
  unfold cameBackBy
  obtain ⟨t, R, hm⟩ := id F1
  obtain ⟨oe, vs, he, _, _, hd, h1, _⟩ := R
  refine wpAny_bind (wpAny_field he hd h1 ?_)
  dsimp only
  rw [if_neg (show ¬ ((Value.ref t == Value.none) = true) from by simp)]
  refine I1.flight F1 fun s2 I2 F2 => ?_
  exact ⟨σ, H, e, cls, od, rfl, I2, F2.fly (.inr ⟨_, B.fr, by rw [B.fr]; rfl⟩), w⟩
def CX1 (P : Program) (w : World) : CXT := fun outer H s E ev s' => ∃ e cls od H' t, ev = .ref e ∧ s'.os = s.os ∧ AllBare s'.gens ∧ Un (frs outer) [] H H' s.heap s'.heap ∧ HOk P w H' s'.heap ∧
  Rec s'.heap e cls od (some t) .none ∧ (∀ b ∈ [e, t], H' b = none ∧ s.heap.get? b = none) ∧ E cls od H'
theorem pass1 {X : Cx} {P : Program} {w : World} : Passes (CX1 P w) X E0 := by
  rintro _ _ _ _ _ _ _ ⟨_, _, _, _, _, _, _, _, _, _, _, _, z⟩
  exact z.elim
section
variable {X : Cx} {pins : List (Addr × Obj)} {σ : St} {H : Hp} {s s' : Shared} {E : XK} {ev : Value}
theorem Inv.flew (B : Body X) (I : Inv X pins σ H s) (h : CX1 X.prog X.w X.stack H s E ev s') : ∃ e cls od H', ev = .ref e ∧ Inv X pins σ H' s' ∧ Fly X pins H' e cls od s' ∧ E cls od H' := by
  obtain ⟨e, cls, od, H', t, rfl, os, bare, un, hok, R, hm, q⟩ := h
  have I' : Inv X pins σ H' s' := I.call' (ch := []) os un hok bare fun _ z => absurd z (by simp)
  refine ⟨e, cls, od, H', rfl, I', ⟨some t, .none, R, .inr (.inl rfl), fun b hb => ?_⟩, q⟩
  obtain ⟨m1, m2⟩ := hm b hb
  have q := I.mine B m2
  exact ⟨m1, q.new, q.loc, q.cel, q.pin⟩
end
theorem leaves {P : Program} {w : World} {K : PySem.W.Frag} {mg : Str → Option Value} {base : Heap} {N : List Str} {qual : Str} {sc : Scope} {f : Addr} {cd : Value} {A : Around} {outer : List Env} {s : Shared} {H : Hp} {E : XK} {ev : Value} {s1 : Shared}
    (h : Wish (cxOf (CX1 P w) P w K mg base N qual sc f cd A outer s H E) (fun _ => E) ev s1) : (cxOf (CX1 P w) P w K mg base N qual sc f cd A outer s H E).xe ev s1 := by
  obtain ⟨σ, H1, e, cls, od, rfl, I, F, q⟩ := h
  show wpAny _ _ (leaving _ _) _ _ _
  unfold leaving
  have B : Body (cxOf (CX1 P w) P w K mg base N qual sc f cd A outer s H E) := ⟨rfl, rfl, rfl⟩
  refine wpAny_bind (I.note B I.ok.frames F fun s2 I2 F2 => I2.flight F2 fun s3 I3 F3 => ?_)
  obtain ⟨t, R, hm⟩ := F3
  exact ⟨e, cls, od, H1, t, rfl, I3.os, I3.bare, I3.base, I3.hok, R, fun b hb => ⟨(hm b hb).un, (hm b hb).new⟩, q⟩
theorem Fun.okX {P : Program} {w : World} {K : PySem.W.Frag} {mg : Str → Option Value} {base : Heap} {x qual : Str} {st : Stmt} {f : Addr} {fd : FuncData} {N ps : List Str} {k : Nat} {sp : Sp} (F : Fun K x qual st f fd) (S : FnScope N ps (defScope st)) (len : ∀ vs H Q E, sp vs H Q E → vs.length = ps.length)
    (hbody : ∀ (cdv : Value) (A : Around) (outer : List Env) (s : Shared) (H : Hp) (vs : List V) (Q : VK) (E : XK), Room k (A.deeper (envOfC qual (defScope st) s.heap.objs.size f cdv)) → sp vs H Q E →
      ∃ t, PSs ((cxOf (CX1 P w) P w K mg base N qual (defScope st) f cdv A outer s H E).wants fun _ => E) (defBody st) t ∧ t { nx := fun _ H' => Q .non H', rt := Q } (start N vs) H) : FnOk P w K mg base (CX1 P w) (k + 1) f fd ps sp := by
  obtain ⟨oc, od, kV, doc, pm, an, cdv, ct, osl, rfl, lk, hcd⟩ := F.ex
  refine fn_of lk hcd S len fun A outer s H vs Q E hr hsp => ?_
  obtain ⟨t, h, q⟩ := hbody cdv A outer s H vs Q E hr hsp
  refine ⟨t, fun pins s1 σ H1 D I hw => ?_, q⟩
  exact wpAny_mono (h pins s1 σ H1 D (I.wish _) hw) (fun _ _ z => z.unwish) fun ev s2 z => leaves z
theorem FnOk.up {P : Program} {w : World} {K : PySem.W.Frag} {mg : Str → Option Value} {base : Heap} {k : Nat} {f : Addr} {fd : FuncData} {ps : List Str} {sp : Sp} (F : FnOk P w K mg base CX0 k f fd ps sp) : FnOk P w K mg base (CX1 P w) k f fd ps sp :=
  ⟨F.len, fun A outer s H args us vs Q E hr he hb hv hs => codeAny_mono (F.run A outer s H args us vs Q E hr he hb hv hs) fun r s' z => by
    cases r with
    | error e => exact False.elim z
    | ok fl => cases fl <;> exact z⟩
def tCallW (sp : Sp) (dvs : List V) (W : St → XK) (t : TA) : TE := fun σ H Q => t σ H fun vs H1 => sp (vs ++ dvs) H1 Q (W σ)
section
variable {X : Cx} {W : St → XK} {k : Nat} {f : Addr} {fd : FuncData} {ps : List Str} {sp : Sp} {dvs : List V} {ds : List Value} {x : Str} {p pos : Pos} {e : Expr} {es : List Expr} {t : TA}
theorem run_fnW {pins : List (Addr × Obj)} {σ : St} {H : Hp} {s : Shared} {Q : VK} {us : List Value} {vs : List V} (B : Body X) (F : FnOk X.prog X.w X.K X.mg X.base (CX1 X.prog X.w) k f fd ps sp) (hr : Room k X.A) (hb : Binds X.K fd ps ds) (hd : Vals dvs ds)
    (I : Inv (X.wants W) pins σ H s) (r : Vals vs us) (h : sp (vs ++ dvs) H Q (W σ)) : wpAny (model X.prog X.w) X.A (call (.ref f) us) (EP (X.wants W) pins σ Q) (Wish X W) s := by
  have r2 : Vals (vs ++ dvs) (us ++ ds) := r.append hd
  have hl : (us ++ ds).length = ps.length := by rw [← r2.length]; exact F.len _ _ _ _ h
  refine wpAny_call (codeAny_mono (F.run X.A X.stack s H ⟨us, []⟩ (us ++ ds) (vs ++ dvs) Q (W σ) hr I.unwish.env0 (hb s us I.kIn hl) r2 h) fun r s' hq => ?_)
  cases r with
  | error ev =>
    obtain ⟨e, cls, od, H', rfl, I', F', q⟩ := I.unwish.flew B hq
    exact ⟨σ, H', e, cls, od, rfl, I'.nopins, F'.less, q⟩
  | ok fl =>
    cases fl with
    | ret u => exact I.after hq
    | next => exact False.elim hq
    | brk => exact False.elim hq
    | cont => exact False.elim hq
theorem pe_callW (B : Body X) (F : FnOk X.prog X.w X.K X.mg X.base (CX1 X.prog X.w) k f fd ps sp) (hr : Room k X.A) (hg : Gl X x) (hm : X.mg x = some (.ref f)) (hk : PySem.W.keepIn X.K (.ref f) = true) (hb : Binds X.K fd ps ds) (hd : Vals dvs ds)
    (ha : PA (X.wants W) (e :: es) t) (hdb : (x == ("__debug__" : Str)) = false := by decide) (he : starEach (e :: es) X.env = (false, eval e X.env) :: starEach es X.env := by rfl) (hpl : (backTo pos (starEach es X.env)).any (·.1) = false := by rfl) :
    PE (X.wants W) (.Call (.Name x p) (e :: es) [] pos) (tCallW sp dvs W t) := by
  intro pins s σ H Q I h
  refine wpAny_Call_Name_kw (ld_glob I hg hm ?_ hdb)
  refine PySem.W.callWith_K (h₀ := X.base) I.ok.mod.kin hk (thn (ha pos pins s σ H _ I h) fun us s1 ⟨vs, H1, I1, r, q⟩ => ⟨I1.kIn, ?_⟩) he hpl
  exact run_fnW B F hr hb hd I1 r q
end
end L2
namespace L2
open PySem PySem.Spec PyProof.Rows
abbrev veMro : List Value := [.type "ValueError", .type "Exception", .type "BaseException", .type "object"]
abbrev XCls (K : PySem.W.Frag) (C : Addr) : Prop := PySem.W.excIn K C veMro "ValueError.__new__" = true
theorem own_obj {K : PySem.W.Frag} {h : Heap} {C : Addr} (X : K.In h) (q : XCls K C) : ∃ bm N nm qn bs hd sn sub ab col dd k0 k1 k2 k3 k5 mN,
    h.get? C = some (excClassObj nm qn C N bs bm hd sn sub ab col dd k0 k1 k2 k3 k5 "ValueError.__new__") ∧ h.Ns N mN ∧ mN "__init__" = none ∧ OwnTail h veMro bm := by
  unfold XCls PySem.W.excIn at q
  split at q
  · rename_i d1 c1 s1 look
    split at q
    · rename_i C1 bm j0 j1 j2 j3 n1 j5 e1 e2
      simp only [Bool.and_eq_true, beq_iff_eq, Bool.not_eq_true'] at q
      obtain ⟨⟨⟨⟨⟨r1, r2⟩, r3⟩, r4⟩, r5⟩, r6⟩ := q
      subst r1 r2
      obtain ⟨nm, bs, mro, ns, qn, hd, sn, sub, ab, col, del⟩ := c1
      dsimp only at e1 r3 r5 r6
      subst e1 r3
      have es : s1 = #[j0, j1, j2, j3, some (.builtin "ValueError.__new__"), j5] := Array.toList_inj.mp (by rw [e2])
      subst es
      exact ⟨bm, ns, nm, qn, bs, hd, sn, sub, ab, col, d1, j0, j1, j2, j3, j5, _, X _ _ look, .of_isNs (PySem.W.isNs_of_in X r5), PySem.W.nsMap_none_of_in X r5 r6, PySem.W.tail_of_in X r4⟩
    · exact absurd q Bool.false_ne_true
  · exact absurd q Bool.false_ne_true
def tRaise (C : Addr) (W : St → XK) (t : TA) : TS := fun _ σ H => t σ H fun vs H1 => vs.length ≤ sizeLine ∧ W σ (.ref C) none H1
section
variable {X : Cx} {W : St → XK} {C : Addr} {x : Str} {p cpos pos : Pos} {e : Expr} {es : List Expr} {t : TA}
theorem Inv.raised {pins : List (Addr × Obj)} {σ : St} {H : Hp} {s : Shared} {h' : Heap} {a : Addr} {us : List Value} (B : Body X) (I : Inv X pins σ H s) (m : Heap.MadeExcOf s.heap h' a (.ref C) us) (w : W σ (.ref C) none H) :
    Wish X W (.ref a) { s with heap := h' } := by
  obtain ⟨t, m1, _, _⟩ := m.there
  refine ⟨σ, H, a, .ref C, none, rfl, (I.kept m.keeps).nopins, ⟨none, .none, ⟨_, _, m1, rfl, rfl, rfl, rfl⟩, .inl rfl, fun b hb => ?_⟩, w⟩
  have z : b = a := by simpa using hb
  have q := I.nopins.mine B m.new
  rw [z]
  exact q
theorem ps_raise (B : Body X) (hc : X.calm = true) (hg : Gl X x) (hm : X.mg x = some (.ref C)) (q : XCls X.K C) (ha : PA (X.wants W) (e :: es) t) (hdb : (x == ("__debug__" : Str)) = false := by decide)
    (he : starEach (e :: es) X.env = (false, eval e X.env) :: starEach es X.env := by rfl) (hpl : (backTo cpos (starEach es X.env)).any (·.1) = false := by rfl) :
    PS (X.wants W) (.Raise (some (.Call (.Name x p) (e :: es) [] cpos)) none pos) (tRaise C W t) := by
  intro pins s σ H D I h
  obtain ⟨bm, N, nm, qn, bs, hd, sn, sub, ab, col, dd, k0, k1, k2, k3, k5, mN, hC, hN, hni, TL⟩ := own_obj I.ok.mod.kin q
  refine wpAny_Raise_call_subT (C := C) (nm := nm) (q := qn) (N := N) (bs := bs) (bm := bm) (hdct := hd) (sn := sn) (sub := sub) (ab := ab) (col := col) (dd := dd) (k0 := k0) (k1 := k1) (k2 := k2) (k3 := k3) (k5 := k5) (mN := mN)
    PySem.F.excBase_ValueError (TL.hasType PySem.F.excBase_ValueError.hasBase) (I.ok.hd hc) (by show (backTo cpos (starEach (e :: es) X.env)).any (·.1) = false; rw [he]; show (false || (backTo cpos (starEach es X.env)).any (·.1)) = false; rw [hpl]; rfl) hni (ld_glob I hg hm ⟨rfl, ?_⟩ hdb)
  have hA := ha cpos pins s σ H _ I h
  rw [he] at hA ⊢
  refine Calls.evalArgs_plain (thn hA fun us s1 ⟨vs, H1, I1, r, lv, w⟩ => ?_)
  refine ⟨rfl, ?_, I1.bk _ _ hC, hN.keeps I1.bk, TL.keeps I1.bk, fun h' a m => I1.unwish.raised B m w⟩
  show us.length ≤ sizeLine
  rw [← r.length]; exact lv
end
def ExcO (e : Addr) (cls : Value) (od : Option Addr) : Heap → Prop := fun h => ∃ oe vs, h.get? e = some oe ∧ oe.cls = cls ∧ oe.dict = od ∧ oe.data = .fields vs
abbrev hoX (e : Addr) (cls : Value) (od : Option Addr) : HO := .ext (ExcO e cls od)
theorem ExcO.ok {P : Program} {w : World} {H : Hp} {h : Heap} {e : Addr} {cls : Value} {od : Option Addr} (x : ExcO e cls od h) : ObjOk P w H h e (hoX e cls od) := by
  refine ⟨x, ?_, fun h1 h2 y k => ?_⟩
  · obtain ⟨oe, _, z, _⟩ := x; exact ⟨oe, z⟩
  · obtain ⟨oe, vs, z, r⟩ := y; exact ⟨oe, vs, k _ z, r⟩
section
variable {X : Cx} {pins : List (Addr × Obj)} {σ : St} {H : Hp} {s : Shared} {e : Addr} {cls : Value} {od : Option Addr}
theorem Inv.track {o : HO} (I : Inv X pins σ H s) (m : Mine X pins H e) (ok : ObjOk X.prog X.w (upd H e o) s.heap e o) : Inv X pins σ (upd H e o) s := by
  have nt : ∀ b u, H b = some u → b ≠ e := fun b u z => ne_of_none z m.un
  refine ⟨I.ok, I.os, I.bare, ⟨I.base.keep, I.base.slot, fun b ob z n hx => ?_, I.base.there, fun b xs z => ?_, fun b ob u z => ?_, fun b ps z => ?_⟩, I.loc, I.cell, ?_, fun x c z => ?_, fun p hp => ?_, fun b u z => ?_, I.len⟩
  · rw [upd_ne fun y => by rw [y, m.new] at z; cases z]
    exact I.base.free b ob z n hx
  · have y := I.base.tups b xs z
    rw [upd_ne (nt b _ y)]; exact y
  · have y := I.base.frzs b ob u z
    rw [upd_ne (nt b _ y)]; exact y
  · obtain ⟨more, y⟩ := I.base.tbls b ps z
    exact ⟨more, by rw [upd_ne (nt b _ y)]; exact y⟩
  · rw [upd_ne (Ne.symm m.loc)]; exact I.free
  · rw [upd_ne (m.cel x c z)]; exact I.freeC x c z
  · obtain ⟨z, n, r⟩ := I.pin p hp
    exact ⟨z, by rw [upd_ne (m.pin p hp)]; exact n, r⟩
  · by_cases hb : b = e
    · subst hb; rw [upd_same] at z; cases z; exact ok
    · rw [upd_ne hb] at z
      exact (I.hok b u z).stay (fun c v _ y => y) (fun c y => by rw [upd_ne (nt c _ y)]; exact y) fun c xs y => by rw [upd_ne (nt c _ y)]; exact y
end
abbrev Cx.suite (X : Cx) (e : Addr) : Cx := { X with A := X.A.mark (some (.ref e)), calm := false, xe := fun _ _ => False }
theorem Inv.suite {X : Cx} {pins : List (Addr × Obj)} {σ : St} {H : Hp} {s : Shared} (I : Inv X pins σ H s) (e : Addr) : Inv (X.suite e) pins σ H s :=
  ⟨⟨I.ok.mod, I.ok.kind, I.ok.glob, I.ok.blt, I.ok.above, I.ok.inj, I.ok.has, I.ok.cab, (fun z => absurd (show false = true from z) Bool.false_ne_true), I.ok.frames, I.ok.stk, I.ok.exf, I.ok.bs, I.ok.bsz, I.ok.noex, I.ok.exfs, I.ok.funs, I.ok.frf⟩, I.os, I.bare, I.base, I.loc, I.cell, I.free, I.freeC, I.pin, I.hok, I.len⟩
theorem Inv.unsuite {X : Cx} {pins : List (Addr × Obj)} {σ : St} {H : Hp} {s : Shared} {e : Addr} (ok : X.Ok) (I : Inv (X.suite e) pins σ H s) : Inv X pins σ H s :=
  ⟨ok, I.os, I.bare, I.base, I.loc, I.cell, I.free, I.freeC, I.pin, I.hok, I.len⟩
abbrev Cx.pin (X : Cx) (pins : List (Addr × Obj)) : Cx := { X with pn := X.pn ++ pins }
theorem Cx.Ok.pin {X : Cx} (ok : X.Ok) (pins : List (Addr × Obj)) : (X.pin pins).Ok :=
  ⟨ok.mod, ok.kind, ok.glob, ok.blt, ok.above, ok.inj, ok.has, ok.cab, ok.hd, ok.frames, ok.stk, ok.exf, ok.bs, ok.bsz, ok.noex, ok.exfs, ok.funs, ok.frf⟩
theorem Inv.pnd {X : Cx} {pins : List (Addr × Obj)} {σ : St} {H : Hp} {s : Shared} (I : Inv X pins σ H s) : Inv (X.pin pins) [] σ H s :=
  ⟨I.ok.pin pins, I.os, I.bare, I.base, I.loc, I.cell, I.free, I.freeC, fun p hp => I.pin p (by rw [List.append_nil] at hp; exact hp), I.hok, I.len⟩
theorem Inv.unpnd {X : Cx} {pins : List (Addr × Obj)} {σ : St} {H : Hp} {s : Shared} (ok : X.Ok) (I : Inv (X.pin pins) [] σ H s) : Inv X pins σ H s :=
  ⟨ok, I.os, I.bare, I.base, I.loc, I.cell, I.free, I.freeC, fun p hp => I.pin p (by rw [List.append_nil]; exact hp), I.hok, I.len⟩
theorem Fly.unpinned {X : Cx} {pins : List (Addr × Obj)} {H : Hp} {s : Shared} {e : Addr} {cls : Value} {od : Option Addr} (F : Fly (X.pin pins) [] H e cls od s) : Fly X pins H e cls od s := by
  obtain ⟨T, fl, R, hf, hm⟩ := F
  exact ⟨T, fl, R, hf, fun b hb => let m := hm b hb; ⟨m.un, m.new, m.loc, m.cel, fun p hp => m.pin p (by rw [List.append_nil]; exact hp)⟩⟩
abbrev TH := Value → Option Addr → TS
def PH (X : Cx) (hs : List ExceptHandler) (th : TH) : Prop := ∀ (pins : List (Addr × Obj)) (s : Shared) (σ : St) (H : Hp) (D : Ends) (e : Addr) (cls : Value) (od : Option Addr), Inv X pins σ H s → Held X pins H e cls od .none s → th cls od D σ H →
  wpAny (model X.prog X.w) X.A (handleBy (.ref e) X.env hs) (SP X pins D) X.xe s
def tTry (tb : (St → XK) → TS) (th : TH) : TS := fun D σ H => tb (fun σ' cls od H' => th cls od D σ' H') D σ H
theorem ps_try {X : Cx} {body : List Stmt} {h₀ : ExceptHandler} {hs : List ExceptHandler} {pos : Pos} {tb : (St → XK) → TS} {th : TH} (B : Body X) (hb : ∀ pins W, PSs ((X.pin pins).wants W) body (tb W)) (hh : PH X (h₀ :: hs) th) :
    PS X (.Try body (h₀ :: hs) [] [] pos) (tTry tb th) := by
  intro pins s σ H D I h
  have un : ∀ f s', SP ((X.pin pins).wants fun σ' cls od H' => th cls od D σ' H') [] D f s' → SP X pins D f s' := fun f s' z => by
    have z := z.unwish
    cases f with
    | next => obtain ⟨σ', H', J, q⟩ := z; exact ⟨σ', H', J.unpnd I.ok, q⟩
    | brk => obtain ⟨σ', H', J, q⟩ := z; exact ⟨σ', H', J.unpnd I.ok, q⟩
    | cont => obtain ⟨σ', H', J, q⟩ := z; exact ⟨σ', H', J.unpnd I.ok, q⟩
    | ret u => obtain ⟨v, σ', H', J, r, q⟩ := z; exact ⟨v, σ', H', J.unpnd I.ok, r, q⟩
  refine wpAny_Try_except (wpAny_mono (hb pins (fun σ' cls od H' => th cls od D σ' H') [] s σ H D (I.pnd.wish _) h) (fun f s1 z => ?_) fun ev s1 z => ?_)
  · cases f with
    | next => exact wpAny_execs_nil (un .next s1 z)
    | brk => exact un _ s1 z
    | cont => exact un _ s1 z
    | ret u => exact un _ s1 z
  · obtain ⟨σ1, H1, e, cls, od, rfl, J, F, q⟩ := z
    have J' := J.unpnd I.ok
    refine J'.note B J'.ok.frames F.unpinned fun s2 I2 F2 => I2.flight F2 fun s3 I3 F3 => ?_
    exact hh pins s3 σ1 H1 D e cls od I3 F3 q
structure HCls (K : PySem.W.Frag) (C : Addr) : Prop where
  ty : PySem.W.typeIn K (.ref C) = some (.type "type")
  ex : PySem.W.mroIn K C (.type "BaseException") = some true
theorem HCls.isTy {K : PySem.W.Frag} {C : Addr} (c : HCls K C) {M : Model} {h : Heap} (X : K.In h) : PySem.W.Looks M h (isType (.ref C)) true := by
  obtain ⟨cd, h1, _⟩ := Option.bind_eq_some_iff.mp c.ex
  unfold PySem.W.clsIn at h1
  split at h1
  · rename_i look
    intro A Q E s k q
    unfold isType loadHead
    exact wpAny_bind (wpAny_loadPart (k _ _ (X _ _ look)) (wpAny_pure q))
  · cases h1
theorem exc_match {K : PySem.W.Frag} {M : Model} {A : Around} {E : Value → Shared → Prop} {s : Shared} {e C : Addr} {cls : Value} {b : Bool} {Q : Bool → Shared → Prop} (X : K.In s.heap) (c : HCls K C) (he : ∃ oe, s.heap.get? e = some oe ∧ oe.cls = cls)
    (hs : PySem.W.subIn K cls (.ref C) = some b) (h : Q b s) : wpAny M A (excMatches (.ref e) (.ref C)) Q E s := by
  obtain ⟨oe, e1, e2⟩ := he
  have L2 : PySem.W.Looks M s.heap (isExcClass (.ref C)) true := by
    unfold isExcClass
    refine (c.isTy X).andThen ?_
    simp only [if_true]
    exact PySem.W.looks_mroIn X c.ex
  have L3 : PySem.W.Looks M s.heap (typeOf (.ref e)) cls := e2 ▸ (PySem.W.Looks.ld e1).andThen .now
  have L4 : PySem.W.Looks M s.heap (isSubtype cls (.ref C)) b := PySem.W.looks_subIn X hs
  have LT : PySem.W.Looks M s.heap (isInstance (.ref C) (.type "tuple")) false := (PySem.W.looks_typeIn X c.ty).andThen (PySem.W.Looks.of_pure tc_notTuple)
  obtain ⟨hp, g, d, tk, os⟩ := s
  unfold excMatches
  refine wpAny_bind (LT.at ?_)
  simp only [Bool.false_eq_true, if_false]
  refine wpAny_bind (wpAny_pure ?_)
  simp only [List.forIn_cons, List.forIn_nil]
  refine wpAny_bind (wpAny_bind (wpAny_bind (L2.at ?_)))
  simp only [Bool.not_true, Bool.false_eq_true, if_false]
  refine wpAny_pure (wpAny_pure (wpAny_bind (L3.at (wpAny_bind (wpAny_bind (wpAny_bind (L4.at ?_)))))))
  cases b with
  | true => simp only [if_true]; exact wpAny_pure (wpAny_pure (wpAny_pure h))
  | false => simp only [Bool.false_eq_true, if_false]; exact wpAny_pure (wpAny_pure (wpAny_pure h))
def ends (D : Ends) (i : Nat) : Ends := { nx := fun σ H => D.nx (σ.set i none) H, rt := D.rt, bk := fun σ H => D.bk (σ.set i none) H, ct := fun σ H => D.ct (σ.set i none) H }
def thAs (K : PySem.W.Frag) (C : Addr) (i : Nat) (ts : TS) (tr : TH) : TH := fun cls od D σ H => ∃ b, PySem.W.subIn K cls (.ref C) = some b ∧
  if b = true then ∀ e, H e = none → ts (ends D i) (σ.set i (some (.ref e))) (upd H e (hoX e cls od)) else tr cls od D σ H
section
variable {X : Cx} {pins : List (Addr × Obj)} {σ : St} {H : Hp} {s : Shared} {e C : Addr} {cls : Value} {od : Option Addr} {x n : Str} {i : Nat} {np pos : Pos} {b₀ : Stmt} {suite : List Stmt} {rest : List ExceptHandler} {ts : TS} {tr : TH}
theorem Inv.forget {h' : Heap} {v : Option Value} {m : Str → Option Value} {tk : Nat} (I : Inv X pins σ H s) (hN : X.N.Nodup) (hi : X.N[i]? = some n) (hn : s.heap.Ns X.env.locals m) (hl : ∀ (j : Nat) (y : Str) (v : V), X.N[j]? = some y → σ[j]? = some (some v) → Vis X.env.scope y → ∃ u, RelV v u ∧ Look X.env s.heap m y u)
    (hn' : h'.Ns X.env.locals (fun y => if y = n then v else m y)) (hs : Heap.SameBut X.env.locals s.heap h') : Inv X pins (σ.set i none) H { s with heap := h', toks := tk } := by
  have iσ : i < σ.length := by rw [I.len]; exact (List.getElem?_eq_some_iff.mp hi).1
  have old : ∀ b o, X.s₀.heap.get? b = some o → b ≠ X.env.locals := fun b o z => Nat.ne_of_lt (Nat.lt_of_lt_of_le (Heap.lt_size z) I.ok.above)
  refine ⟨I.ok, I.os, I.bare, ⟨fun b o z n hb hx => ?_, fun b o z n hb hx => ?_, I.base.free, fun b o z hx => ?_, I.base.tups, I.base.frzs, I.base.tbls⟩, ⟨_, hn', fun j y v' e1 e2 e3 => ?_⟩, fun y c z => ?_, I.free, I.freeC, fun p hp => ?_, fun b u z => ?_, by simpa using I.len⟩
  · exact (hs.2 b (old b o z)).trans (I.base.keep b o z n hb hx)
  · obtain ⟨sl, y⟩ := I.base.slot b o z n hb hx
    exact ⟨sl, (hs.2 b (old b o z)).trans y⟩
  · obtain ⟨o', y⟩ := I.base.there b o z hx
    exact ⟨o', (hs.2 b (old b o z)).trans y⟩
  · by_cases hj : j = i
    · subst hj
      rw [List.getElem?_set_self iσ] at e2
      cases e2
    · rw [List.getElem?_set_ne (Ne.symm hj)] at e2
      obtain ⟨u, r, q⟩ := hl j y v' e1 e2 e3
      refine ⟨u, r, ?_⟩
      rcases q with ⟨k, q⟩ | ⟨k, c, q, z⟩
      · refine .inl ⟨k, ?_⟩
        have : y ≠ n := fun z => hj (nodup_ix hN e1 (z ▸ hi))
        simp [this, q]
      · exact .inr ⟨k, c, q, z.sameBut hs (I.cne y c q)⟩
  · obtain ⟨w, q⟩ := I.cell y c z
    exact ⟨w, q.sameBut hs (I.cne y c z)⟩
  · obtain ⟨z, n, ne, r⟩ := I.pin p hp
    exact ⟨(hs.2 p.1 ne).trans z, n, ne, r⟩
  · refine (I.hok b u z).stay (fun c w hc q => (hs.2 c ?_).trans q) (fun _ q => q) fun _ _ q => q
    rintro rfl
    rcases hc with y | y
    · rw [← y, I.free] at z; cases z
    · rw [I.free] at y; cases y
theorem ph_as (B : Body X) (hc : HCls X.K C) (hg : Gl X x) (hm : X.mg x = some (.ref C)) (nd : X.N.Nodup) (hi : X.N[i]? = some n) (hl : X.env.scope.names.lookup n = some .local) (hs : ∀ e, PSs (X.suite e) (b₀ :: suite) ts) (hr : PH X rest tr)
    (hdb : (x == ("__debug__" : Str)) = false := by decide) : PH X (.ExceptHandler (some (.Name x np)) (some n) (b₀ :: suite) pos :: rest) (thAs X.K C i ts tr) := by
  intro pins s σ H D e cls od I F h
  obtain ⟨b, sb, h⟩ := h
  have I0 : Inv (X.suite e) pins σ H s := I.suite e
  have rec0 : ∃ oe, s.heap.get? e = some oe ∧ oe.cls = cls := by
    obtain ⟨t, ⟨oe, _, z, y, _⟩, _⟩ := F
    exact ⟨oe, z, y⟩
  refine wpAny_handleBy_cons (codeAny_handlers_test (ld_glob (X := X.suite e) I0 hg hm (exc_match I.kIn hc rec0 sb ?_) hdb)) (by intro z; cases z)
  cases b with
  | false => exact hr pins s σ H D e cls od I F h
  | true =>
    have h := h
    rw [if_pos rfl] at h
    refine codeAny_handlers_suite_as ?_
    refine Inv.flight (X := X.suite e) (f := none) I0 (let ⟨t, R, hm⟩ := F; ⟨t, R, fun b hb => let m := hm b hb; ⟨m.un, m.new, m.loc, m.cel, m.pin⟩⟩) fun s1 I1 F1 => ?_
    obtain ⟨t, R, hm1⟩ := F1
    have m := hm1 e (by simp)
    have xo : ExcO e cls od s1.heap := let ⟨oe, vs, r1, r2, r3, r4, _⟩ := R; ⟨oe, vs, r1, r2, r3, r4⟩
    have I2 := I1.track (o := hoX e cls od) m xo.ok
    refine store_ok (X := X.suite e) (v := .ref e) I2 nd hi (.inl hl) rfl (fun s2 I3 => ?_) (.inr hl)
    refine wpAny_mono (hs e pins s2 _ _ (ends D i) I3 (h e m.un)) (fun f s3 z => ?_) fun _ _ z => z.elim
    have fin : ∀ (σ3 : St) (H3 : Hp) (Q : Unit → Shared → Prop), Inv (X.suite e) pins σ3 H3 s3 → (∀ s4, Inv X pins (σ3.set i none) H3 s4 → Q () s4) → wpAny (model X.prog X.w) X.A (do bindName X.env n .none; unbindBehindTheSuite X.env n pos) Q X.xe s3 := fun σ3 H3 Q J k => by
      have J' := J.unsuite I.ok
      obtain ⟨m0, hn, hlk⟩ := id J'.loc
      exact wpAny_nameGoes_keeps hl hn (by rw [I.ok.kind]; rfl) fun h' v hn' hs' => k _ (J'.forget nd hi hn hlk hn' hs')
    cases f with
    | next => obtain ⟨σ3, H3, J, q⟩ := z; exact fin σ3 H3 _ J fun s4 J4 => ⟨_, H3, J4, q⟩
    | brk => obtain ⟨σ3, H3, J, q⟩ := z; exact fin σ3 H3 _ J fun s4 J4 => ⟨_, H3, J4, q⟩
    | cont => obtain ⟨σ3, H3, J, q⟩ := z; exact fin σ3 H3 _ J fun s4 J4 => ⟨_, H3, J4, q⟩
    | ret u => obtain ⟨v, σ3, H3, J, r, q⟩ := z; exact fin σ3 H3 _ J fun s4 J4 => ⟨v, _, H3, J4, r, q⟩
theorem ph_never : PH X [] fun _ _ _ _ _ => False := fun _ _ _ _ _ _ _ _ _ _ z => z.elim
end
end L2
namespace L2
open PySem PySem.Spec PyProof.Rows
structure XGet (K : PySem.W.Frag) (C : Addr) : Prop where
  ga : PySem.W.findIn K (.ref C) "__getattribute__" = some (some (.builtin "BaseException.__getattribute__"))
  gh : PySem.W.findIn K (.ref C) "__getattr__" = some none
  be : PySem.W.mroIn K C (.type "BaseException") = some true
section
variable {prog : Program} {w : World} {A : Around} {E : Value → Shared → Prop} {s : Shared} {K : PySem.W.Frag} {a C : Addr} {o : Obj} {od : Option Obj} {name : Str} {tk : Tok}
theorem xga_entry {r : Builtin.ObjectAttr.Found} {Q : Fin → Shared → Prop} (X : K.In s.heap) (I : PySem.W.InstAt s.heap a o C od) (hf : PySem.W.findObj K C od name = some r)
    (h : wpAny (model prog w) A (match r with | .value v => ret v | .bind g b => Builtin.ObjectAttr.bindTo g b (.ref a) (.ref C) | .missing => unsupported "no") Q E s) (hr : r ≠ .missing) :
    wpAny (model prog w) A (Builtin.«object.__getattribute__» ⟨[.ref a, .str name tk], []⟩) Q E s := by
  obtain ⟨hh, g, d, t, os⟩ := s
  have L0 := I.type (M := model prog w)
  have L1 := PySem.W.looks_find (M := model prog w) X I hf
  unfold Builtin.«object.__getattribute__»
  refine wpAny_bind (wpAny_pure ?_)
  refine wpAny_bind (wpAny_pure ?_)
  refine wpAny_bind (L0.at (wpAny_bind (L1.at ?_)))
  cases r with
  | value v => exact h
  | bind g b => exact h
  | missing => exact absurd rfl hr
theorem xga_check {M : Model} {v : Value} {Q : Unit → Shared → Prop} (c : XGet K C) (X : K.In s.heap) (I : PySem.W.InstAt s.heap a o C od) (h : Q () s) : wpAny M A (checkBuiltinCall "BaseException.__getattribute__" ⟨[.ref a, v], []⟩) Q E s := by
  obtain ⟨hh, g, d, t, os⟩ := s
  have kd : builtinKind "BaseException.__getattribute__" = some .slot := by decide +kernel
  have sp : splitId "BaseException.__getattribute__" = some ("BaseException", "__getattribute__") := by decide +kernel
  have L0 := I.type (M := M)
  have L1 := PySem.W.looks_mroIn (M := M) X c.be
  have LI : PySem.W.Looks M hh (isInstance (.ref a) (.type "BaseException")) true := L0.andThen L1
  have ha := PySem.F.args_bexc_ga (.ref a) v
  simp only [checkBuiltinCall, kd, sp]
  refine wpAny_bind (LI.at ?_)
  repeat (any_goals (first | assumption | wp_step))
theorem xattr_by {fill ex : Bool} {Q : Value → Shared → Prop} (c : XGet K C) (X : K.In s.heap) (I : PySem.W.InstAt s.heap a o C od)
    (h : wpAny (model prog w) A.in1 (Builtin.«object.__getattribute__» ⟨[.ref a, .str name tk], []⟩) (fun fin s' => match fin with | .done (.ret v) => wpAny (model prog w) A (handedOut v) Q E s' | _ => False) (fun _ _ => False) s) :
    wpAny (model prog w) A (getAttrBy (.ref a) (.str name tk) fill ex) Q E s := by
  have L0 := I.type (M := model prog w)
  have L1 := PySem.W.looks_findIn (M := model prog w) X c.ga
  have L2 := PySem.W.looks_findIn (M := model prog w) X c.gh
  have f3 := PySem.F.attr_ValueError.ga.bind (.ref a)
  have n0 : (Value.builtin "BaseException.__getattribute__" == Value.builtin "object.__getattribute__") = false := by decide +kernel
  have n1 : (onTheHeap (Value.ref C) && Value.builtin "BaseException.__getattribute__" == Value.builtin "object.__getattribute__") = false := by rw [n0, Bool.and_false]
  have n2 : (ex && onTheHeap (Value.builtin "BaseException.__getattribute__")) = false := by cases ex <;> rfl
  have ck := fun (E' : Value → Shared → Prop) (Q' : Unit → Shared → Prop) (z : Q' () s) => xga_check (M := model prog w) (A := A.in1) (E := E') (v := .str name tk) (Q := Q') c X I z
  obtain ⟨hh, g, d, t, os⟩ := s
  unfold getAttrBy
  refine wpAny_holding (wpAny_bind (L0.at (wpAny_bind (L1.at ?_))))
  simp only [n1, Bool.false_eq_true, if_false]
  unfold getAttrByItsOwn hookBefore
  refine wpAny_bind ?_
  rw [if_pos (show onTheHeap (Value.ref C) = true from rfl)]
  refine L2.at ?_
  refine wpAny_bind (wpAny_attempt ?_)
  unfold callGetattribute
  simp only [n2, Bool.false_eq_true, if_false]
  refine wpAny_holding ?_
  unfold boundAndCalled
  refine wpAny_bind (wpAny_of_eq f3 ?_)
  refine wpAny_call (codeAny_call_builtin PySem.F.attr_ValueError.ga.plain PySem.F.entry_bexc_ga (ck _ _ ?_))
  refine wpAny_mono h (fun fin s' z => ?_) fun _ _ z => z.elim
  rcases fin with (_ | _ | _ | _) | _ <;> first | exact z | exact z.elim
theorem xget_class {Q : Option Value → Shared → Prop} (c : XGet K C) (X : K.In s.heap) (I : PySem.W.InstAt s.heap a o C od) (hf : PySem.W.findObj K C od "__class__" = some (.bind (.builtin "getset_descriptor.__get__") (.builtin "object.__class__"))) (hm : PySem.W.mroIn K C (.type "object") = some true)
    (h : Q (some (.ref C)) { s with toks := s.toks + 1 }) : wpAny (model prog w) A (getAttr? (.ref a) "__class__") Q E s := by
  unfold getAttr? getAttrBy?
  refine wpAny_bind (wpAny_mkText (wpAny_bind (wpAny_attempt ?_)))
  refine xattr_by (s := { s with toks := s.toks + 1 }) c X I (xga_entry (s := { s with toks := s.toks + 1 }) X I hf ?_ (by intro z; cases z))
  show wpAny _ _ (holding _ _ >>= ret) _ _ _
  refine wpAny_bind (wpAny_holding (wpAny_call (PySem.W.class_get (s := { s with toks := s.toks + 1 }) X I hm ?_)))
  exact wpAny_pure (PySem.W.handed_on rfl (wpAny_pure h))
end
structure XKit (K : PySem.W.Frag) (C : Addr) : Prop extends XGet K C where
  cl : PySem.W.findIn K (.ref C) "__class__" = some (some (.builtin "object.__class__"))
  gt : PySem.W.specialIn K (.builtin "object.__class__") "__get__" = some (some (.builtin "getset_descriptor.__get__"))
  tk : PySem.W.takesIn K (.builtin "object.__class__") = some true
  ob : PySem.W.mroIn K C (.type "object") = some true
theorem XKit.find {K : PySem.W.Frag} {C : Addr} (c : XKit K C) (od : Option Obj) : PySem.W.findObj K C od "__class__" = some (.bind (.builtin "getset_descriptor.__get__") (.builtin "object.__class__")) := by
  obtain ⟨cd, h1, _⟩ := Option.bind_eq_some_iff.mp c.ob
  unfold PySem.W.findObj
  rw [h1, Option.bind_some, c.cl, Option.bind_some]
  simp only [c.gt, Option.bind_some, c.tk]
theorem ExcO.inst {h : Heap} {e C : Addr} (x : ExcO e (.ref C) none h) : ∃ o, PySem.W.InstAt h e o C none := by
  obtain ⟨o, vs, h1, h2, h3, h4⟩ := x
  refine ⟨o, h1, h2, ?_, ?_⟩
  · unfold PySem.W.notCls; rw [h4]
  · rw [h3]; trivial
theorem ExcO.instD {h : Heap} {e C dx : Addr} {od : Obj} (x : ExcO e (.ref C) (some dx) h) (hd : h.get? dx = some od) : ∃ o, PySem.W.InstAt h e o C (some od) := by
  obtain ⟨o, vs, h1, h2, h3, h4⟩ := x
  refine ⟨o, h1, h2, ?_, ?_⟩
  · unfold PySem.W.notCls; rw [h4]
  · rw [h3]; exact hd
theorem kitx_exc {K : PySem.W.Frag} {e C : Addr} {od : Option Obj} (c : XKit K C) : PySem.W.KitX K (.ref e) (.ref C) (fun h => ∃ o, PySem.W.InstAt h e o C od) := by
  have cd : ∃ c' d' cd sl, K.lookup C = some ⟨c', d', .cls cd, sl⟩ := by
    obtain ⟨cd, h1, _⟩ := Option.bind_eq_some_iff.mp c.ob
    unfold PySem.W.clsIn at h1
    split at h1
    · rename_i look; exact ⟨_, _, _, _, look⟩
    · cases h1
  obtain ⟨c', d', cd, sl, look⟩ := cd
  refine ⟨fun M h X ⟨o, I⟩ => I.type, fun M h X _ => ?_, fun h tp dd its n sl' X z => ?_, fun {_ _ _ _ _ s} X ⟨o, I⟩ q => xget_class c.toXGet X I (c.find od) c.ob q⟩
  · intro A Q E s k q
    unfold isType loadHead
    exact wpAny_bind (wpAny_loadPart (k _ _ (X _ _ look)) (wpAny_pure q))
  · refine Bool.eq_false_iff.mpr fun q => ?_
    obtain rfl : C = tp := Value.ref.inj (beq_iff_eq.mp q)
    cases (X _ _ look).symm.trans z
def XdO (dx : Addr) (fs : List (Str × V)) : Heap → Prop := fun h => ∃ mA, h.Ns1 dx mA ∧ (∀ f, RelO (fs.lookup f) (mA f)) ∧ PySem.Within mA (fs.map (·.1))
abbrev hoD (dx : Addr) (fs : List (Str × V)) : HO := .ext (XdO dx fs)
theorem XdO.ok {P : Program} {w : World} {H : Hp} {h : Heap} {dx : Addr} {fs : List (Str × V)} (x : XdO dx fs h) : ObjOk P w H h dx (hoD dx fs) := by
  refine ⟨x, ?_, fun h1 h2 y k => ?_⟩
  · obtain ⟨mA, ⟨o, _, _, z, _⟩, _⟩ := x; exact ⟨o, z⟩
  · obtain ⟨mA, n, r⟩ := y
    exact ⟨mA, n.at fun o q => k o q, r⟩
def XDict (H : Hp) (od : Option Addr) : Prop := od = none ∨ ∃ dx fs, od = some dx ∧ H dx = some (hoD dx fs)
theorem XDict.same {H H' : Hp} {od : Option Addr} (e : Same H H') (h : XDict H od) : XDict H' od := by
  rcases h with h | ⟨dx, fs, h1, h2⟩
  · exact .inl h
  · exact .inr ⟨dx, fs, h1, e _ _ h2⟩
section
variable {X : Cx}
theorem exc_kit {pins : List (Addr × Obj)} {σ : St} {H : Hp} {s : Shared} {e C : Addr} {od : Option Addr} (I : Inv X pins σ H s) (c : XKit X.K C) (ha : H e = some (hoX e (.ref C) od)) (hd : XDict H od) :
    ∃ P : Heap → Prop, P s.heap ∧ PySem.W.KitX X.K (.ref e) (.ref C) P := by
  obtain ⟨xo, _, _⟩ := (show ObjOk X.prog X.w H s.heap e (hoX e (.ref C) od) from I.hok e _ ha)
  rcases hd with rfl | ⟨dx, fs, rfl, hx⟩
  · exact ⟨_, xo.inst, kitx_exc c⟩
  · obtain ⟨ob, y⟩ := I.hok.there hx
    exact ⟨_, xo.instD y, kitx_exc (od := some ob) c⟩
def vCls : V → Option Value
  | .ref a => some (.ref a)
  | .ty n => some (.type n)
  | _ => none
theorem vCls_rel {c : V} {u v : Value} (h : vCls c = some u) (r : RelV c v) : v = u := by
  cases c with
  | ref a => cases h; exact r
  | ty n => cases h; exact r
  | _ => cases h
theorem vCls_all : ∀ {cs : List V} {us vs : List Value}, cs.map vCls = us.map some → Vals cs vs → vs = us
  | [], [], _, _, .nil => rfl
  | [], _ :: _, _, h, _ => by cases h
  | _ :: _, [], _, h, _ => by cases h
  | c :: cs, u :: us, _, h, .cons r rs => by
    rw [List.map_cons, List.map_cons] at h
    injection h with h1 h2
    rw [vCls_rel h1 r, vCls_all h2 rs]
def rIsX (K : PySem.W.Frag) : List V → Hp → VK → Prop := fun xs H Q => ∃ e C od c u b, xs = [.ref e, c] ∧ H e = some (hoX e (.ref C) od) ∧ XDict H od ∧ XKit K C ∧ vCls c = some u ∧ PySem.W.kitOne K (.ref C) u = some b ∧ Q (.bl b) H
theorem call_isx {K : PySem.W.Frag} (hK : X.K = K := by rfl) : CallR X (.builtin "isinstance") (rIsX K) := by
  subst hK
  intro pins s σ H xs us Q I rv h
  obtain ⟨e, C, od, c, u, b, rfl, ha, hd, ck, rc, k, q⟩ := h
  obtain ⟨u1, u2, rfl, r1, r2⟩ := vals2 rv
  obtain rfl : u1 = Value.ref e := r1
  obtain rfl := vCls_rel rc r2
  obtain ⟨P, p, Z⟩ := exc_kit I ck ha hd
  exact PySem.W.kia_one Z I.kIn p k (fun z => nomatch z) fun tk => ⟨.bl b, H, I.tok tk, rfl, q⟩
def rIsXT (K : PySem.W.Frag) : List V → Hp → VK → Prop := fun xs H Q => ∃ e C od t cs us b, xs = [.ref e, .ref t] ∧ H e = some (hoX e (.ref C) od) ∧ XDict H od ∧ XKit K C ∧ SqT K H t cs ∧ cs.map vCls = us.map some ∧ PySem.W.kitAny K (.ref C) us = some b ∧ Q (.bl b) H
theorem call_isxT {K : PySem.W.Frag} (hK : X.K = K := by rfl) : CallR X (.builtin "isinstance") (rIsXT K) := by
  subst hK
  intro pins s σ H xs us Q I rv h
  obtain ⟨e, C, od, t, cs, vs, b, rfl, ha, hd, ck, ht, rc, k, q⟩ := h
  obtain ⟨u1, u2, rfl, r1, r2⟩ := vals2 rv
  obtain rfl : u1 = Value.ref e := r1
  obtain rfl : u2 = Value.ref t := r2
  obtain ⟨P, p, Z⟩ := exc_kit I ck ha hd
  obtain ⟨its, rt, tt, _⟩ := I.tuple ht
  obtain rfl := vCls_all rc rt
  obtain ⟨⟨c1, d1, dt, sl⟩, h1, h2, n, h3⟩ := tt
  dsimp only at h2 h3
  subst h2 h3
  exact PySem.W.kia_tup Z I.kIn p h1 k (fun z => nomatch z) fun tk => ⟨.bl b, H, I.tok tk, rfl, q⟩
end
end L2
namespace L2
open PySem PySem.Spec PyProof.Rows
section
variable {X : Cx}
end
section
variable {K : PySem.W.Frag} {H H' : Hp} {x : V} {b : Bool}
theorem kit_tt {T c : String} (h : (if ((Value.type T) == (Value.type c)) = true then some true else (if PySem.W.kitMeta c = true then (PySem.fastBuiltinMro T).map (·.contains (Value.type c)) else none)) = some b) : PySem.W.kitOne K (.type T) (.type c) = some b := h
def Wh (K : PySem.W.Frag) (H : Hp) (x : V) (b : Bool) : Prop := ∃ t b1 b2, TyOf K H x t ∧ PySem.W.kitOne K t (.type "int") = some b1 ∧ PySem.W.kitOne K t (.type "bool") = some b2 ∧ (b1 && !b2) = b
theorem Wh.int (i : Int) : Wh K H (.int i) true := ⟨_, _, _, .int i, kit_int_int, kit_int_bool, rfl⟩
theorem Wh.bl (c : Bool) : Wh K H (.bl c) false := ⟨_, true, true, .bl c, kit_tt (by decide +kernel), kit_bool_bool, rfl⟩
theorem Wh.non : Wh K H .non false := ⟨_, false, false, .non, kit_tt (by decide +kernel), kit_tt (by decide +kernel), rfl⟩
theorem Wh.str (z : Str) : Wh K H (.str z) false := ⟨_, false, false, .str z, kit_tt (by decide +kernel), kit_tt (by decide +kernel), rfl⟩
theorem Wh.tup {a : Addr} {xs : List V} (h : H a = some (.tup xs)) : Wh K H (.ref a) false := ⟨_, false, false, .tup h, kit_tt (by decide +kernel), kit_tt (by decide +kernel), rfl⟩
theorem Wh.lst {a : Addr} {xs : List V} (h : H a = some (.lst xs)) : Wh K H (.ref a) false := ⟨_, false, false, .lst h, kit_tt (by decide +kernel), kit_tt (by decide +kernel), rfl⟩
theorem Wh.dK {a : Addr} {kvs : List (Key × V)} (h : H a = some (.dK kvs)) : Wh K H (.ref a) false := ⟨_, false, false, .dK h, kit_tt (by decide +kernel), kit_tt (by decide +kernel), rfl⟩
theorem TyOf.same {t : Value} (e : Same H H') (h : TyOf K H x t) : TyOf K H' x t := by
  cases h with
  | non => exact .non
  | bl c => exact .bl c
  | int i => exact .int i
  | str z => exact .str z
  | flt z => exact .flt z
  | lst q => exact .lst (e _ _ q)
  | frz q => exact .frz (e _ _ q)
  | tup q => exact .tup (e _ _ q)
  | dK q => exact .dK (e _ _ q)
  | dT q => exact .dT (e _ _ q)
  | ins q cl ha hn htk hm => exact .ins (e _ _ q) cl ha hn htk hm
theorem Wh.same (e : Same H H') (h : Wh K H x b) : Wh K H' x b := by
  obtain ⟨t, b1, b2, ty, r⟩ := h
  exact ⟨t, b1, b2, ty.same e, r⟩
end
section
variable {K : PySem.W.Frag} {A B : Addr}
theorem HCls.some {C : Addr} (c : HCls K C) : (PySem.W.clsIn K C).isSome = true := by
  obtain ⟨cd, h1, _⟩ := Option.bind_eq_some_iff.mp c.ex
  rw [h1]; rfl
theorem kit_cc {b : Bool} (c : HCls K B) (h : PySem.W.subIn K (.ref A) (.ref B) = some b) (s : PySem.W.subIn K (.ref A) (.ref A) = some true) : PySem.W.kitOne K (.ref A) (.ref B) = some b := by
  unfold PySem.W.kitOne
  by_cases e : A = B
  · subst e
    rw [h] at s
    cases s
    rw [if_pos (beq_self_eq_true _)]
  · rw [if_neg (fun q => e (Value.ref.inj (beq_iff_eq.mp q)))]
    show (if ((PySem.W.clsIn K B).isSome && PySem.W.typeIn K (.ref B) == some (.type "type")) = true then PySem.W.subIn K (.ref A) (.ref B) else none) = _
    rw [c.some, c.ty, if_pos (by rfl)]
    exact h
theorem kit_cv {T : String} {b : Bool} (m : PySem.W.kitMeta T = true) (h : PySem.W.subIn K (.ref A) (.type T) = some b) : PySem.W.kitOne K (.ref A) (.type T) = some b := by
  unfold PySem.W.kitOne
  rw [if_neg (fun q => by cases beq_iff_eq.mp q)]
  show (if PySem.W.kitMeta T = true then PySem.W.subIn K (.ref A) (.type T) else none) = _
  rw [if_pos m]
  exact h
theorem kitMeta_ve : PySem.W.kitMeta "ValueError" = true := by decide +kernel
end
end L2
namespace L2
open PySem PySem.Spec PyProof.Rows
end L2
namespace L2
open PySem PySem.Spec PyProof.Rows
mutual
inductive Rep (K : PySem.W.Frag) (H : Hp) : V → PyData → Prop
  | non : Rep K H .non .none
  | bl (b : Bool) : Rep K H (.bl b) (.bool b)
  | int (i : Int) : Rep K H (.int i) (.int i)
  | str (x : Str) : Rep K H (.str x) (.str x)
  | lst {a : Addr} {xs : List V} {ds : List PyData} : SqL K H a xs → Reps K H xs ds → Rep K H (.ref a) (.list ds)
  | tup {a : Addr} {xs : List V} {ds : List PyData} : SqT K H a xs → Reps K H xs ds → Rep K H (.ref a) (.tuple ds)
inductive Reps (K : PySem.W.Frag) (H : Hp) : List V → List PyData → Prop
  | nil : Reps K H [] []
  | cons {x : V} {xs : List V} {d : PyData} {ds : List PyData} : Rep K H x d → Reps K H xs ds → Reps K H (x :: xs) (d :: ds)
end
section
variable {K : PySem.W.Frag} {H H' : Hp}
mutual
theorem Rep.same (e : Same H H') : ∀ {x : V} {d : PyData}, Rep K H x d → Rep K H' x d
  | _, _, .non => .non
  | _, _, .bl b => .bl b
  | _, _, .int i => .int i
  | _, _, .str x => .str x
  | _, _, .lst h r => .lst (e.seq h) (Reps.same e r)
  | _, _, .tup h r => .tup (by
      rcases h with (h | ⟨o, h⟩) | h
      · exact .inl (.inl (e _ _ h))
      · exact .inl (.inr ⟨o, e _ _ h⟩)
      · exact .inr h) (Reps.same e r)
theorem Reps.same (e : Same H H') : ∀ {xs : List V} {ds : List PyData}, Reps K H xs ds → Reps K H' xs ds
  | _, _, .nil => .nil
  | _, _, .cons r t => .cons (Rep.same e r) (Reps.same e t)
end
theorem Reps.length : ∀ {xs : List V} {ds : List PyData}, Reps K H xs ds → xs.length = ds.length
  | _, _, .nil => rfl
  | _, _, .cons _ t => by rw [List.length_cons, List.length_cons, Reps.length t]
theorem Reps.append : ∀ {xs ys : List V} {ds es : List PyData}, Reps K H xs ds → Reps K H ys es → Reps K H (xs ++ ys) (ds ++ es)
  | _, _, _, _, .nil, r => r
  | _, _, _, _, .cons a t, r => .cons a (Reps.append t r)
theorem Reps.get : ∀ {xs : List V} {ds : List PyData} {i : Nat} {d : PyData}, Reps K H xs ds → ds[i]? = some d → ∃ x, xs[i]? = some x ∧ Rep K H x d
  | _, _, _, _, .nil, e => by simp at e
  | _, _, 0, _, .cons r _, e => by simp at e; subst e; exact ⟨_, rfl, r⟩
  | _, _, i + 1, _, .cons _ t, e => by
    obtain ⟨x, h1, h2⟩ := Reps.get t (i := i) (by simpa using e)
    exact ⟨x, by simpa using h1, h2⟩
theorem Reps.take : ∀ {xs : List V} {ds : List PyData} (n : Nat), Reps K H xs ds → Reps K H (xs.take n) (ds.take n)
  | _, _, 0, _ => .nil
  | _, _, _ + 1, .nil => .nil
  | _, _, n + 1, .cons r t => .cons r (Reps.take n t)
theorem Reps.drop : ∀ {xs : List V} {ds : List PyData} (n : Nat), Reps K H xs ds → Reps K H (xs.drop n) (ds.drop n)
  | _, _, 0, r => r
  | _, _, _ + 1, .nil => .nil
  | _, _, n + 1, .cons _ t => Reps.drop n t
theorem Reps.ints : ∀ (ns : List Int), Reps K H (ns.map V.int) (ns.map PyData.int)
  | [] => .nil
  | n :: ns => .cons (.int n) (Reps.ints ns)
end
section
variable {X : Cx} {pins : List (Addr × Obj)} {σ : St} {H : Hp} {s : Shared}
mutual
theorem Inv.reads (I : Inv X pins σ H s) : ∀ {x : V} {d : PyData}, Rep X.K H x d → ∀ {v : Value}, RelV x v → ∃ as, Reads s.heap v d as
  | _, _, .non, v, r => by cases (show v = Value.none from r); exact ⟨_, .none⟩
  | _, _, .bl b, v, r => by cases (show v = Value.bool b from r); exact ⟨_, .bool b⟩
  | _, _, .int i, v, r => by obtain ⟨t, e⟩ := (show ∃ t, v = Value.int i t from r); cases e; exact ⟨_, .int i t⟩
  | _, _, .str x, v, r => by obtain ⟨t, e⟩ := (show ∃ t, v = Value.str x t from r); cases e; exact ⟨_, .str x t⟩
  | _, _, .lst (a := a) h rs, v, r => by
    cases (show v = Value.ref a from r)
    obtain ⟨its, rv, ⟨o, n, e1, e2, _, e4⟩, _⟩ := I.list h
    obtain ⟨as, q⟩ := Inv.readsAll I rs rv
    exact ⟨_, .list e1 e2 e4 q⟩
  | _, _, .tup (a := a) h rs, v, r => by
    cases (show v = Value.ref a from r)
    obtain ⟨its, rv, ⟨o, e1, e2, n, e4⟩, _⟩ := I.tuple h
    obtain ⟨as, q⟩ := Inv.readsAll I rs rv
    exact ⟨_, .tuple e1 e2 e4 q⟩
theorem Inv.readsAll (I : Inv X pins σ H s) : ∀ {xs : List V} {ds : List PyData}, Reps X.K H xs ds → ∀ {vs : List Value}, Vals xs vs → ∃ as, ReadsAll s.heap vs ds as
  | _, _, .nil, _, .nil => ⟨_, .nil⟩
  | _, _, .cons r t, _, .cons q u => by
    obtain ⟨a1, h1⟩ := Inv.reads I r q
    obtain ⟨a2, h2⟩ := Inv.readsAll I t u
    exact ⟨_, .cons h1 h2⟩
end
def rEqD (K : PySem.W.Frag) : R2 := fun x y H Q => ∃ d e, Rep K H x d ∧ Rep K H y e ∧ PySem.SeqAt.shaped d = true ∧ PySem.SeqAt.shaped e = true ∧ Q (.bl (PyData.eqv d e)) H
def rNeD (K : PySem.W.Frag) : R2 := fun x y H Q => ∃ d e, Rep K H x d ∧ Rep K H y e ∧ PySem.SeqAt.shaped d = true ∧ PySem.SeqAt.shaped e = true ∧ Q (.bl (!PyData.eqv d e)) H
theorem op_eqD {K : PySem.W.Frag} (hu : X.A.units + 64 < cLine) (hK : X.K = K := by rfl) : OpR X (compareOp .Eq) (rEqD K) := by
  subst hK
  intro pins s σ H x y v u Q I rx ry h
  obtain ⟨d, e, hx, hy, s1, s2, q⟩ := h
  obtain ⟨as, r1⟩ := I.reads hx rx
  obtain ⟨bs, r2⟩ := I.reads hy ry
  exact eq_dataH r1 r2 s1 s2 hu ⟨.bl _, H, I, rfl, q⟩
theorem op_neD {K : PySem.W.Frag} (hu : X.A.units + 64 < cLine) (hK : X.K = K := by rfl) : OpR X (compareOp .NotEq) (rNeD K) := by
  subst hK
  intro pins s σ H x y v u Q I rx ry h
  obtain ⟨d, e, hx, hy, s1, s2, q⟩ := h
  obtain ⟨as, r1⟩ := I.reads hx rx
  obtain ⟨bs, r2⟩ := I.reads hy ry
  exact ne_dataH r1 r2 s1 s2 hu ⟨.bl _, H, I, rfl, q⟩
end
end L2
namespace L2
open PySem PySem.Spec PyProof.Rows
section
variable {prog : Program} {w : World} {A : Around} {E : Value → Shared → Prop} {s : Shared}
end
section
variable {X : Cx} {e : Expr} {te : TE} {p p2 pos pos2 : Pos}
end
end L2
namespace L2
open PySem PySem.W PySem.Spec PyProof.Rows
section
variable {O : KeyOrd} {ky : Nat → O.α} {n : Nat} {cmp : Nat → Nat → (Bool → Shared → Prop) → Shared → Prop} {J : Shared → Prop}
def kk (ky : Nat → O.α) (p : Array Nat) (i : Nat) : O.α := ky (p.getD i 0)
def Srt (ky : Nat → O.α) (p : Array Nat) (m : Nat) : Prop := ∀ i j, i ≤ j → j < m → O.kle (kk ky p i) (kk ky p j)
def Fal (ky : Nat → O.α) (p : Array Nat) (m : Nat) : Prop := ∀ i j, i ≤ j → j < m → O.kle (kk ky p j) (kk ky p i)
def Prm (n : Nat) (p : Array Nat) : Prop := p.toList.Perm (List.range n)
def Asks (O : KeyOrd) (ky : Nat → O.α) (n : Nat) (cmp : Nat → Nat → (Bool → Shared → Prop) → Shared → Prop) (J : Shared → Prop) : Prop :=
  ∀ i j (C : Bool → Shared → Prop) s, i < n → j < n → J s → (∀ s', J s' → C (O.blt (ky i) (ky j)) s') → cmp i j C s
theorem Prm.size {p : Array Nat} (h : Prm n p) : p.size = n := by
  have := h.length_eq
  rw [List.length_range] at this
  exact this
theorem Prm.lt {p : Array Nat} (h : Prm n p) {k : Nat} (hk : k < n) : p.getD k 0 < n := by
  have hz := h.size
  have e : p.getD k 0 = p[k]'(by omega) := by simp [Array.getD, hz, hk]
  rw [e]
  exact List.mem_range.mp (h.mem_iff.mp (by simp))
theorem Prm.rev {p : Array Nat} (h : Prm n p) (i j : Nat) : Prm n (kas_rev p i j) := (mirror_perm p i j _).toList.trans h
theorem Prm.bub {p : Array Nat} (h : Prm n p) (k d : Nat) : Prm n (bubble p k d) := (bubble_perm p k d).toList.trans h
theorem getD_of {p q : Array Nat} {i j : Nat} (e : p[i]? = q[j]?) : p.getD i 0 = q.getD j 0 := by
  rw [Array.getD_eq_getD_getElem?, Array.getD_eq_getD_getElem?, e]
theorem kk_rev {p : Array Nat} {i j : Nat} (hj : j ≤ p.size) (k : Nat) : kk ky (kas_rev p i j) k = if i ≤ k ∧ k < j then kk ky p (i + j - 1 - k) else kk ky p k := by
  have e := getElem?_mirror_all (xs := p) (i := i) hj k
  unfold kk kas_rev
  by_cases c : i ≤ k ∧ k < j
  · rw [if_pos c] at e ⊢
    rw [getD_of e]
  · rw [if_neg c] at e ⊢
    rw [getD_of e]
theorem kk_bub {p : Array Nat} {src d : Nat} (hs : src < p.size) (hd : d ≤ src) (k : Nat) :
    kk ky (bubble p src d) k = if k = src - d then kk ky p src else if src - d < k ∧ k ≤ src then kk ky p (k - 1) else kk ky p k := by
  have e := getElem?_bubble hs d hd k
  unfold kk
  by_cases c : k = src - d
  · rw [if_pos c] at e ⊢
    rw [getD_of e]
  · rw [if_neg c] at e ⊢
    by_cases c2 : src - d < k ∧ k ≤ src
    · rw [if_pos c2] at e ⊢
      rw [getD_of e]
    · rw [if_neg c2] at e ⊢
      rw [getD_of e]
theorem Srt.succ {p : Array Nat} {m : Nat} (h : Srt ky p m) (h1 : 1 ≤ m) (c : O.kle (kk ky p (m - 1)) (kk ky p m)) : Srt ky p (m + 1) := fun i j hij hj => by
  by_cases e : j = m
  · subst e
    by_cases e2 : i = j
    · subst e2
      exact KeyOrd.kle_refl _
    · exact KeyOrd.kle_trans (h i (j - 1) (by omega) (by omega)) c
  · exact h i j hij (by omega)
theorem Fal.succ {p : Array Nat} {m : Nat} (h : Fal ky p m) (h1 : 1 ≤ m) (c : O.kle (kk ky p m) (kk ky p (m - 1))) : Fal ky p (m + 1) := fun i j hij hj => by
  by_cases e : j = m
  · subst e
    by_cases e2 : i = j
    · subst e2
      exact KeyOrd.kle_refl _
    · exact KeyOrd.kle_trans c (h i (j - 1) (by omega) (by omega))
  · exact h i j hij (by omega)
theorem Srt.one {p : Array Nat} : Srt ky p 1 := fun i j hij hj => by
  have : i = j := by omega
  subst this
  exact KeyOrd.kle_refl _
theorem Fal.rev {p : Array Nat} {m : Nat} (hz : m ≤ p.size) (h : Fal ky p m) : Srt ky (kas_rev p 0 m) m := fun i j hij hj => by
  rw [kk_rev hz, kk_rev hz, if_pos ⟨Nat.zero_le _, by omega⟩, if_pos ⟨Nat.zero_le _, hj⟩]
  exact h _ _ (by omega) (by omega)
theorem Fal.revEq {p : Array Nat} {i j m : Nat} (hz : j ≤ p.size) (hm : j ≤ m) (h : Fal ky p m) (eq : ∀ a b, i ≤ a → a < j → i ≤ b → b < j → O.kle (kk ky p a) (kk ky p b)) : Fal ky (kas_rev p i j) m := fun a b hab hb => by
  rw [kk_rev hz, kk_rev hz]
  by_cases c1 : i ≤ a ∧ a < j
  · rw [if_pos c1]
    by_cases c2 : i ≤ b ∧ b < j
    · rw [if_pos c2]
      exact eq _ _ (by omega) (by omega) (by omega) (by omega)
    · rw [if_neg c2]
      exact h _ _ (by omega) hb
  · rw [if_neg c1]
    by_cases c2 : i ≤ b ∧ b < j
    · rw [if_pos c2]
      exact h _ _ (by omega) (by omega)
    · rw [if_neg c2]
      exact h _ _ hab hb
theorem asc_ok (ac : Asks O ky n cmp J) {p : Array Nat} (hp : Prm n p) {R : Nat → Shared → Prop} : ∀ (f a : Nat) (s : Shared), 1 ≤ a → a + f ≤ n → Srt ky p a → J s →
    (∀ m s', a ≤ m → m ≤ a + f → Srt ky p m → (m < a + f → O.klt (kk ky p m) (kk ky p (m - 1))) → J s' → R m s') → (kas_asc p f a).kasWp cmp R s
  | 0, a, s, h1, hz, hs, hJ, k => k a s (Nat.le_refl _) (Nat.le_refl _) hs (fun h => absurd h (Nat.lt_irrefl _)) hJ
  | f + 1, a, s, h1, hz, hs, hJ, k => by
    refine ac _ _ _ s (hp.lt (by omega)) (hp.lt (by omega)) hJ fun s' hJ' => ?_
    cases e : O.blt (ky (p.getD a 0)) (ky (p.getD (a - 1) 0)) with
    | true =>
      dsimp only
      rw [if_pos rfl]
      exact k a s' (Nat.le_refl _) (by omega) hs (fun _ => e) hJ'
    | false =>
      dsimp only
      rw [if_neg Bool.false_ne_true]
      refine asc_ok ac hp f (a + 1) s' (by omega) (by omega) (hs.succ h1 e) hJ' fun m s2 l1 l2 q1 q2 q3 => ?_
      exact k m s2 (by omega) (by omega) q1 (fun h => q2 (by omega)) q3
theorem desc_ok (ac : Asks O ky n cmp J) {R : Array Nat × Nat × Nat → Shared → Prop} : ∀ (f : Nat) (p : Array Nat) (m q : Nat) (s : Shared), Prm n p → q + 1 ≤ m → m + f ≤ n → Fal ky p m →
    (∀ a b, m - (q + 1) ≤ a → a < m → m - (q + 1) ≤ b → b < m → O.kle (kk ky p a) (kk ky p b)) → J s →
    (∀ p' m' q' s', Prm n p' → q' + 1 ≤ m' → m ≤ m' → m' ≤ m + f → Fal ky p' m' → (∀ a b, m' - (q' + 1) ≤ a → a < m' → m' - (q' + 1) ≤ b → b < m' → O.kle (kk ky p' a) (kk ky p' b)) → J s' → R (p', m', q') s') →
    (kas_desc f p m q).kasWp cmp R s
  | 0, p, m, q, s, hp, hq, hz, hf, he, hJ, k => k p m q s hp hq (Nat.le_refl _) (Nat.le_refl _) hf he hJ
  | f + 1, p, m, q, s, hp, hq, hz, hf, he, hJ, k => by
    have hsz := hp.size
    refine ac _ _ _ s (hp.lt (by omega)) (hp.lt (by omega)) hJ fun s' hJ' => ?_
    cases e : O.blt (ky (p.getD m 0)) (ky (p.getD (m - 1) 0)) with
    | true =>
      dsimp only
      rw [if_pos rfl]
      have hf' : Fal ky p (m + 1) := hf.succ (by omega) (KeyOrd.kle_of_klt e)
      have one : ∀ p' : Array Nat, ∀ a b, m + 1 - (0 + 1) ≤ a → a < m + 1 → m + 1 - (0 + 1) ≤ b → b < m + 1 → O.kle (kk ky p' a) (kk ky p' b) := fun p' a b _ _ _ _ => by
        have : a = b := by omega
        subst this
        exact KeyOrd.kle_refl _
      by_cases c : q > 0
      · rw [if_pos c]
        refine desc_ok ac f (kas_rev p (m - (q + 1)) m) (m + 1) 0 s' (hp.rev _ _) (by omega) (by omega) (hf'.revEq (by omega) (by omega) he) (one _) hJ' fun p' m' q' s2 a1 a2 a3 a4 a5 a6 a7 => ?_
        exact k p' m' q' s2 a1 a2 (by omega) (by omega) a5 a6 a7
      · rw [if_neg c]
        refine desc_ok ac f p (m + 1) 0 s' hp (by omega) (by omega) hf' (one _) hJ' fun p' m' q' s2 a1 a2 a3 a4 a5 a6 a7 => ?_
        exact k p' m' q' s2 a1 a2 (by omega) (by omega) a5 a6 a7
    | false =>
      dsimp only
      rw [if_neg Bool.false_ne_true]
      refine ac _ _ _ s' (hp.lt (by omega)) (hp.lt (by omega)) hJ' fun s2 hJ2 => ?_
      cases e2 : O.blt (ky (p.getD (m - 1) 0)) (ky (p.getD m 0)) with
      | true =>
        dsimp only
        rw [if_pos rfl]
        exact k p m q s2 hp hq (Nat.le_refl _) (by omega) hf he hJ2
      | false =>
        dsimp only
        rw [if_neg Bool.false_ne_true]
        have g1 : O.kle (kk ky p (m - 1)) (kk ky p m) := e
        have g2 : O.kle (kk ky p m) (kk ky p (m - 1)) := e2
        refine desc_ok ac f p (m + 1) (q + 1) s2 hp (by omega) (by omega) (hf.succ (by omega) g2) (fun a b a1 a2 b1 b2 => ?_) hJ2 fun p' m' q' s3 c1 c2 c3 c4 c5 c6 c7 => ?_
        · by_cases ea : a = m
          · by_cases eb : b = m
            · rw [ea, eb]
              exact KeyOrd.kle_refl _
            · rw [ea]
              exact KeyOrd.kle_trans g2 (he (m - 1) b (by omega) (by omega) (by omega) (by omega))
          · by_cases eb : b = m
            · rw [eb]
              exact KeyOrd.kle_trans (he a (m - 1) (by omega) (by omega) (by omega) (by omega)) g1
            · exact he a b (by omega) (by omega) (by omega) (by omega)
        · exact k p' m' q' s3 c1 c2 (by omega) (by omega) c5 c6 c7
theorem tail3_ok (ac : Asks O ky n cmp J) {p : Array Nat} (hp : Prm n p) {m nrem : Nat} {R : Nat × Array Nat → Shared → Prop} {s : Shared} (h1 : 1 ≤ m) (h2 : m ≤ nrem) (h3 : nrem ≤ n) (hf : Fal ky p m) (hJ : J s)
    (k : ∀ m' p' s', 1 ≤ m' → m' ≤ nrem → Prm n p' → Srt ky p' m' → J s' → R (m', p') s') : (kas_tail3 m nrem p).kasWp cmp R s := by
  have hsz := hp.size
  unfold kas_tail3
  rw [KasT.kasWp_bind]
  refine asc_ok ac (hp.rev 0 m) (nrem - m) m s h1 (by omega) (hf.rev (by omega)) hJ fun m' s' a1 a2 a3 _ a5 => ?_
  exact k m' _ s' (by omega) (by omega) (hp.rev _ _) a3 a5
theorem descPart_ok (ac : Asks O ky n cmp J) {p : Array Nat} (hp : Prm n p) {m nrem : Nat} {R : Nat × Array Nat → Shared → Prop} {s : Shared} (h2 : m + 1 ≤ nrem) (h3 : nrem ≤ n) (hf : Fal ky p (m + 1)) (hJ : J s)
    (k : ∀ m' p' s', 1 ≤ m' → m' ≤ nrem → Prm n p' → Srt ky p' m' → J s' → R (m', p') s') : (kas_descPart m nrem p).kasWp cmp R s := by
  unfold kas_descPart
  rw [KasT.kasWp_bind]
  refine desc_ok ac (nrem - (m + 1)) p (m + 1) 0 s hp (by omega) (by omega) hf (fun a b _ _ _ _ => ?_) hJ fun p' m' q' s' a1 a2 a3 a4 a5 a6 a7 => ?_
  · have : a = b := by omega
    subst this
    exact KeyOrd.kle_refl _
  · have hsz := a1.size
    dsimp only
    by_cases c : q' > 0
    · rw [if_pos c]
      exact tail3_ok ac (a1.rev _ _) (by omega) (by omega) h3 (a5.revEq (by omega) (Nat.le_refl _) a6) a7 k
    · rw [if_neg c]
      exact tail3_ok ac a1 (by omega) (by omega) h3 a5 a7 k
theorem count_ok (ac : Asks O ky n cmp J) {p : Array Nat} (hp : Prm n p) {R : Nat × Array Nat → Shared → Prop} {s : Shared} (h1 : 1 ≤ n) (hJ : J s)
    (k : ∀ m' p' s', 1 ≤ m' → m' ≤ n → Prm n p' → Srt ky p' m' → J s' → R (m', p') s') : (kas_count n p).kasWp cmp R s := by
  have hsz := hp.size
  unfold kas_count
  rw [KasT.kasWp_bind]
  refine asc_ok ac hp (n - 1) 1 s (Nat.le_refl _) (by omega) Srt.one hJ fun m s' a1 a2 a3 a4 a5 => ?_
  by_cases c : m = n
  · rw [if_pos (by simpa using c)]
    exact k m p s' a1 (by omega) hp a3 a5
  · rw [if_neg (by simpa using c)]
    have lt := a4 (by omega)
    by_cases c1 : m > 1
    · rw [if_pos c1]
      refine ac _ _ _ s' (hp.lt (by omega)) (hp.lt (by omega)) a5 fun s2 hJ2 => ?_
      cases e : O.blt (ky (p.getD 0 0)) (ky (p.getD (m - 1) 0)) with
      | true =>
        dsimp only
        rw [if_pos rfl]
        exact k m p s2 a1 (by omega) hp a3 hJ2
      | false =>
        dsimp only
        rw [if_neg Bool.false_ne_true]
        have g : O.kle (kk ky p (m - 1)) (kk ky p 0) := e
        have eq : ∀ a b, a < m → b < m → O.kle (kk ky p a) (kk ky p b) := fun a b ha hb =>
          KeyOrd.kle_trans (a3 a (m - 1) (by omega) (by omega)) (KeyOrd.kle_trans g (a3 0 b (by omega) hb))
        refine descPart_ok ac (hp.rev 0 m) (by omega) (Nat.le_refl _) ?_ hJ2 k
        intro i j hij hj
        rw [kk_rev (by omega), kk_rev (by omega)]
        by_cases cj : j < m
        · rw [if_pos ⟨Nat.zero_le _, cj⟩, if_pos ⟨Nat.zero_le _, by omega⟩]
          exact eq _ _ (by omega) (by omega)
        · have ej : j = m := by omega
          subst ej
          rw [if_neg (by omega)]
          by_cases ci : i < j
          · rw [if_pos ⟨Nat.zero_le _, ci⟩]
            exact KeyOrd.kle_trans (KeyOrd.kle_of_klt lt) (eq _ _ (by omega) (by omega))
          · rw [if_neg (by omega)]
            have : i = j := by omega
            subst this
            exact KeyOrd.kle_refl _
    · rw [if_neg c1]
      have em : m = 1 := by omega
      subst em
      refine descPart_ok ac hp (by omega) (Nat.le_refl _) ?_ a5 k
      have f1 : Fal ky p 1 := fun i j hij hj => by
        have : i = j := by omega
        subst this
        exact KeyOrd.kle_refl _
      exact f1.succ (Nat.le_refl _) (KeyOrd.kle_of_klt lt)
theorem place_ok (ac : Asks O ky n cmp J) {p : Array Nat} (hp : Prm n p) {t : Nat} (ht : t < n) {R : Nat → Shared → Prop} : ∀ (f l r : Nat) (s : Shared), l ≤ r → r ≤ t → r - l ≤ f → (∀ i, i < l → O.kle (kk ky p i) (kk ky p t)) → (∀ i, r ≤ i → i < t → O.klt (kk ky p t) (kk ky p i)) →
    Srt ky p t → J s → (∀ l' s', l' ≤ t → (∀ i, i < l' → O.kle (kk ky p i) (kk ky p t)) → (∀ i, l' ≤ i → i < t → O.klt (kk ky p t) (kk ky p i)) → J s' → R l' s') → (kas_place p t f l r).kasWp cmp R s
  | 0, l, r, s, h1, h2, h3, h4, h5, _, hJ, k => k l s (by omega) h4 (fun i a b => h5 i (by omega) b) hJ
  | f + 1, l, r, s, h1, h2, h3, h4, h5, hs, hJ, k => by
    unfold kas_place
    by_cases c : l ≥ r
    · rw [if_pos c]
      exact k l s (by omega) h4 (fun i a b => h5 i (by omega) b) hJ
    · rw [if_neg c]
      refine ac _ _ _ s (hp.lt ht) (hp.lt (by omega)) hJ fun s' hJ' => ?_
      cases e : O.blt (ky (p.getD t 0)) (ky (p.getD ((l + r) / 2) 0)) with
      | true =>
        dsimp only
        rw [if_pos rfl]
        have g : O.klt (kk ky p t) (kk ky p ((l + r) / 2)) := e
        exact place_ok ac hp ht f l ((l + r) / 2) s' (by omega) (by omega) (by omega) h4 (fun i a b => KeyOrd.klt_of_klt_of_kle g (hs _ _ a b)) hs hJ' k
      | false =>
        dsimp only
        rw [if_neg Bool.false_ne_true]
        have g : O.kle (kk ky p ((l + r) / 2)) (kk ky p t) := e
        exact place_ok ac hp ht f ((l + r) / 2 + 1) r s' (by omega) h2 (by omega) (fun i a => KeyOrd.kle_trans (hs i ((l + r) / 2) (by omega) (by omega)) g) h5 hs hJ' k
theorem bin_ok (ac : Asks O ky n cmp J) {R : Array Nat → Shared → Prop} : ∀ (f : Nat) (p : Array Nat) (t : Nat) (s : Shared), Prm n p → t + f = n → Srt ky p t → J s → (∀ p' s', Prm n p' → Srt ky p' n → J s' → R p' s') → (kas_bin f p t).kasWp cmp R s
  | 0, p, t, s, hp, hz, hs, hJ, k => k p s hp (by have : t = n := by omega
                                                  subst this; exact hs) hJ
  | f + 1, p, t, s, hp, hz, hs, hJ, k => by
    have hsz := hp.size
    unfold kas_bin
    rw [KasT.kasWp_bind]
    refine place_ok ac hp (by omega) t 0 t s (Nat.zero_le _) (Nat.le_refl _) (by omega) (fun i h => absurd h (Nat.not_lt_zero _)) (fun i a b => absurd b (by omega)) hs hJ fun l s' a1 a2 a3 hJ' => ?_
    refine bin_ok ac f (bubble p t (t - l)) (t + 1) s' (hp.bub _ _) (by omega) ?_ hJ' k
    intro i j hij hj
    have el : t - (t - l) = l := by omega
    rw [kk_bub (by omega) (by omega), kk_bub (by omega) (by omega), el]
    by_cases ci : i = l
    · rw [if_pos ci]
      by_cases cj : j = l
      · rw [if_pos cj]
        exact KeyOrd.kle_refl _
      · rw [if_neg cj, if_pos ⟨by omega, by omega⟩]
        exact KeyOrd.kle_of_klt (a3 _ (by omega) (by omega))
    · rw [if_neg ci]
      by_cases ci2 : l < i ∧ i ≤ t
      · rw [if_pos ci2, if_neg (by omega), if_pos ⟨by omega, by omega⟩]
        exact hs _ _ (by omega) (by omega)
      · rw [if_neg ci2]
        by_cases cj : j = l
        · rw [if_pos cj]
          exact a2 _ (by omega)
        · rw [if_neg cj]
          by_cases cj2 : l < j ∧ j ≤ t
          · rw [if_pos cj2]
            exact hs _ _ (by omega) (by omega)
          · rw [if_neg cj2]
            exact hs _ _ hij (by omega)
theorem sort_ok (ac : Asks O ky n cmp J) {R : Array Nat → Shared → Prop} {s : Shared} (h1 : 1 ≤ n) (hJ : J s) (k : ∀ p s', Prm n p → Srt ky p n → J s' → R p s') : (kas_sort n).kasWp cmp R s := by
  unfold kas_sort
  rw [KasT.kasWp_bind]
  refine count_ok ac (List.Perm.refl _) h1 hJ fun m p s' a1 a2 a3 a4 a5 => ?_
  dsimp only
  by_cases c : m < n
  · rw [if_pos c]
    have e : max m 1 = m := by omega
    rw [e]
    exact bin_ok ac (n - m) p m s' a3 (by omega) a4 a5 k
  · rw [if_neg c]
    have e : m = n := by omega
    subst e
    exact k p s' a3 a4 a5
end
end L2
namespace L2
open PySem PySem.W PySem.Spec PyProof.Rows
theorem lex_dec : ∀ a b : List Int, HT.lexLt a b = decide (a < b)
  | [], [] => by simp [HT.lexLt]
  | [], _ :: _ => by simp [HT.lexLt]
  | _ :: _, [] => by simp [HT.lexLt]
  | x :: xs, y :: ys => by
    rw [HT.lexLt_cons, lex_dec xs ys]
    by_cases e : x = y
    · subst e
      rw [if_pos rfl]
      simp [List.cons_lt_cons_iff]
    · rw [if_neg e]
      simp [List.cons_lt_cons_iff, e]
def lexO : KeyOrd where
  α := List Int
  blt a b := HT.lexLt a b
  irrefl a := by rw [lex_dec]; simpa using List.lt_irrefl a
  trans a b c h1 h2 := by
    rw [lex_dec] at *
    simp only [decide_eq_true_eq] at *
    exact List.lt_trans h1 h2
  negTrans a b c h := by
    rw [lex_dec] at h
    rw [lex_dec, lex_dec]
    simp only [decide_eq_true_eq] at *
    by_cases hab : a < b
    · exact .inl hab
    · exact .inr (List.lt_of_le_of_lt (List.not_lt.mp hab) h)
  total a b h1 h2 := by
    rw [lex_dec] at *
    simp only [decide_eq_false_iff_not] at *
    exact List.le_antisymm (List.not_lt.mp h2) (List.not_lt.mp h1)
def IsRow (h : Heap) (v : Value) (ns : List Int) : Prop := ∃ a its, v = .ref a ∧ IsTup h a its ∧ IntsAre its.toList ns
section
variable {prog : Program} {w : World} {A : Around} {E : Value → Shared → Prop} {s : Shared} {Q : Bool → Shared → Prop}
theorem row_lex {fin bb : Bool} : ∀ {vs us : List Value} {ns ms : List Int} (i : Nat), IntsAre vs ns → IntsAre us ms → Q (HT.lexLt ns ms) s → fin = decide (vs.length < us.length) → KatLex prog w A bb fin Q (vs.zip us) i s
  | _, _, _, _, i, .nil, .nil, h, e => by
    refine kat_nil ?_
    rw [e]
    exact h
  | _, _, _, _, i, .nil, .cons _ _ _, h, e => by
    refine kat_nil ?_
    rw [e]
    simpa [HT.lexLt] using h
  | _, _, _, _, i, .cons _ _ _, .nil, h, e => by
    refine kat_nil ?_
    rw [e]
    simpa [HT.lexLt] using h
  | _, _, _, _, i, .cons (vs := vs) (ns := ns) x t hv, .cons (vs := us) (ns := ms) y u hu, h, e => by
    refine kat_cons (wpAny_eqBool_int (kat_go (fun c => ?_) (fun c => ?_)))
    · have xy : x = y := by simpa using c
      subst xy
      refine kat_yes (row_lex (i + 1) hv hu ?_ ?_)
      · simpa [HT.lexLt] using h
      · rw [e]
        simp
    · have xy : ¬ x = y := by simpa using c
      refine kat_no ?_
      have h' : Q (decide (x < y)) s := by simpa [HT.lexLt, xy] using h
      cases (bb && i == 0) with
      | true => exact oneLt_int h'
      | false => exact kat_one _ _ (lt_int h')
def RowKind (κ : SortKind) : Prop := (∃ b, κ = tuples' b) ∨ κ = general' ∨ κ = oneType'
theorem row_lt {κ : SortKind} {x y : Value} {ns ms : List Int} (hk : RowKind κ) (hx : IsRow s.heap x ns) (hy : IsRow s.heap y ms) (hu : A.units < cLine) (h : Q (HT.lexLt ns ms) s) : wpAny (model prog w) A (keyLt' κ x y) Q E s := by
  obtain ⟨a, its, rfl, ta, ia⟩ := hx
  obtain ⟨b, jts, rfl, tb, ib⟩ := hy
  rcases hk with ⟨bb, rfl⟩ | rfl | rfl
  · obtain ⟨o, ho, hc, n, hd⟩ := ta
    obtain ⟨o2, ho2, hc2, n2, hd2⟩ := tb
    exact kat_lt ho hd ho2 hd2 (row_lex 0 ia ib h (by simp))
  · exact kat_one _ _ (HT.lt_tupInts ta tb ia ib hu h)
  · rw [keyLt'_oneType, oneLt'_eq]
    simp only [if_true]
    refine wpAny_bind (wpAny_cRoomFor hu ?_)
    obtain ⟨⟨cls, dd, data, sl⟩, ho, hc, n, hd⟩ := id ta
    obtain ⟨⟨cls2, dd2, data2, sl2⟩, ho2, hc2, n2, hd2⟩ := id tb
    simp only at hc hd hc2 hd2
    subst hc hd hc2 hd2
    refine wpAny_bind (wpAny_callSpecialIfBound?_slot (T := "tuple") ⟨_, ho, rfl⟩ PySem.F.slot_tuple_lt (call_meets PySem.F.slot_tuple_lt ⟨_, ho, rfl⟩ PySem.F.entry_tuple_lt (PySem.F.args_tuple_lt_2 _ _) (HT.tuple_lt_ints a b its jts n n2 dd dd2 sl sl2 ns ms ia ib) ⟨ho, ho2, ?_⟩))
    exact wpAny_truthy_bool h
theorem ints_first : ∀ {l : List Value} {ns : List Int}, IntsAre l ns → ∀ {v : Value}, l[0]? = some v → ∃ n t, v = Value.int n t
  | _, _, .nil, v, e => by simp at e
  | _, _, .cons n t _, v, e => ⟨n, t, by simpa using e.symm⟩
theorem mapM_any {α β : Type} {f : α → Sem β} : ∀ (l : List α) {R : List β → Shared → Prop}, (∀ v ∈ l, ∀ (Q' : β → Shared → Prop), (∀ r, Q' r s) → wpAny (model prog w) A (f v) Q' E s) → (∀ rs, R rs s) → wpAny (model prog w) A (l.mapM f) R E s
  | [], _, _, h => by
    rw [List.mapM_nil]
    exact wpAny_pure (h [])
  | x :: l, R, hf, h => by
    rw [List.mapM_cons]
    exact wpAny_bind (hf x (.head _) _ fun r => wpAny_bind (mapM_any l (R := fun bs s' => wpAny (model prog w) A (pure (r :: bs)) R E s') (fun v hv => hf v (.tail _ hv)) fun rs => wpAny_pure (h _)))
theorem one_type {l : List Value} {R : Option Value → Shared → Prop} (hf : ∀ v ∈ l, ∀ (Q' : Value → Shared → Prop), (∀ r, Q' r s) → wpAny (model prog w) A (typeOf v) Q' E s) (h : ∀ r, R r s) : wpAny (model prog w) A (oneTypeOnly' l.toArray) R E s := by
  rw [oneTypeOnly'_eq, List.mapM_toArray, map_eq_pure_bind]
  refine wpAny_bind (wpAny_bind (mapM_any l hf fun rs => wpAny_pure ?_))
  cases rs.toArray[0]? with
  | none => exact wpAny_pure (h _)
  | some t => exact wpAny_pure (h _)
theorem row_firsts {rows : List (List Int)} : ∀ {vs : List Value}, Paired (IsRow s.heap) vs rows → ∀ {R : List (Option Value) → Shared → Prop}, (∀ fs, fs.length = vs.length → (∀ f ∈ fs, ∀ v, f = some v → ∃ n t, v = Value.int n t) → R fs s) →
    wpAny (model prog w) A (vs.mapM firstOfTuple') R E s := by
  intro vs hp
  induction hp with
  | nil =>
    intro R h
    rw [List.mapM_nil]
    exact wpAny_pure (h [] rfl (fun f m => nomatch m))
  | cons hx hr ih =>
    intro R h
    obtain ⟨a, its, rfl, ⟨o, ho, hc, n, hd⟩, ia⟩ := hx
    rw [List.mapM_cons]
    refine wpAny_bind ?_
    rw [kas_first_eq]
    refine wpAny_bind (Looks.here (show Looks (model prog w) s.heap (typeOf (.ref a)) o.cls from (Looks.ld ho).andThen .now) ?_)
    rw [hc, if_neg (by first | decide | simp)]
    refine wpAny_bind (listItems_at ho hd (wpAny_pure ?_))
    refine wpAny_bind (ih fun fs l1 l2 => wpAny_pure (h _ (by rw [List.length_cons, List.length_cons, l1]) fun f m v e => ?_))
    rcases List.mem_cons.mp m with m | m
    · subst m
      have e' : its.toList[0]? = some v := by simpa using e
      exact ints_first ia e'
    · exact l2 f m v e
theorem row_kind {vs : List Value} {rows : List (List Int)} (hp : Paired (IsRow s.heap) vs rows) {R : SortKind → Shared → Prop} (h : ∀ κ, RowKind κ → R κ s) : wpAny (model prog w) A (keyKind' vs.toArray) R E s := by
  rw [kat_kind_eq, List.mapM_toArray, map_eq_pure_bind]
  refine wpAny_bind (wpAny_bind (row_firsts hp fun fs l1 l2 => wpAny_pure ?_))
  by_cases c : (fs.toArray.all fun x => x.isSome) = true
  · rw [if_pos c]
    refine wpAny_bind (wpAny_rule ?_)
    have e : fs.toArray.filterMap id = (fs.filterMap id).toArray := by simp
    rw [e]
    refine wpAny_bind (one_type (fun v hv Q' hq => ?_) fun r => wpAny_pure (h _ (.inl ⟨_, rfl⟩)))
    obtain ⟨f, fm, fe⟩ := List.mem_filterMap.mp hv
    obtain ⟨n, t, rfl⟩ := l2 f fm v fe
    exact wpAny_of_eq (a := Value.type "int") rfl (hq _)
  · rw [if_neg c]
    by_cases c2 : (fs.toArray[0]?.bind id).isSome = true
    · rw [if_pos c2]
      exact wpAny_pure (h _ (.inr (.inl rfl)))
    · rw [if_neg c2]
      refine wpAny_bind (one_type (fun v hv Q' hq => ?_) fun r => ?_)
      · obtain ⟨ns, hr⟩ : ∃ ns, IsRow s.heap v ns := by
          clear l1 l2 c c2
          induction hp with
          | nil => cases hv
          | cons hx _ ih =>
            rcases List.mem_cons.mp hv with m | m
            · exact ⟨_, m ▸ hx⟩
            · exact ih m
        obtain ⟨a, its, rfl, ⟨o, ho, hc, n, hd⟩, ia⟩ := hr
        exact Looks.here (show Looks (model prog w) s.heap (typeOf (.ref a)) o.cls from (Looks.ld ho).andThen .now) (hq _)
      · cases r with
        | none => exact wpAny_pure (h _ (.inr (.inl rfl)))
        | some t => exact wpAny_pure (h _ (.inr (.inr rfl)))
theorem paired_at {α β : Type} {R : α → β → Prop} (d : α) (e : β) : ∀ {xs : List α} {ys : List β}, Paired R xs ys → ∀ i, i < xs.length → R (xs.getD i d) (ys.getD i e)
  | _, _, .nil, i, h => absurd h (Nat.not_lt_zero _)
  | _, _, .cons r _, 0, _ => r
  | _, _, .cons _ t, i + 1, h => paired_at d e t i (by simpa using h)
theorem map_range_getD (vs : List Value) : (List.range vs.length).map (fun i => vs.getD i Value.none) = vs := by
  apply List.ext_getElem
  · simp
  · intro i h1 h2
    simp [h2]
theorem IsRow.keep {h h' : Heap} {v : Value} {ns : List Int} (x : IsRow h v ns) (k : ∀ b o, o.cls = .type "tuple" → h.get? b = some o → h'.get? b = some o) : IsRow h' v ns := by
  obtain ⟨a, its, rfl, ⟨o, ho, hc, n, hd⟩, ia⟩ := x
  exact ⟨a, its, rfl, ⟨o, k a o hc ho, hc, n, hd⟩, ia⟩
theorem row_sort {a : Addr} {vs : List Value} {rows : List (List Int)} {n : Nat} {P : PySem.Fin → Shared → Prop} (ho : s.heap.get? a = some (seqObj "list" vs.toArray n)) (hp : Paired (IsRow s.heap) vs rows) (h64 : vs.length < 64) (hu : A.units < cLine)
    (h : ∀ p : Array Nat, Prm vs.length p → Srt (O := lexO) (fun i => rows.getD i []) p vs.length → P (.done (.ret .none)) { s with heap := sortedHeap s.heap a vs (List.toArray (p.toList.map fun i => vs.getD i Value.none)) }) :
    wpAny (model prog w) A (Builtin.«list.sort» ⟨[.ref a], []⟩) P E s := by
  rw [list_sort_plain]
  have ha : a < s.heap.objs.size := Heap.lt_size ho
  refine wpAny_bind (listItems_at ho rfl ?_)
  refine wpAny_bind (listUpdate_at ho rfl ?_)
  obtain ⟨e1, ho1⟩ : ∃ e1, (s.heap.update a (Obj.mapSeq fun _ => #[])).get? a = some (seqObj "list" #[] e1) := ⟨_, get?_update_seq ho (fun _ => #[])⟩
  refine wpAny_bind (seqEpoch_at ho1 rfl ?_)
  refine wpAny_bind (wpAny_newTuple ?_)
  refine wpAny_bind (wpAny_newList ?_)
  refine wpAny_holding ?_
  have ho6 : (((s.heap.update a (Obj.mapSeq fun _ => #[])).push (seqObj "tuple" vs.toArray 0)).push (seqObj "list" #[] 0)).get? a = some (seqObj "list" #[] e1) := by
    rw [Heap.get?_push_ne _ _ _ (by rw [size_push', Heap.size_update]; exact Nat.ne_of_lt (Nat.lt_succ_of_lt ha)), Heap.get?_push_ne _ _ _ (by rw [Heap.size_update]; exact Nat.ne_of_lt ha)]
    exact ho1
  have hp6 : Paired (IsRow (((s.heap.update a (Obj.mapSeq fun _ => #[])).push (seqObj "tuple" vs.toArray 0)).push (seqObj "list" #[] 0))) vs rows := Paired.mapP hp fun v ns x => x.keep fun b o hc e => by
    have hb : b ≠ a := fun z => by
      rw [z, ho] at e
      cases e
      exact absurd (show Value.type "list" = Value.type "tuple" from hc) (by decide)
    exact Heap.get?_push_of_some _ (Heap.get?_push_of_some _ ((Heap.get?_update_other _ _ (Ne.symm hb)).trans e))
  show wpAny (model prog w) A _ P E { s with heap := ((s.heap.update a (Obj.mapSeq fun _ => #[])).push (seqObj "tuple" vs.toArray 0)).push (seqObj "list" #[] 0) }
  dsimp only
  have hsz : vs.toArray.size = vs.length := by simp
  by_cases h2 : vs.toArray.size < 2
  · rw [if_pos h2, if_pos h2]
    refine wpAny_bind (wpAny_pure ?_)
    rw [StateT.run_pure]
    refine wpAny_bind (wpAny_pure ?_)
    dsimp only
    refine wpAny_bind (seqEpoch_at ho6 rfl ?_)
    refine wpAny_bind (listUpdate_at ho6 rfl ?_ (hsz2 := by rw [Array.size_map]; show (pairsOf vs).size ≤ _; rw [pairsOf_size, sizeLine_eq]; omega))
    simp only [bne_self_eq_false, Bool.false_eq_true, if_false]
    have hh := h (List.range vs.length).toArray (List.Perm.refl _) (fun i j hij hj => by
      have : i = j := by omega
      subst this
      exact KeyOrd.kle_refl _)
    rw [show (List.range vs.length).toArray.toList.map (fun i => vs.getD i Value.none) = vs from map_range_getD vs] at hh
    have e : (arrOf (SortSt.mk' general' (vs.toArray.zip vs.toArray) #[] 7 none)).map (·.2) = vs.toArray := by
      show (vs.toArray.zip vs.toArray).map (·.2) = vs.toArray
      apply Array.ext
      · simp
      · intro i h1 h2
        simp
    refine wpAny_pure ?_
    have hh' := hh
    rw [← e] at hh'
    exact hh'
  · rw [if_neg h2, if_neg h2]
    refine wpAny_bind (row_kind hp6 fun κ hκ => ?_)
    have ac : Asks lexO (fun i => rows.getD i []) vs.length (kas_ask prog w A κ vs) (fun s' => s' = { s with heap := ((s.heap.update a (Obj.mapSeq fun _ => #[])).push (seqObj "tuple" vs.toArray 0)).push (seqObj "list" #[] 0) }) := by
      intro i j C s' hi hj e k
      subst e
      exact row_lt hκ (paired_at Value.none [] hp6 i hi) (paired_at Value.none [] hp6 j hj) hu (k _ rfl)
    refine wpAny_bind (wpAny_mono (kat_run (ks := vs) (vs := vs) (Q := fun st' s' => ∃ p : Array Nat, arrOf st' = p.map (kas_item (vs.toArray.zip vs.toArray)) ∧ failedOf st' = none ∧ s' = { s with heap := ((s.heap.update a (Obj.mapSeq fun _ => #[])).push (seqObj "tuple" vs.toArray 0)).push (seqObj "list" #[] 0) } ∧ Prm vs.length p ∧ Srt (O := lexO) (fun i => rows.getD i []) p vs.length)
      (G := fun p s' => s' = { s with heap := ((s.heap.update a (Obj.mapSeq fun _ => #[])).push (seqObj "tuple" vs.toArray 0)).push (seqObj "list" #[] 0) } ∧ Prm vs.length p ∧ Srt (O := lexO) (fun i => rows.getD i []) p vs.length)
      rfl (by omega) h64 (fun p st' s' _ a2 a3 g => ⟨p, a2, a3, g⟩) (sort_ok ac (by omega) rfl fun p s' q1 q2 e => ⟨e, q1, q2⟩)) ?_ fun _ _ e => e)
    rintro ⟨⟨⟩, st'⟩ s' ⟨p, har, hf, rfl, q1, q2⟩
    dsimp only
    have hout := kat_snds rfl har
    refine wpAny_bind (seqEpoch_at ho6 rfl ?_)
    rw [hout]
    refine wpAny_bind (listUpdate_at ho6 rfl ?_ (hsz2 := by rw [List.size_toArray, List.length_map, Array.length_toList, q1.size, sizeLine_eq]; omega))
    rw [hf]
    simp only [bne_self_eq_false, Bool.false_eq_true, if_false]
    exact wpAny_pure (h p q1 q2)
end
section
variable {X : Cx}
theorem vals_refs : ∀ as : List Addr, Vals (as.map V.ref) (as.map Value.ref)
  | [] => .nil
  | a :: as => .cons rfl (vals_refs as)
end
end L2
namespace L2
open PySem PySem.W PySem.Spec PyProof.Rows
def RawAt (h : Heap) (d : Addr) (es : Array DictEntry) (ep : Nat) : Prop := ∃ o, h.get? d = some o ∧ o.ExactDict ∧ o.data = .dict es ep
theorem RawAt.at {h h' : Heap} {d : Addr} {es : Array DictEntry} {ep : Nat} (x : RawAt h d es ep) (e : ∀ o, h.get? d = some o → h'.get? d = some o) : RawAt h' d es ep := let ⟨o, ho, r⟩ := x; ⟨o, e _ ho, r⟩
theorem RawAt.lt {h : Heap} {d : Addr} {es : Array DictEntry} {ep : Nat} (x : RawAt h d es ep) : d < h.objs.size := let ⟨_, ho, _⟩ := x; Heap.lt_size ho
theorem RawAt.typeIs {s : Shared} {d : Addr} {es : Array DictEntry} {ep : Nat} (x : RawAt s.heap d es ep) : s.TypeIs (.ref d) "dict" := let ⟨o, ho, hc, _⟩ := x; ⟨o, ho, hc.1⟩
section
variable {prog : Program} {w : World} {A : Around} {E : Value → Shared → Prop} {s : Shared} {d : Addr} {es : Array DictEntry} {ep : Nat}
theorem raw_iter {Q : Value → Shared → Prop} (hd : (d == sysModules) = false) (hm : RawAt s.heap d es ep)
    (hQ : Q (.ref s.heap.objs.size) { s with heap := s.heap.push { cls := .type "dict_keyiterator", data := .fields #[.ref d, .int 0 0, .int es.size 0, .int ep 0] } }) : wpAny (model prog w) A (pyIter (.ref d)) Q E s := by
  have hT := hm.typeIs
  obtain ⟨o, ho, hc, hdat⟩ := id hm
  refine wpAny_pyIter_slot hT F.slot_dict_iter (wpAny_call_entry F.slot_dict_iter hT F.entry_dict_iter ?_ (F.args_dict_iter_1 _))
  unfold Builtin.«dict.__iter__»
  refine wpAny_bind ?_
  unfold Builtin.Dict.dictSlotNone
  refine wpAny_bind (wpAny_notOrdered_dict hT ?_)
  show wpAny _ _ (pure (Value.ref d)) _ _ s
  refine wpAny_pure ?_
  show wpAny _ _ (Builtin.Dict.showsAll d >>= _) _ _ s
  unfold Builtin.Dict.showsAll
  rw [if_neg (by rw [hd]; exact Bool.false_ne_true)]
  refine wpAny_bind (wpAny_pure ?_)
  refine wpAny_bind (wpAny_dictEntries ho hdat ?_)
  refine wpAny_bind (wpAny_dictEpoch ho hdat ?_)
  refine wpAny_bind (wpAny_newObj_type (wpAny_pure ⟨_, rfl, "dict_keyiterator", _, ⟨_, Heap.get?_push_size _ rfl, rfl⟩, F.slot_dict_keyiterator_next.lookup, ?_⟩))
  simpa [rawInt] using hQ
theorem raw_next {it : Addr} {i : Nat} {e : DictEntry} {Q : Option Value → Shared → Prop} (hit : s.heap.IsKeyIter it d i es.size ep) (hm : RawAt s.heap d es ep) (hx : es[i]? = some e)
    (hQ : ∀ h', h'.IsKeyIter it d (i + 1) es.size ep → Heap.SameBut it s.heap h' → Q (some e.key) { s with heap := h' }) : wpAny (model prog w) A (pyNext (.ref it)) Q E s := by
  obtain ⟨o, ho, hc, hd⟩ := id hit
  obtain ⟨od, hod, hcd, hdd⟩ := id hm
  unfold pyNext
  refine wpAny_bind (wpAny_attempt (wpAny_callSpecial?_slot (name := Str.ofString "__next__") hit.typeIs F.slot_dict_keyiterator_next
    (wpAny_call_entry F.slot_dict_keyiterator_next hit.typeIs F.entry_dict_keyiterator_next ?_ (F.args_dict_keyiterator_next_1 _))))
  refine wpAny_bind (wpAny_pure ?_)
  refine wpAny_bind ?_
  refine wpAny_bind ?_
  first | refine wpAny_bind (wpAny_typeNameOfWhole_keyiter hit.typeIs (wpAny_pure ?_)) | refine wpAny_bind (wpAny_typeNameOf_keyiter hit.typeIs (wpAny_pure ?_))
  refine wpAny_bind (wpAny_fieldsOf ho hd ?_)
  have hown : Builtin.Dict_items.ownsTuple "dict_keyiterator" = false := by decide
  simp only [hown, Bool.false_eq_true, if_false]
  show wpAny _ _ (if (Value.ref d == Value.none) = true then _ else _) _ _ s
  rw [if_neg (show ¬ ((Value.ref d == Value.none) = true) from Bool.false_ne_true)]
  refine wpAny_bind (wpAny_pure ?_)
  refine wpAny_bind (wpAny_dictEntries hod hdd ?_)
  rw [if_neg (by simp)]
  refine wpAny_bind (wpAny_pure ?_)
  refine wpAny_bind (wpAny_dictEpoch hod hdd ?_)
  rw [if_neg (by simp)]
  refine wpAny_pure ?_
  simp only [show ¬ ((i : Int) < 0) from by omega, if_false, Int.toNat_natCast, hx]
  refine wpAny_bind ?_
  first | refine wpAny_bind (wpAny_typeNameOfWhole_keyiter hit.typeIs (wpAny_pure ?_)) | refine wpAny_bind (wpAny_typeNameOf_keyiter hit.typeIs (wpAny_pure ?_))
  refine wpAny_bind (wpAny_isOneOf_keyiter hit.typeIs ?_)
  show wpAny _ _ (setField (.ref it) 1 (rawInt ((i : Int) + 1)) >>= _) _ _ s
  refine wpAny_bind (wpAny_setField ho hd (by simp) ?_)
  have hit' : (s.heap.update it (Obj.mapFields (·.setIfInBounds 1 (rawInt ((i : Int) + 1))))).IsKeyIter it d (i + 1) es.size ep :=
    ⟨_, Heap.get?_update_self _ ho (Obj.isFreed_of_fields (Obj.data_mapFields hd _)), (Obj.cls_mapFields ..).trans hc, by rw [Obj.data_mapFields hd]; simp [rawInt]⟩
  refine wpAny_bind (wpAny_holding ?_)
  refine wpAny_bind (wpAny_isOneOf_keyiter (s := { s with heap := s.heap.update it (Obj.mapFields (·.setIfInBounds 1 (rawInt ((i : Int) + 1)))) }) hit'.typeIs ?_)
  show wpAny _ _ (pure e.key) _ _ _
  exact wpAny_pure (wpAny_pure ⟨_, rfl, wpAny_pure (hQ _ hit' (Heap.SameBut.update ..))⟩)
theorem raw_end {it : Addr} {i : Nat} {Q : Option Value → Shared → Prop} (hh : A.handled = none) (hit : s.heap.IsKeyIter it d i es.size ep) (hm : RawAt s.heap d es ep) (hx : es.size ≤ i)
    (hQ : ∀ h', Heap.ExtBut it s.heap h' → Q none { s with heap := h' }) : wpAny (model prog w) A (pyNext (.ref it)) Q E s := by
  obtain ⟨o, ho, hc, hd⟩ := id hit
  obtain ⟨od, hod, hcd, hdd⟩ := id hm
  unfold pyNext
  refine wpAny_bind (wpAny_attempt (wpAny_callSpecial?_slot (name := Str.ofString "__next__") hit.typeIs F.slot_dict_keyiterator_next
    (wpAny_call_entry F.slot_dict_keyiterator_next hit.typeIs F.entry_dict_keyiterator_next ?_ (F.args_dict_keyiterator_next_1 _))))
  refine wpAny_bind (wpAny_pure ?_)
  refine wpAny_bind ?_
  refine wpAny_bind ?_
  first | refine wpAny_bind (wpAny_typeNameOfWhole_keyiter hit.typeIs (wpAny_pure ?_)) | refine wpAny_bind (wpAny_typeNameOf_keyiter hit.typeIs (wpAny_pure ?_))
  refine wpAny_bind (wpAny_fieldsOf ho hd ?_)
  have hown : Builtin.Dict_items.ownsTuple "dict_keyiterator" = false := by decide
  simp only [hown, Bool.false_eq_true, if_false]
  show wpAny _ _ (if (Value.ref d == Value.none) = true then _ else _) _ _ s
  rw [if_neg (show ¬ ((Value.ref d == Value.none) = true) from Bool.false_ne_true)]
  refine wpAny_bind (wpAny_pure ?_)
  refine wpAny_bind (wpAny_dictEntries hod hdd ?_)
  rw [if_neg (by simp)]
  refine wpAny_bind (wpAny_pure ?_)
  refine wpAny_bind (wpAny_dictEpoch hod hdd ?_)
  rw [if_neg (by simp)]
  refine wpAny_pure ?_
  simp only [show ¬ ((i : Int) < 0) from by omega, if_false, Int.toNat_natCast, Array.getElem?_eq_none hx]
  refine wpAny_bind ?_
  first | refine wpAny_bind (wpAny_typeNameOfWhole_keyiter hit.typeIs (wpAny_pure ?_)) | refine wpAny_bind (wpAny_typeNameOf_keyiter hit.typeIs (wpAny_pure ?_))
  show wpAny _ _ (setField (.ref it) 0 .none >>= _) _ _ s
  refine wpAny_bind (wpAny_setField ho hd (by simp) ?_)
  show wpAny _ _ (newExc (.type "StopIteration") [] >>= _) _ _ _
  refine wpAny_bind ?_
  simp only [newExc, newTuple]
  refine wpAny_bind (wpAny_newObj_type ?_ (by size_fits))
  refine wpAny_bind (m := firstArgMember _ _) (wpAny_of_eq (a := Value.none) (by first | rfl | (simp only [firstArgMember]; rfl)) ?_)
  refine wpAny_newObj_type ?_ (by size_fits)
  simp only [raiseNew]
  refine wpAny_bind (wpAny_handled ?_)
  rw [show A.in1.handled = none from hh]
  refine wpAny_bind (wpAny_pure (wpAny_throw ?_))
  refine wpAny_bind (wpAny_isInstance (T := "StopIteration") (b := true) ⟨_, Heap.get?_push_size _ rfl, rfl⟩ isSubtype_stop ?_)
  exact wpAny_pure (hQ _ (((Heap.SameBut.update ..).extBut.push _).push _))
theorem raw_walks (hh : A.handled = none) (I : Addr) (hne : d ≠ I) : Walks prog w A I [I, d] [I] es.size (fun i v => ∃ e, es[i]? = some e ∧ v = e.key) (fun i h => h.IsKeyIter I d i es.size ep ∧ RawAt h d es ep) where
  sub := fun b hb => by simp at hb; simp [hb]
  frame := fun _ _ _ st hk => ⟨st.1.at fun o e => hk I (by simp) o e, st.2.at fun o e => hk d (by simp) o e⟩
  item := fun i s Q E hi st hQ => by
    obtain ⟨e, hx⟩ : ∃ e, es[i]? = some e := ⟨es[i], by simp [hi]⟩
    refine raw_next st.1 st.2 hx fun h' hit' hs' => ?_
    exact hQ e.key h' s.toks ⟨e, hx, rfl⟩ ⟨hit', st.2.at fun o q => hs'.extBut d o hne q⟩ fun b o hb q => hs'.extBut b o (fun h => hb (by simp [h])) q
  done := fun s Q E st hQ => raw_end hh st.1 st.2 (Nat.le_refl _) fun h' he' => hQ h' s.toks fun b o hb q => he' b o (fun h => hb (by simp [h])) q
  self := fun _ _ _ _ st hQ => wpAny_pyIter_keyiter st.1 hQ
theorem raw_src (lo : (d == sysModules) = false) : KdlSrc prog w "dict" d d es.size (fun i v => ∃ e, es[i]? = some e ∧ v = e.key) (fun h => RawAt h d es ep) where
  type := fun _ hm => hm.typeIs
  there := fun _ hm => ⟨hm.lt, hm.lt⟩
  keep := fun _ _ hm hk => hm.at fun o e => hk d (.inl rfl) o e
  notList := by decide
  notTuple := by decide
  hint := fun _ _ _ _ hm hq => kdl_hint_dict hm.typeIs hq
  iter := fun _ s hh hm => ⟨_, _, (fun _ _ hq => raw_iter lo hm hq), raw_walks hh _ (Nat.ne_of_lt hm.lt), ⟨⟨_, Heap.get?_push_size _ rfl, rfl, rfl⟩, hm.at fun o e => Heap.get?_push_of_some _ e⟩⟩
theorem raw_keys {acc : Array Value} (h : ItemsOf (fun i v => ∃ e, es[i]? = some e ∧ v = e.key) acc es.size) : acc = es.map (·.key) := by
  obtain ⟨h1, h2⟩ := h
  apply Array.ext
  · simpa using h1
  · intro i hi hj
    obtain ⟨e, he, hk⟩ := h2 i acc[i] (by simp [hi])
    have hi' : i < es.size := by omega
    rw [Array.getElem?_eq_getElem hi'] at he
    rw [hk, Array.getElem_map, Option.some.inj he]
theorem raw_collect {R : List Value → Shared → Prop} (lo : (d == sysModules) = false) (hm : RawAt s.heap d es ep) (hh : A.handled = none) (hn : es.size ≤ sizeLine)
    (h : ∀ (h' : Heap) (tk : Nat), (∀ b o, s.heap.get? b = some o → h'.get? b = some o) → s.heap.objs.size < h'.objs.size → R (es.toList.map (·.key)) { s with heap := h', toks := tk }) :
    wpAny (model prog w) A (collect (.ref d)) R E s := by
  have hlt := hm.lt
  unfold collect
  refine wpAny_bind (wpAny_runValue (codeAny_builtin entry_proto_collect' ?_))
  rw [Around.under_plainId PySem.F.plain_proto_collect _]
  show wpAny _ A.in1 (newList [] >>= fun l => again (.builtin "list.__iadd__" ⟨[l, .ref d], []⟩)) _ _ s
  refine wpAny_bind (wpAny_newObj_type ?_)
  refine wpAny_pure ⟨plainId_quiet PySem.F.plain_list_iadd _, codeAny_builtin entry_list_iadd' ?_⟩
  rw [Around.under_plainId PySem.F.plain_list_iadd _]
  have hS₁ : (s.heap.push { cls := .type "list", data := .seq ([] : List Value).toArray }).get? s.heap.objs.size = some { cls := .type "list", data := .seq #[] } := Heap.get?_push_size _ rfl
  show wpAny _ A.in1 (Builtin.List.listExtendWith (.ref s.heap.objs.size) (.ref d) (.ref s.heap.objs.size)) _ _ _
  have key := kdl_extend (A := A) (s := { s with heap := s.heap.push { cls := .type "list", data := .seq ([] : List Value).toArray } })
    (R := fun (q : Result) (s' : Shared) => ∃ (h' : Heap) (tk c' : Nat), q = .ok (.ret (.ref s.heap.objs.size)) ∧ s' = { s with heap := h', toks := tk } ∧
      (∀ b o, s.heap.get? b = some o → h'.get? b = some o) ∧ h'.get? s.heap.objs.size = some { cls := .type "list", dict := none, data := .seq (es.map (·.key)) c', slots := #[] })
    (raw_src (prog := prog) (w := w) (es := es) (ep := ep) lo) hh (hm.at fun o e => Heap.get?_push_of_some _ e) s.heap.objs.size (Nat.ne_of_gt hlt) (Nat.ne_of_gt hlt) (.ref s.heap.objs.size) 0 hS₁
    (fun h' tk acc' c' hk hS' hacc => ⟨h', tk, c', rfl, rfl, fun b o e => hk b o (Nat.ne_of_lt (Heap.lt_size e)) (Heap.get?_push_of_some _ e), by rw [← raw_keys hacc]; exact hS'⟩) hn
  refine wpAny_mono key (fun fin s' x => ?_) fun e s' x => ?_
  · cases fin with
    | done f =>
      obtain ⟨h', tk, c', e, rfl, hk, hS'⟩ := x
      cases e
      show wpAny _ A (load s.heap.objs.size >>= _) _ _ _
      refine wpAny_bind (wpAny_load hS' ?_)
      have := h h' tk hk (Heap.lt_size hS')
      rw [← Array.toList_map] at this
      exact wpAny_pure this
    | again c₁ =>
      refine ⟨x.1, codeAny_mono x.2 fun q s₂ y => ?_⟩
      obtain ⟨h', tk, c', rfl, rfl, hk, hS'⟩ := y
      show wpAny _ A (load s.heap.objs.size >>= _) _ _ _
      refine wpAny_bind (wpAny_load hS' ?_)
      have := h h' tk hk (Heap.lt_size hS')
      rw [← Array.toList_map] at this
      exact wpAny_pure this
  · obtain ⟨_, _, _, e', _⟩ := x
    cases e'
theorem sorted_keys {vs : List Value} (lo : (d == sysModules) = false) (hm : RawAt s.heap d es ep) (hz : es.size < 64) (hh : A.handled = none) (hv : es.toList.map (·.key) = vs) {R : Value → Shared → Prop}
    (h : ∀ (h' : Heap) (tk : Nat) (a : Addr), (∀ b o, s.heap.get? b = some o → h'.get? b = some o ∧ b ≠ a) → s.heap.objs.size ≤ a → h'.get? a = some (seqObj "list" vs.toArray 0) →
      wpAny (model prog w) A.in1.in1 (Builtin.«list.sort» ⟨[.ref a], []⟩) (fun fin s' => ∃ v, fin = .done (.ret v) ∧ R (.ref a) s') E { s with heap := h', toks := tk }) :
    wpAny (model prog w) A (call (.builtin "sorted") [.ref d]) R E s := by
  refine Calls.call_function_entry kind_sorted plain_sorted entry_sorted (args_sorted1 _) ?_
  unfold Builtin.«sorted»
  refine wpAny_bind (m := checkCount "sorted" 1 1 _) (wpAny_pure ?_)
  refine wpAny_bind (raw_collect (A := A.in1) lo hm hh (by rw [sizeLine_eq]; omega) fun h' tk hk ge => ?_)
  rw [hv]
  have hl : vs.length < 64 := by rw [← hv, List.length_map, Array.length_toList]; exact hz
  refine wpAny_bind (wpAny_newList ?_ (by rw [sizeLine_eq]; omega))
  have ho : (h'.push (seqObj "list" vs.toArray 0)).get? h'.objs.size = some (seqObj "list" vs.toArray 0) := Heap.get?_push_size _ rfl
  refine wpAny_bind (wpAny_holding (wpAny_call_entry slot_list_sort ⟨_, ho, rfl⟩ entry_list_sort ?_ (args_list_sort _)))
  refine wpAny_mono (h _ tk h'.objs.size (fun b o e => ⟨Heap.get?_push_of_some _ (hk b o e), Nat.ne_of_lt (Heap.lt_size (hk b o e))⟩) (Nat.le_of_lt ge) ho) (fun fin s' x => ?_) fun _ _ x => x
  obtain ⟨v, rfl, q⟩ := x
  exact ⟨_, rfl, wpAny_pure ⟨_, rfl, q⟩⟩
end
section
variable {X : Cx}
theorem kt_rows {H : Hp} : ∀ {kvs : List (List Key × V)} {xs : List (List Key × Addr × Value)} {ks : List (List Int)}, KT H kvs xs → kvs.map (·.1) = ks.map (List.map Sum.inl) →
    ∃ qs : List (Addr × List Int), xs.map (fun x => Value.ref x.2.1) = (qs.map (·.1)).map Value.ref ∧ qs.map (·.2) = ks ∧ ∀ q ∈ qs, H q.1 = some (.tup (q.2.map V.int)) := by
  intro kvs xs ks r
  induction r generalizing ks with
  | nil =>
    intro e
    cases ks with
    | nil => exact ⟨[], rfl, rfl, fun _ m => nomatch m⟩
    | cons _ _ => cases e
  | @cons p q ps qr hq t ih =>
    intro e
    cases ks with
    | nil => cases e
    | cons k ks =>
      injection e with e1 e2
      obtain ⟨qs, a1, a2, a3⟩ := ih e2
      refine ⟨(q.2.1, k) :: qs, ?_, ?_, fun x m => ?_⟩
      · rw [List.map_cons, a1]
        rfl
      · rw [List.map_cons, a2]
      · rcases List.mem_cons.mp m with m | m
        · subst m
          have h := hq.2.1
          have e1' : p.1 = k.map Sum.inl := e1
          rw [e1', List.map_map] at h
          exact h
        · exact a3 x m
theorem call_sortedDT (hc : X.calm = true) (hu : X.A.units + 64 < cLine) : CallR X (.builtin "sorted") (fun xs H Q => ∃ (d : Addr) (kvs : List (List Key × V)) (ks : List (List Int)), xs = [.ref d] ∧ Rd H d (.dT kvs) ∧ kvs.map (·.1) = ks.map (List.map Sum.inl) ∧ ks.length < 64 ∧
    ∀ (l : Addr) (rs : List (Addr × List Int)), (∀ q ∈ rs, H q.1 = some (.tup (q.2.map V.int))) → (rs.map (·.2)).Perm ks → rs.Pairwise (fun x y => HT.lexLt y.2 x.2 = false) → H l = none → Q (.ref l) (upd H l (.lst (rs.map fun q => V.ref q.1)))) := by
  intro pins s σ H xs us Q I r h
  obtain ⟨d, kvs, ks, rfl, hd, hks, h64, q⟩ := h
  obtain ⟨u, rfl, rx⟩ := vals1 r
  cases rx
  obtain ⟨_, lo, xs, kt, o, es, ep, h1, h2, h3, h4, _, _⟩ := dt_rd I.hok hd
  obtain ⟨qs, b1, b2, b3⟩ := kt_rows kt hks
  have hv : es.toList.map (·.key) = (qs.map (·.1)).map Value.ref := by
    rw [h4, List.map_map, ← b1]
    rfl
  have hql : qs.length = ks.length := by rw [← b2, List.length_map]
  have hes : es.size = qs.length := by
    have := congrArg List.length hv
    simpa using this
  have hp : Paired (IsRow s.heap) ((qs.map (·.1)).map Value.ref) (qs.map (·.2)) := by
    clear hv hql hes b1 b2
    induction qs with
    | nil => exact .nil
    | cons q0 qr ih =>
      refine .cons ?_ (ih fun q m => b3 q (List.mem_cons_of_mem _ m))
      obtain ⟨jts, rj, tj, _⟩ := I.tuple (SqT.of (b3 q0 (List.mem_cons_self ..)))
      exact ⟨q0.1, jts.toArray, rfl, tj, by simpa using intsAre_of rj⟩
  refine sorted_keys lo ⟨o, h1, h2, h3⟩ (by omega) (I.ok.hd hc) hv fun h' tk a kp ge ho => ?_
  have hp' : Paired (IsRow h') ((qs.map (·.1)).map Value.ref) (qs.map (·.2)) := Paired.mapP hp fun v ns x => x.keep fun b o _ e => (kp b o e).1
  have ll : ((qs.map (·.1)).map Value.ref).length = qs.length := by rw [List.length_map, List.length_map]
  refine row_sort (s := { s with heap := h', toks := tk }) ho hp' (by omega) (by show X.A.units + 1 + 1 < cLine; omega) fun p a1 a2 => ⟨_, rfl, ?_⟩
  obtain ⟨e, he⟩ := sortedHeap_at (out := List.toArray (p.toList.map fun i => ((qs.map (·.1)).map Value.ref).getD i Value.none)) ho
  have hfr : H a = none := I.hok.fresh ge
  have hps := a1.size
  have lt : ∀ i ∈ p.toList, i < qs.length := fun i m => by
    have := List.mem_range.mp (a1.mem_iff.mp m)
    omega
  let rs := p.toList.map fun i => qs.getD i (0, [])
  have eo : (p.toList.map fun i => ((qs.map (·.1)).map Value.ref).getD i Value.none) = (rs.map (·.1)).map Value.ref := by
    show _ = ((p.toList.map fun i => qs.getD i (0, [])).map (·.1)).map Value.ref
    simp only [List.map_map]
    refine List.map_congr_left fun i m => ?_
    have hi := lt i m
    simp [hi]
  rw [eo] at he ⊢
  have pm : rs.Perm qs := by
    have e1 : (List.range ((qs.map (·.1)).map Value.ref).length).map (fun i => qs.getD i ((0 : Addr), ([] : List Int))) = qs := by
      rw [ll]
      apply List.ext_getElem
      · simp
      · intro i h1 h2
        simp [h2]
    have := List.Perm.map (fun i => qs.getD i ((0 : Addr), ([] : List Int))) a1
    rw [e1] at this
    exact this
  refine ⟨.ref _, _, I.laid (t' := tk) (fun b o hb => ?_) ge (show ObjOk X.prog X.w _ _ _ (.lst (rs.map fun q => V.ref q.1)) from ⟨?_, (rs.map (·.1)).map Value.ref, e, ?_, he⟩), rfl, q _ rs (fun q m => b3 q (pm.mem_iff.mp m)) (by rw [← b2]; exact pm.map _) ?_ hfr⟩
  · obtain ⟨k1, k2⟩ := kp b o hb
    rw [sortedHeap_old k2 (Heap.lt_size k1)]
    exact k1
  · rw [List.length_map, pm.length_eq, sizeLine_eq]
    omega
  · have := vals_refs (rs.map (·.1))
    rw [List.map_map] at this
    exact this
  · rw [List.pairwise_iff_getElem]
    intro i j hi hj hij
    have hi' : i < p.size := by simpa [rs] using hi
    have hj' : j < p.size := by simpa [rs] using hj
    have g := a2 i j (by omega) (by omega)
    have gi : (qs.map (·.2)).getD (p.getD i 0) [] = (rs[i]).2 := by
      have l1 := lt p[i] (by simp)
      simp [rs, Array.getD, hi', l1]
    have gj : (qs.map (·.2)).getD (p.getD j 0) [] = (rs[j]).2 := by
      have l1 := lt p[j] (by simp)
      simp [rs, Array.getD, hj', l1]
    have g2 : HT.lexLt ((qs.map (·.2)).getD (p.getD j 0) []) ((qs.map (·.2)).getD (p.getD i 0) []) = false := g
    rw [gi, gj] at g2
    exact g2
end
end L2
namespace L2
open PySem PySem.Spec PyProof.Rows
section
variable {X : Cx} {pins : List (Addr × Obj)} {σ : St} {H : Hp} {s : Shared} {h' : Heap}
end
section
variable {X : Cx}
end
section
variable {X : Cx}
theorem vals_bools : ∀ {bs : List Bool} {us : List Value}, Vals (bs.map V.bl) us → us = bs.map Value.bool
  | [], _, .nil => rfl
  | _ :: _, _, .cons r rr => by
    cases r
    rw [vals_bools rr]
    rfl
theorem any_range (bs : List Bool) : (List.range bs.length).any (fun i => bs.getD i false) = bs.any id := by
  rw [Bool.eq_iff_iff, List.any_eq_true, List.any_eq_true]
  constructor
  · rintro ⟨i, hi, h⟩
    have hi' := List.mem_range.mp hi
    exact ⟨_, List.getElem_mem hi', by simpa [List.getD_eq_getElem?_getD, hi'] using h⟩
  · rintro ⟨b, hb, h⟩
    obtain ⟨i, hi, rfl⟩ := List.mem_iff_getElem.mp hb
    exact ⟨i, List.mem_range.mpr hi, by simpa [List.getD_eq_getElem?_getD, hi] using h⟩
theorem truth_bools {P : Program} {w : World} {A : Around} {bs : List Bool} : TruthOf P w A (fun i v => (bs.map Value.bool).toArray[i]? = some v) (fun i => bs.getD i false) := by
  intro i v s Q E hP hQ
  have hP' : (bs.map Value.bool)[i]? = some v := by simpa using hP
  rw [List.getElem?_map] at hP'
  cases e : bs[i]? with
  | none => rw [e] at hP'; cases hP'
  | some b =>
    rw [e] at hP'
    have : Value.bool b = v := Option.some.inj hP'
    subst this
    refine wpAny_truthy_bool ?_
    have e2 : bs.getD i false = b := by rw [List.getD_eq_getElem?_getD, e]; rfl
    dsimp only at hQ
    rw [e2] at hQ
    exact hQ
theorem call_any (hc : X.calm = true) {K : PySem.W.Frag} (hK : X.K = K := by rfl) : CallR X (.builtin "any") (fun xs H Q => ∃ (a : Addr) (bs : List Bool), xs = [.ref a] ∧ SqL K H a (bs.map V.bl) ∧ Q (.bl (bs.any id)) H) := by
  subst hK
  intro pins s σ H xs us Q I r h
  obtain ⟨a, bs, rfl, hq, q⟩ := h
  obtain ⟨u, rfl, rx⟩ := vals1 r
  cases rx
  obtain ⟨its, rv, pl, hz⟩ := I.list hq
  have ei := vals_bools rv
  subst ei
  have lt : a < s.heap.objs.size := by obtain ⟨o, q, _⟩ := pl.isList; exact Heap.lt_size q
  refine call_any_walk (wpAny_pyIter_list pl.isList ?_)
  refine ⟨_, _, _, _, _, _, _, rfl, Walks.list (A := X.A.in1) (I.ok.hd hc) s.heap.objs.size a (Nat.ne_of_lt lt) (bs.map Value.bool).toArray, ⟨⟨_, Heap.get?_push_size _ rfl, rfl, rfl⟩, pl.isList.at fun o q => Heap.get?_push_of_some _ q⟩, truth_bools, fun h' tk hk => ?_⟩
  rw [List.size_toArray, List.length_map, any_range]
  exact ⟨.bl _, H, I.kept (t' := tk) fun b o q => hk b o (by simpa using Nat.ne_of_lt (Heap.lt_size q)) (Heap.get?_push_of_some _ q), rfl, q⟩
end
end L2
namespace L2
open PySem PySem.Spec PyProof.Rows
structure CompNs (N Nc : List Str) (xs : List Str) (sc fsc : Scope) : Prop where
  kind : sc.kind = .function
  cell : ∀ y ∈ sc.names, y.2 ≠ .cell
  nm : ∀ y ∈ sc.names, y.2 = .local → sc.names.lookup y.1 = some .local
  own : ∀ x ∈ xs, sc.names.lookup x = some .local
  fr : ∀ y ∈ sc.names, y.2 = .free → fsc.names.lookup y.1 = some .cell ∨ fsc.names.lookup y.1 = some .free
  len : Nc.length = N.length + xs.length
  nd : Nc.Nodup
  last : Nc.drop N.length = xs
  slot : ((List.range N.length).all fun i => match Nc[i]? with
    | some y => (match sc.names.lookup y with | some .free => N[i]? == some y | some .local => false | some .cell => false | _ => true)
    | none => true) = true
theorem CompNs.at {N Nc : List Str} {xs : List Str} {sc fsc : Scope} (C : CompNs N Nc xs sc fsc) {i : Nat} {y : Str} (hi : i < N.length) (h : Nc[i]? = some y) : sc.names.lookup y ≠ some .local ∧ sc.names.lookup y ≠ some .cell ∧ (sc.names.lookup y = some .free → N[i]? = some y) := by
  have q := List.all_eq_true.mp C.slot i (List.mem_range.mpr hi)
  rw [h] at q
  dsimp only at q
  cases e : sc.names.lookup y with
  | none => exact ⟨fun z => (nomatch z), fun z => (nomatch z), fun z => (nomatch z)⟩
  | some k =>
    rw [e] at q
    cases k with
    | «local» => exact absurd (show false = true from q) Bool.false_ne_true
    | cell => exact absurd (show false = true from q) Bool.false_ne_true
    | free => exact ⟨fun z => (nomatch z), fun z => (nomatch z), fun _ => by simpa using q⟩
    | _ => exact ⟨fun z => (nomatch z), fun z => (nomatch z), fun z => (nomatch z)⟩
section
variable {X : Cx} {elt iter : Expr} {xs : List Str} {tg : Expr} {g : TG} {pos : Pos} {ifs : List Expr} {sc fsc : Scope} {N Nc : List Str} {wi : TI} {tt : TT} {te : TE}
end
section
variable {X : Cx} {elt iter : Expr} {x1 x2 x3 : Str} {p1 p2 p3 pt pos : Pos} {k : Nat} {ifs : List Expr} {sc fsc : Scope} {N Nc : List Str} {wi : TI} {tt : TT} {te : TE}
end
end L2
namespace L2
open PySem PySem.Spec PyProof.Rows
section
variable {X : Cx}
end
section
variable {X : Cx}
end
theorem eqv_ints : ∀ ns ms : List Int, PyData.eqvAll (ns.map .int) (ms.map .int) = decide (ns = ms)
  | [], [] => rfl
  | [], _ :: _ => rfl
  | _ :: _, [] => rfl
  | n :: ns, m :: ms => by
    show ((n == m) && PyData.eqvAll (ns.map .int) (ms.map .int)) = _
    rw [eqv_ints ns ms]
    by_cases h : n = m
    · by_cases k : ns = ms
      · subst h; subst k; simp
      · simp [h, k]
    · simp [h]
theorem lay_ints : ∀ ns : List Int, PyData.canLayAll0 (ns.map .int) = true ∧ PyData.depthAll (ns.map .int) ≤ 0
  | [] => ⟨rfl, Nat.le_refl _⟩
  | n :: ns => by
    obtain ⟨h1, h2⟩ := lay_ints ns
    refine ⟨?_, ?_⟩
    · show (true && PyData.canLayAll0 (ns.map .int)) = true
      rw [h1]; rfl
    · show max 0 (PyData.depthAll (ns.map .int)) ≤ 0
      omega
theorem shape_ints (ns : List Int) : SeqAt.shaped (.tuple (ns.map .int)) = true ∧ SeqAt.shaped (.list (ns.map .int)) = true := by
  obtain ⟨h1, h2⟩ := lay_ints ns
  constructor
  · unfold SeqAt.shaped
    rw [Bool.and_eq_true]
    refine ⟨h1, decide_eq_true ?_⟩
    show PyData.depthAll (ns.map .int) + 1 ≤ 64
    omega
  · unfold SeqAt.shaped
    rw [Bool.and_eq_true]
    refine ⟨h1, decide_eq_true ?_⟩
    show PyData.depthAll (ns.map .int) + 1 ≤ 64
    omega
section
variable {X : Cx}
end
end L2
namespace L2
open PySem PySem.Spec PyProof.Rows
namespace CutT
open HT
section
variable {prog : Program} {w : World} {A : Around} {E : Value → Shared → Prop} {s : Shared}
theorem exact_tup {t : Addr} {items : Array Value} {Q : Bool → Shared → Prop} (ht : IsTup s.heap t items) (h : Q true s) : wpAny (model prog w) A (Builtin.Tuple.tupleIsExact (.ref t)) Q E s := by
  unfold Builtin.Tuple.tupleIsExact
  exact wpAny_bind (wpAny_typeOf ht.typeIs (wpAny_pure h))
theorem whole {t sl : Addr} {items : Array Value} {vl vu : Value} {lo hi : Option Int} {Q : Value → Shared → Prop} (ht : IsTup s.heap t items) (hs : s.heap.IsSliceOf sl vl vu .none) (pl : IsPart vl lo) (pu : IsPart vu hi)
    (hw : sIx items.size 0 lo = 0 ∧ sIx items.size items.size hi = items.size) (h : Q (.ref t) s) : wpAny (model prog w) A (getItem (.ref t) (.ref sl)) Q E s := by
  obtain ⟨os, hos, hcs, hds⟩ := id hs
  have hTs : s.TypeIs (.ref sl) "slice" := ⟨os, hos, hcs⟩
  unfold getItem
  try with_reducible refine wpAny_holding ?_
  first | refine wpAny_bind (wpAny_pure ?_) | skip
  refine wpAny_bind (wpAny_sequenceKey ht.typeIs (by decide) ?_)
  refine wpAny_bind (wpAny_callSpecial?_slot (name := Str.ofString "__getitem__") ht.typeIs PyProof.Rows.slot_tuple_getitem
    (wpAny_call_entry PyProof.Rows.slot_tuple_getitem ht.typeIs entry_tuple_getitem ?_ (args_tuple_getitem _ _)))
  show wpAny _ _ (Builtin.Tuple.tupleItemsOf (.ref t) >>= _) _ _ s
  refine wpAny_bind (tupleItemsOf_ ht ?_)
  refine wpAny_bind (wpAny_typeOf hTs ?_)
  rw [if_pos (by decide)]
  refine wpAny_bind (sliceApplied_gen hs pl pu ?_)
  have hyes : (((sIx items.size 0 lo : Nat) : Int) == 0 && (1 : Int) == 1 && (sIx items.size items.size hi - sIx items.size 0 lo) == items.size) = true := by
    rw [hw.1, hw.2]
    simp
  show wpAny _ _ (if (((sIx items.size 0 lo : Nat) : Int) == 0 && (1 : Int) == 1 && (sIx items.size items.size hi - sIx items.size 0 lo) == items.size) = true then _ else _) _ _ s
  rw [if_pos hyes]
  refine wpAny_bind (exact_tup ht ?_)
  rw [if_pos rfl]
  first
    | exact wpAny_bind (wpAny_rule (wpAny_bind (m := ret (.ref t)) (wpAny_pure (wpAny_pure ⟨_, rfl, wpAny_pure h⟩))))
    | exact wpAny_bind (wpAny_rule (wpAny_pure ⟨_, rfl, wpAny_pure h⟩))
    | exact wpAny_bind (wpAny_bind (wpAny_rule (wpAny_pure (wpAny_pure ⟨_, rfl, wpAny_pure h⟩))))
    | exact wpAny_bind (wpAny_rule (wpAny_bind (wpAny_pure (wpAny_pure ⟨_, rfl, wpAny_pure h⟩))))
end
end CutT
end L2
namespace L2
open PySem PySem.Spec PyProof.Rows
def rInT (K : PySem.W.Frag) (neg : Bool) : R2 := fun x y H Q => ∃ (p t : Addr) (rs : List (Addr × List Int)) (ts : List Int), x = .ref t ∧ y = .ref p ∧ SqT K H t (ts.map V.int) ∧ SqL K H p (rs.map fun r => V.ref r.1) ∧ (∀ r ∈ rs, SqT K H r.1 (r.2.map V.int)) ∧ Q (.bl (if neg then !decide (ts ∈ rs.map (·.2)) else decide (ts ∈ rs.map (·.2)))) H
theorem reps_tups {K : PySem.W.Frag} {H : Hp} : ∀ {rs : List (Addr × List Int)}, (∀ r ∈ rs, SqT K H r.1 (r.2.map V.int)) → Reps K H (rs.map fun r => V.ref r.1) ((rs.map (·.2)).map fun ts => .tuple (ts.map .int))
  | [], _ => .nil
  | r :: rs, h => .cons (.tup (h r (List.mem_cons_self ..)) (.ints _)) (reps_tups fun q m => h q (List.mem_cons_of_mem _ m))
theorem lay_tups : ∀ ks : List (List Int), PyData.canLayAll0 (ks.map fun ts => .tuple (ts.map .int)) = true ∧ PyData.depthAll (ks.map fun ts => .tuple (ts.map .int)) ≤ 1
  | [] => ⟨rfl, Nat.zero_le _⟩
  | k :: ks => by
    obtain ⟨h1, h2⟩ := lay_tups ks
    obtain ⟨i1, i2⟩ := lay_ints k
    refine ⟨?_, ?_⟩
    · show (PyData.canLayAll0 (k.map .int) && PyData.canLayAll0 (ks.map fun ts => .tuple (ts.map .int))) = true
      rw [h1, i1]; rfl
    · show max (PyData.depthAll (k.map .int) + 1) (PyData.depthAll (ks.map fun ts => .tuple (ts.map .int))) ≤ 1
      omega
theorem any_tups (ts : List Int) : ∀ ks : List (List Int), ((ks.map fun us => (.tuple (us.map .int) : PyData)).any fun y => PyData.eqv y (.tuple (ts.map .int))) = decide (ts ∈ ks)
  | [] => rfl
  | k :: ks => by
    rw [List.map_cons, List.any_cons, any_tups ts ks, show PyData.eqv (.tuple (k.map .int)) (.tuple (ts.map .int)) = decide (k = ts) from eqv_ints _ _]
    by_cases c : k = ts
    · subst c; simp
    · have c' : ¬ ts = k := fun e => c e.symm
      simp [c, c']
section
variable {X : Cx}
theorem op_notInT {K : PySem.W.Frag} (hu : X.A.units + 64 < cLine) (hK : X.K = K := by rfl) : OpR X (compareOp .NotIn) (rInT K true) := by
  subst hK
  intro pins s σ H x y v u Q I rx ry h
  obtain ⟨p, t, rs, ts, rfl, rfl, ht, hp, hr, q⟩ := h
  obtain ⟨as, r1⟩ := I.reads (.lst hp (reps_tups hr)) ry
  obtain ⟨bs, r2⟩ := I.reads (.tup ht (.ints ts)) rx
  obtain ⟨l1, l2⟩ := lay_tups (rs.map (·.2))
  obtain ⟨i1, i2⟩ := lay_ints ts
  refine SeqAt.notIn_list_reads r1 r2 l1 (show PyData.canLayAll0 (ts.map .int) = true from i1) (by omega) ?_
  rw [any_tups]
  exact ⟨.bl _, H, I, rfl, q⟩
end
end L2
namespace L2
open PySem PySem.Spec PyProof.Rows
structure RoomH (k : Nat) (A : Around) : Prop where
  dp : A.depth + 3 * k + 5 < recursionLimit
  un : A.units + 16 * k + 200 < cLine
theorem Room.toH {j k : Nat} {A : Around} (r : Room k A) (h : j ≤ k) : RoomH j A := ⟨by have := r.dp; omega, by have := r.un; omega⟩
theorem RoomH.mark {k : Nat} {A : Around} (r : RoomH k A) (v : Option Value) : RoomH k (A.mark v) := ⟨r.dp, r.un⟩
theorem RoomH.units {k : Nat} {A : Around} (r : RoomH k A) : A.units + 64 < cLine := by have := r.un; omega
structure FnOkH (P : Program) (w : World) (K : PySem.W.Frag) (mg : Str → Option Value) (base : Heap) (k : Nat) (f : Addr) (fd : FuncData) (ps : List Str) (sp : Sp) : Prop where
  len : ∀ vs H Q E, sp vs H Q E → vs.length = ps.length
  run : ∀ (A : Around) (outer : List Env) (s : Shared) (H : Hp) (args : Args) (us : List Value) (vs : List V) (Q : VK) (E : XK), RoomH k A → Env0 P w K mg base A outer s H → BindsTo s fd args (ps.zip us) → Vals vs us → sp vs H Q E →
    codeAny (model P w) A (.call (.ref f) args) (CR CX0 outer P w H s Q E) s
def cxH (P : Program) (w : World) (K : PySem.W.Frag) (mg : Str → Option Value) (base : Heap) (N : List Str) (qual : Str) (scope : Scope) (f : Addr) (cd : Value) (A : Around) (outer : List Env) (s : Shared) (H : Hp) (E : XK) : Cx :=
  { cxOf CX0 P w K mg base N qual scope f cd A outer s H E with calm := false }
section
variable {P : Program} {w : World} {K : PySem.W.Frag} {mg : Str → Option Value} {base : Heap}
theorem invH {N ps : List Str} {qual : Str} {scope : Scope} {f : Addr} {cd : Value} {A : Around} {outer : List Env} {s s1 : Shared} {H : Hp} {E : XK} {us : List Value} {vs : List V}
    (S : FnScope N ps scope) (e0 : Env0 P w K mg base A outer s H) (hl : vs.length = ps.length) (r : Vals vs us)
    (x : InCallC s s.heap.objs.size (bindL (envOfC qual scope s.heap.objs.size f cd).kindOf (ps.zip us) fun _ => none) (cellsFrom (s.heap.objs.size + 1) scope.names []) (bindC (envOfC qual scope s.heap.objs.size f cd).kindOf (ps.zip us) fun _ => none) s1) :
    Inv (cxH P w K mg base N qual scope f cd A outer s H E) [] (start N vs) H s1 := by
  have e1 : Env0 P w K mg base { A with handled := none } outer s H := ⟨e0.frames, e0.mod, e0.bs, e0.bsz, e0.funs, e0.frf, e0.hok, e0.bare⟩
  have I := inv_start (CX := CX0) (A := { A with handled := none }) (E := E) S rfl e1 hl r x
  have k := I.ok
  exact ⟨⟨k.mod, k.kind, k.glob, k.blt, k.above, k.inj, k.has, k.cab, (fun z => absurd (show false = true from z) Bool.false_ne_true), Around.frames_deeper e0.frames, k.stk, k.exf, k.bs, k.bsz, k.noex, k.exfs, k.funs, k.frf⟩, I.os, I.bare, I.base, I.loc, I.cell, I.free, I.freeC, I.pin, I.hok, I.len⟩
theorem Fun.okH {x qual : Str} {st : Stmt} {f : Addr} {fd : FuncData} {N ps : List Str} {k : Nat} {sp : Sp} (F : Fun K x qual st f fd) (S : FnScope N ps (defScope st)) (len : ∀ vs H Q E, sp vs H Q E → vs.length = ps.length)
    (hbody : ∀ (cdv : Value) (A : Around) (outer : List Env) (s : Shared) (H : Hp) (vs : List V) (Q : VK) (E : XK), RoomH k (A.deeper (envOfC qual (defScope st) s.heap.objs.size f cdv)) → sp vs H Q E →
      ∃ t, PSs (cxH P w K mg base N qual (defScope st) f cdv A outer s H E).nox (defBody st) t ∧ t { nx := fun _ H' => Q .non H', rt := Q } (start N vs) H) : FnOkH P w K mg base (k + 1) f fd ps sp := by
  obtain ⟨oc, od, kV, doc, pm, an, cdv, ct, osl, rfl, lk, hcd⟩ := F.ex
  refine ⟨len, fun A outer s H args us vs Q E hr e0 hb r hsp => ?_⟩
  have KX : K.In s.heap := e0.mod.kin.keeps fun b o e => (e0.bs b o e).1
  have lim : s.heap.NoLimit := e0.mod.nolimit.keeps fun b o e => (e0.bs b o e).1
  have kinds : ∀ y ∈ ps.zip us, (defScope st).names.lookup y.1 = some .local ∨ ((defScope st).names.lookup y.1 = some .cell ∧ ((cellsFrom (s.heap.objs.size + 1) (defScope st).names []).lookup y.1).isSome = true) :=
    fun ⟨n, v⟩ hy => (S.par n (List.of_mem_zip hy).1).imp id fun q => ⟨q, PySem.W.cellsFrom_some _ _ _ (.inl q)⟩
  have deep : A.depth < recursionLimit := by have := hr.dp; omega
  refine codeAny_call_function deep (KX _ _ lk) rfl S.co S.gen rfl (PySem.W.codeRec_of KX hcd) (hb _ _ _ _ ?_)
  refine wpAny_newFunctionEnv_cells S.kind kinds fun env he s1 x => ?_
  subst he
  refine ⟨lim.keeps x.toInCall.keep, codeAny_func ?_⟩
  have hr' : RoomH k (A.deeper (envOfC qual (defScope st) s.heap.objs.size f cdv)) := ⟨by have := hr.dp; show A.depth + 1 + 3 * k + 5 < _; omega, by have := hr.un; show A.units + 3 + 16 * k + 200 < _; omega⟩
  obtain ⟨t, ht, hq⟩ := hbody cdv A outer s H vs Q E hr' hsp
  have I := invH (E := E) S e0 (len _ _ _ _ hsp) r x
  refine wpAny_mono (ht.nox [] s1 (start N vs) H _ I hq) (fun fl s' hs => ?_) fun e s' hs => hs
  rcases fl with _ | _ | _ | u
  all_goals first
    | (obtain ⟨v, σ', H', J, rv, q⟩ := hs; exact ⟨v, H', J.os, J.bare, J.base, J.hok, rv, q⟩)
    | (obtain ⟨σ', H', J, q⟩ := hs; exact ⟨V.non, H', J.os, J.bare, J.base, J.hok, rfl, q⟩)
    | (obtain ⟨_, _, _, q⟩ := hs; exact False.elim q)
end
section
variable {X : Cx} {k : Nat} {f : Addr} {fd : FuncData} {ps : List Str} {sp : Sp} {x : Str} {p pos : Pos} {e : Expr} {es : List Expr} {t : TA}
theorem pe_callH (F : FnOkH X.prog X.w X.K X.mg X.base k f fd ps sp) (hr : RoomH k X.A) (hg : Gl X x) (hm : X.mg x = some (.ref f)) (hk : PySem.W.keepIn X.K (.ref f) = true) (hb : Binds X.K fd ps [])
    (ha : PA X (e :: es) t) (hdb : (x == ("__debug__" : Str)) = false := by decide) (he : starEach (e :: es) X.env = (false, eval e X.env) :: starEach es X.env := by rfl) (hpl : (backTo pos (starEach es X.env)).any (·.1) = false := by rfl) :
    PE X (.Call (.Name x p) (e :: es) [] pos) (tCall sp [] E0 t) := by
  intro pins s σ H Q I h
  refine wpAny_Call_Name_kw (ld_glob I hg hm ?_ hdb)
  refine PySem.W.callWith_K (h₀ := X.base) I.ok.mod.kin hk (thn (ha pos pins s σ H _ I h) fun us s1 ⟨vs, H1, I1, r, q⟩ => ⟨I1.kIn, ?_⟩) he hpl
  have r2 : Vals (vs ++ []) (us ++ []) := r.append .nil
  refine wpAny_call (codeAny_mono (F.run X.A X.stack s1 H1 ⟨us, []⟩ (us ++ []) (vs ++ []) Q E0 hr I1.env0 (hb s1 us I1.kIn (by rw [← r2.length]; exact F.len _ _ _ _ q)) r2 q) fun r s' hq => ?_)
  rcases r with ev | fl
  · exact False.elim hq
  · rcases fl with _ | _ | _ | u
    all_goals first | exact I1.after hq | exact False.elim hq
end
section
variable {X : Cx}
end
end L2
namespace L2
open PySem PySem.Spec PyProof.Rows
theorem keys_miss : typeLookup (.type "list") "keys" = pure none := by rw [typeLookup_type, builtinLookup_eq_fast]; kernel_rfl
theorem dul_entry : entryFor table "dict.update.loop" = some Builtin.«dict.update.loop» := entryFor_of_tree (by kernel_rfl)
theorem dul_plain : plainId "dict.update.loop" = true := by decide +kernel
section
variable {prog : Program} {w : World} {A : Around} {E : Value → Shared → Prop} {s : Shared}
theorem keys_none {a : Addr} {xs : Array Value} {k : Nat} {Q : Option Value → Shared → Prop} (jx : s.heap.get? a = some { cls := .type "list", dict := none, data := .seq xs k, slots := #[] }) (jA : A.handled = none)
    (q : ∀ h' tk, (∀ b o, s.heap.get? b = some o → h'.get? b = some o) → Q none { s with heap := h', toks := tk }) : wpAny (model prog w) A (getAttr? (.ref a) "keys") Q E s := by
  obtain ⟨hp, g, d, tk, os⟩ := s
  have hT : ∀ tk', (⟨hp, g, d, tk', os⟩ : Shared).TypeIs (.ref a) "list" := fun _ => ⟨_, jx, rfl⟩
  have f1 := sub_AttributeError
  have f3 := F.slot_list_getattribute.lookup
  have f4 := F.slot_list_getattribute.bind (.ref a)
  have f5 := am_list_getattr_none
  unfold getAttr? getAttrBy? getAttrBy
  repeat (any_goals (first | assumption | exact hT _ | ((with_reducible show wpAny _ _ (call (Value.builtin "list.__getattribute__") _ _) _ _ _); refine call_meets F.slot_list_getattribute (hT _) am_entry_list_getattribute (F.args_list_getattribute_2 _ _) (meets_getattribute_miss_list a xs k #[] "keys" _ keys_miss (by decide)) ⟨jx, jA, fun h' tk' e hx' => ?_⟩) | wp_step))
  obtain ⟨t', u', he⟩ := hx'.there
  show wpAny _ _ (getattributeRaised _ _ _ _ _ _ _) _ _ _
  unfold getattributeRaised
  repeat (any_goals (first | assumption | wp_step))
  exact q _ _ hx'.1
end
abbrev Pr := Addr × Addr × List Key × V
def prs (ps : List Pr) : List V := ps.map fun q => .ref q.1
def PrOk (H : Hp) (ps : List Pr) : Prop := ∀ q ∈ ps, H q.1 = some (.tup [.ref q.2.1, q.2.2.2]) ∧ H q.2.1 = some (.tup (q.2.2.1.map kV))
def putAll : List (List Key × V) → List Pr → List (List Key × V)
  | kvs, [] => kvs
  | kvs, q :: ps => putAll (putK kvs q.2.2.1 q.2.2.2) ps
theorem putAll_snoc (q : Pr) : ∀ (ps : List Pr) (kvs : List (List Key × V)), putAll kvs (ps ++ [q]) = putK (putAll kvs ps) q.2.2.1 q.2.2.2
  | [], _ => rfl
  | p :: ps, kvs => putAll_snoc q ps (putK kvs p.2.2.1 p.2.2.2)
theorem putAll_len : ∀ (ps : List Pr) (kvs : List (List Key × V)), (putAll kvs ps).length ≤ kvs.length + ps.length
  | [], _ => Nat.le_refl _
  | q :: ps, kvs => by
    have := putAll_len ps (putK kvs q.2.2.1 q.2.2.2)
    have := length_putK kvs q.2.2.1 q.2.2.2
    show (putAll (putK kvs q.2.2.1 q.2.2.2) ps).length ≤ kvs.length + (ps.length + 1)
    omega
section
variable {X : Cx} {pins : List (Addr × Obj)} {σ : St} {H : Hp}
theorem d_set {s : Shared} {a b : Addr} {v : V} {r : Value} {A : Around} {E : Value → Shared → Prop} {kvs : List (List Key × V)} {k : List Key} {Q : Unit → Shared → Prop} (hu : A.units < cLine) (I : Inv X pins σ H s) (e : H a = some (.dT kvs)) (eb : H b = some (.tup (k.map kV))) (l : kvs.length < sizeLine) (rv : RelV v r)
    (h : ∀ h' tk, Heap.SameBut a s.heap h' → Inv X pins σ (upd H a (.dT (putK kvs k v))) { s with heap := h', toks := tk } → Q () { s with heap := h', toks := tk }) : wpAny (model X.prog X.w) A (dictSet a (.ref b) r) Q E s := by
  obtain ⟨z, hd, xs, rel, dd⟩ := dt_of I.hok e
  have hz : xs.length ≤ sizeLine := by rw [← Paired.length rel]; exact z
  have hl : (putK kvs k v).length ≤ sizeLine := by have := length_putK kvs k v; omega
  refine wpAny_dictSet_heap (hsz := hz) (knd := tupleKind (mixKind X.prog X.w)) hu (key_of I.hok eb) dd fun h' dd' hs => h _ _ hs ?_
  obtain ⟨q, es, ep, hq, h2, h3, h4, _, h5⟩ := dd'
  refine d_write I (by rw [e]; exact True.intro) hs ⟨q, hq⟩ ⟨hl, hd, _, (rel.put k eb rv).keeps fun c ys ec => ?_, q, es, ep, hq, h2, h3, h4, h5⟩
  rw [upd_ne (ne_of ec e (fun z => nomatch z))]
  exact ec
theorem dul_go {l it D : Addr} {ps : List Pr} {A : Around} {R : Result → Shared → Prop} (hh : A.handled = none) (hu : A.units + 8 < cLine) (hl : H l = some (.lst (prs ps))) (hp : PrOk H ps) (hD : H D = none) (hz : ps.length < sizeLine)
    (f0 : H it = none) (f1 : it ≠ X.env.locals) (f3 : it ∈ X.ex ∨ X.s₀.heap.objs.size ≤ it) (f4 : ∀ x c, X.env.cells.lookup x = some c → c ≠ it) (f5 : ∀ p ∈ X.pn ++ pins, p.1 ≠ it) (itD : it ≠ D)
    (hR : ∀ s', Inv X pins σ (upd H D (.dT (putAll [] ps))) s' → R (.ok (.ret .none)) s') :
    ∀ (n i : Nat) (s : Shared), ps.length - i = n → i ≤ ps.length → Inv X pins σ (upd H D (.dT (putAll [] (ps.take i)))) s → s.heap.IsListIter it l i →
      codeAny (model X.prog X.w) A (.builtin "dict.update.loop" ⟨[.ref D, .ref it, rawInt i, .none], []⟩) R s := by
  have lD : l ≠ D := fun e => by rw [e, hD] at hl; cases hl
  have pl_len : (prs ps).length = ps.length := List.length_map ..
  intro n
  induction n with
  | zero =>
    intro i s hn hi I st
    have ei : i = ps.length := by omega
    subst ei
    rw [List.take_of_length_le (Nat.le_refl _)] at I
    obtain ⟨its, rv, pl, _⟩ := I.list (SqL.of (show (upd H D (.dT (putAll [] ps))) l = some (.lst (prs ps)) by rw [upd_ne lD]; exact hl))
    have hl' := rv.length
    refine codeAny_builtin dul_entry ?_
    rw [Around.under_plainId dul_plain _]
    unfold Builtin.«dict.update.loop»
    dsimp only [rawInt]
    refine wpAny_bind (wpAny_pyNext_list_end hh st pl.isList ?_ fun h' eb => ?_)
    · rw [pl_len] at hl'
      simp
      omega
    have I2 : Inv X pins σ (upd H D (.dT (putAll [] ps))) { s with heap := h' } := I.turned (t' := s.toks) (fun b o hb e => eb b o hb e) (by rw [upd_ne itD]; exact f0) f1 f3 f4 f5
    exact wpAny_bind (wpAny_pure (wpAny_pure (hR _ I2)))
  | succ n ih =>
    intro i s hn hi I st
    have him : i < ps.length := by omega
    obtain ⟨q, hq⟩ : ∃ q, ps[i]? = some q := ⟨_, List.getElem?_eq_getElem him⟩
    obtain ⟨g1, g2⟩ := hp q (List.mem_of_getElem? hq)
    have et : ps.take (i + 1) = ps.take i ++ [q] := by rw [List.take_succ, hq]; rfl
    obtain ⟨its, rv, pl, _⟩ := I.list (SqL.of (show (upd H D (.dT (putAll [] (ps.take i)))) l = some (.lst (prs ps)) by rw [upd_ne lD]; exact hl))
    obtain ⟨u, hu', ru⟩ := rv.get (i := i) (x := .ref q.1) (by unfold prs; rw [List.getElem?_map, hq]; rfl)
    obtain rfl : u = Value.ref q.1 := ru
    refine codeAny_builtin dul_entry ?_
    rw [Around.under_plainId dul_plain _]
    unfold Builtin.«dict.update.loop»
    dsimp only [rawInt]
    refine wpAny_bind (wpAny_pyNext_list_item st pl.isList (x := .ref q.1) (by simpa using hu') fun h' st' sb => ?_)
    have I2 : Inv X pins σ (upd H D (.dT (putAll [] (ps.take i)))) { s with heap := h' } := I.turned (t' := s.toks) (fun b o hb e => (sb.2 b hb).trans e) (by rw [upd_ne itD]; exact f0) f1 f3 f4 f5
    have qD : q.1 ≠ D := fun e => by rw [e, hD] at g1; cases g1
    have kD : q.2.1 ≠ D := fun e => by rw [e, hD] at g2; cases g2
    obtain ⟨its2, rv2, pt, _⟩ := I2.tuple (SqT.of (show (upd H D (.dT (putAll [] (ps.take i)))) q.1 = some (.tup [.ref q.2.1, q.2.2.2]) by rw [upd_ne qD]; exact g1))
    obtain ⟨ot, ho, hc, nt, hd⟩ := id pt
    have ty : ({ s with heap := h' } : Shared).TypeIs (.ref q.1) "tuple" := ⟨ot, ho, hc⟩
    have pi : ∀ (Q' : List Value → Shared → Prop) (E' : Value → Shared → Prop) (A' : Around), Q' its2 { s with heap := h' } → wpAny (model X.prog X.w) A' (Builtin.Dict.pairItems (.ref q.1)) Q' E' { s with heap := h' } := fun Q' E' A' q' => by
      unfold Builtin.Dict.pairItems
      refine wpAny_bind (wpAny_typeOf ty ?_)
      rw [if_pos (by decide)]
      refine wpAny_bind (wpAny_seqItems ho hd (wpAny_pure ?_))
      simpa using q'
    cases rv2 with
    | cons ra rr =>
      cases rr with
      | cons rb rr =>
        cases rr
        rename_i u1 u2
        obtain rfl : u1 = Value.ref q.2.1 := ra
        dsimp only
        refine wpAny_bind (wpAny_holding (wpAny_bind (wpAny_tryCatch (pi _ _ _ ?_))))
        have hl2 := putAll_len (ps.take i) []
        rw [List.length_take, List.length_nil] at hl2
        refine wpAny_holding (d_set (k := q.2.2.1) (v := q.2.2.2) (by show A.units + 1 < cLine; omega) I2 upd_same (by rw [upd_ne kD]; exact g2) (by omega) rb fun h2 tk2 sb2 I3 => ?_)
        rw [upd_upd, ← putAll_snoc, ← et] at I3
        have st2 : h2.IsListIter it l (i + 1) := st'.at fun o e => (sb2.2 it itD).trans e
        refine wpAny_pure ⟨plainId_quiet dul_plain _, ?_⟩
        have ec : (Value.int ((i : Int) + 1) 0) = rawInt ((i + 1 : Nat) : Int) := by
          show Value.int ((i : Int) + 1) 0 = Value.int ((i + 1 : Nat) : Int) 0
          congr 1
        rw [ec]
        exact ih (i + 1) _ (by omega) (by omega) I3 st2
theorem call_dictP (hc : X.calm = true) (hu : X.A.units + 64 < cLine) : CallR X (.type "dict") (fun xs H Q => ∃ (l : Addr) (ps : List Pr), xs = [.ref l] ∧ H l = some (.lst (prs ps)) ∧ PrOk H ps ∧ ps.length < sizeLine ∧
    ∀ d, H d = none → Q (.ref d) (upd H d (.dT (putAll [] ps)))) := by
  intro pins s σ H xs us Q I r h
  obtain ⟨l, ps, rfl, hl, hp, hz, q⟩ := h
  obtain ⟨u, rfl, rx⟩ := vals1 r
  cases rx
  obtain ⟨zl, its, n0, rv, hlen, el⟩ := I.lstM hl
  have hh : X.A.handled = none := I.ok.hd hc
  have hD : H s.heap.objs.size = none := I.hok.fresh (Nat.le_refl _)
  refine callType_codes (Q₁ := fun obj s₁ => obj = .ref s.heap.objs.size ∧ s₁ = { s with heap := s.heap.push { cls := .type "dict", data := .dict #[] } }) F.kt_called_dict (F.kt_typeCall_dict_1 _) F.entry_dict_init (kt_code_dict_new _ ⟨rfl, rfl⟩) ?_
  rintro obj s₁ ⟨rfl, rfl⟩
  have I1 : Inv X pins σ (upd H s.heap.objs.size (.dT [])) { s with heap := s.heap.push { cls := .type "dict", data := .dict #[] } } :=
    I.laid (a := s.heap.objs.size) (o := .dT []) (t' := s.toks) (fun _ _ z => Heap.get?_push_of_some _ z) (Nat.le_refl _) (dt_empty s.heap I.big)
  have hT : ({ s with heap := s.heap.push { cls := .type "dict", data := .dict #[] } } : Shared).TypeIs (.ref s.heap.objs.size) "dict" := ⟨_, Heap.get?_push_size _ rfl, rfl⟩
  refine ⟨hT, F.args_dict_init_2 _ _, ?_⟩
  unfold Builtin.«dict.__init__»
  refine wpAny_bind ?_
  unfold Builtin.Dict.selfAndRest
  refine wpAny_bind (wpAny_notOrdered_dict hT ?_)
  show wpAny _ _ (pure (s.heap.objs.size, [Value.ref l])) _ _ _
  refine wpAny_pure ?_
  show wpAny _ _ (Builtin.Dict.updateFrom "dict.__init__" s.heap.objs.size (.ref l) [] .none) _ _ _
  have el1 : (s.heap.push { cls := .type "dict", data := .dict #[] }).get? l = some { cls := .type "list", data := .seq its.toArray n0 } := Heap.get?_push_of_some _ el
  have lt : l < s.heap.objs.size := Heap.lt_size el
  generalize hD' : s.heap.objs.size = D at *
  generalize s.heap.push { cls := .type "dict", data := .dict #[] } = g1 at *
  have tyl : ({ s with heap := g1 } : Shared).TypeIs (.ref l) "list" := ⟨_, el1, rfl⟩
  unfold Builtin.Dict.updateFrom
  refine wpAny_bind (wpAny_typeOf tyl ?_)
  rw [if_pos (by decide)]
  refine wpAny_bind (keys_none el1 hh fun h2 tk2 k2 => ?_)
  rw [if_pos (show (none : Option Value).isNone = true from rfl)]
  have I2 : Inv X pins σ (upd H D (.dT [])) { s with heap := h2, toks := tk2 } := I1.kept (t' := tk2) k2
  refine wpAny_bind (wpAny_rule ?_)
  have il : ({ s with heap := h2, toks := tk2 } : Shared).heap.IsList l its.toArray := ⟨_, k2 _ _ el1, rfl, n0, rfl⟩
  refine wpAny_bind (wpAny_pyIter_list il ?_)
  have hD2 : D < h2.objs.size := by
    obtain ⟨o, ho, _⟩ := hT
    exact Heap.lt_size (k2 _ _ ho)
  have I3 : Inv X pins σ (upd H D (.dT [])) { s with heap := h2.push { cls := .type "list_iterator", data := .fields #[.ref l, .int 0 0] }, toks := tk2 } := I2.kept (t' := tk2) fun b o e => Heap.get?_push_of_some _ e
  obtain ⟨f0, f1, f2, f3, f4, f5⟩ := I2.fpOk (b := h2.objs.size) (Nat.le_refl _) (I2.hok.fresh (Nat.le_refl _))
  have itD : h2.objs.size ≠ D := Nat.ne_of_gt hD2
  rw [upd_ne itD] at f0
  refine wpAny_pure ⟨plainId_quiet dul_plain _, ?_⟩
  refine dul_go (X := X) (σ := σ) (pins := pins) (H := H) (l := l) (it := h2.objs.size) (D := D) (ps := ps) (A := X.A.in1) hh (by show X.A.units + 1 + 8 < cLine; omega) hl hp hD hz f0 f1 f3 f4 f5 itD (fun s' I' => ?_) (ps.length - 0) 0 _ rfl (Nat.zero_le _) I3 ⟨_, Heap.get?_push_size _ rfl, rfl, rfl⟩
  exact ⟨rfl, .ref D, _, I', rfl, q D hD⟩
end
end L2
namespace L2
open PySem PySem.Spec PyProof.Rows
section
variable {prog : Program} {w : World} {A : Around} {E : Value → Shared → Prop} {s : Shared}
theorem vw_call {d : Addr} {Q : Value → Shared → Prop} (ty : s.TypeIs (.ref d) "dict") (hd : (d == sysModules) = false)
    (q : Q (.ref s.heap.objs.size) { s with heap := s.heap.push { cls := .type "dict_values", data := .fields #[.ref d] } }) : wpAny (model prog w) A (call (.builtin "dict.values") [.ref d]) Q E s := by
  refine wpAny_call_entry F.slot_dict_values ty F.entry_dict_values ?_ (F.args_dict_values_1 _)
  unfold Builtin.«dict.values»; refine wpAny_bind ?_
  unfold Builtin.Dict.noArgs; refine wpAny_bind (wpAny_notOrdered_dict ty ?_)
  show wpAny _ _ (pure d) _ _ s; refine wpAny_pure ?_
  show wpAny _ _ (Builtin.Dict.showsAll d >>= _) _ _ s; unfold Builtin.Dict.showsAll
  rw [if_neg (by rw [hd]; exact Bool.false_ne_true)]; refine wpAny_bind (wpAny_pure (wpAny_bind (wpAny_newObj_type (wpAny_pure ⟨_, rfl, q⟩))))
theorem vw_iter {v d : Addr} {od : Obj} {es : Array DictEntry} {ep : Nat} {Q : Value → Shared → Prop} (hv : s.heap.IsValuesView v d) (hod : s.heap.get? d = some od) (hdd : od.data = .dict es ep)
    (q : Q (.ref s.heap.objs.size) { s with heap := s.heap.push { cls := .type "dict_valueiterator", data := .fields #[.ref d, .int 0 0, .int es.size 0, .int ep 0] } }) : wpAny (model prog w) A (pyIter (.ref v)) Q E s := by
  obtain ⟨ov, hov, hcv, hdv⟩ := id hv
  refine wpAny_pyIter_slot hv.typeIs F.slot_dict_values_iter (wpAny_call_entry F.slot_dict_values_iter hv.typeIs F.entry_dict_values_iter ?_ (F.args_dict_values_iter_1 _))
  unfold Builtin.«dict_values.__iter__»; refine wpAny_bind (wpAny_pure (wpAny_bind ?_))
  unfold Builtin.Dict_items.dictOf; refine wpAny_bind (wpAny_field hov hdv (x := .ref d) rfl (wpAny_pure (wpAny_bind ?_)))
  unfold Builtin.Dict_items.newIterator; refine wpAny_bind (wpAny_dictEntries hod hdd (wpAny_bind (wpAny_dictEpoch hod hdd ?_)))
  simp only [show Builtin.Dict_items.ownsTuple "dict_valueiterator" = false from by decide, Bool.false_eq_true, if_false]
  refine wpAny_newObj_type (wpAny_pure ⟨_, rfl, "dict_valueiterator", _, ⟨_, Heap.get?_push_size _ rfl, rfl⟩, F.slot_dict_valueiterator_next.lookup, ?_⟩)
  simpa [rawInt] using q
theorem vw_item {it d : Addr} {i ep : Nat} {od : Obj} {es : Array DictEntry} {Q : Option Value → Shared → Prop} (hit : s.heap.IsValIter it d i es.size ep) (hod : s.heap.get? d = some od) (hdd : od.data = .dict es ep) (hi : i < es.size)
    (q : ∀ h', h'.IsValIter it d (i + 1) es.size ep → Heap.SameBut it s.heap h' → Q (some es[i].val) { s with heap := h' }) : wpAny (model prog w) A (pyNext (.ref it)) Q E s := by
  obtain ⟨o, ho, hc, hd⟩ := id hit
  unfold pyNext; refine wpAny_bind (wpAny_attempt (wpAny_callSpecial?_slot (name := Str.ofString "__next__") hit.typeIs F.slot_dict_valueiterator_next (wpAny_call_entry F.slot_dict_valueiterator_next hit.typeIs F.entry_dict_valueiterator_next ?_ (F.args_dict_valueiterator_next_1 _))))
  refine wpAny_bind (wpAny_pure (wpAny_bind (wpAny_bind ?_)))
  first | refine wpAny_bind (wpAny_typeNameOfWhole_valiter hit.typeIs (wpAny_pure (wpAny_bind (wpAny_fieldsOf ho hd ?_)))) | refine wpAny_bind (wpAny_typeNameOf_valiter hit.typeIs (wpAny_pure (wpAny_bind (wpAny_fieldsOf ho hd ?_))))
  simp only [show Builtin.Dict_items.ownsTuple "dict_valueiterator" = false from by decide, Bool.false_eq_true, if_false]
  show wpAny _ _ (if (Value.ref d == .none) = true then _ else _) _ _ s; rw [if_neg (show ¬ (Value.ref d == .none) = true from Bool.false_ne_true)]
  refine wpAny_bind (wpAny_pure (wpAny_bind (wpAny_dictEntries hod hdd ?_)))
  rw [if_neg (by simp)]; refine wpAny_bind (wpAny_pure (wpAny_bind (wpAny_dictEpoch hod hdd ?_)))
  rw [if_neg (by simp)]; refine wpAny_pure ?_
  simp only [show ¬ ((i : Int) < 0) from by omega, if_false, Int.toNat_natCast, Array.getElem?_eq_getElem hi]; refine wpAny_bind ?_
  first | refine wpAny_bind (wpAny_typeNameOfWhole_valiter hit.typeIs (wpAny_pure (wpAny_bind (wpAny_isOneOf_valiter hit.typeIs ?_)))) | refine wpAny_bind (wpAny_typeNameOf_valiter hit.typeIs (wpAny_pure (wpAny_bind (wpAny_isOneOf_valiter hit.typeIs ?_))))
  refine wpAny_bind (m := setField (.ref it) 1 (rawInt ((i : Int) + 1))) (wpAny_setField ho hd (by simp) ?_)
  have hit' : (s.heap.update it (Obj.mapFields (·.setIfInBounds 1 (rawInt ((i : Int) + 1))))).IsValIter it d (i + 1) es.size ep := ⟨_, Heap.get?_update_self _ ho (Obj.isFreed_of_fields (Obj.data_mapFields hd _)), (Obj.cls_mapFields ..).trans hc, by rw [Obj.data_mapFields hd]; simp [rawInt]⟩
  generalize hg : s.heap.update it (Obj.mapFields (·.setIfInBounds 1 (rawInt ((i : Int) + 1)))) = g at hit' ⊢
  have ty : ({ s with heap := g } : Shared).TypeIs (.ref it) "dict_valueiterator" := hit'.typeIs (s := { s with heap := g })
  refine wpAny_bind (wpAny_holding (wpAny_bind (wpAny_isOneOf_valiter ty (wpAny_bind (wpAny_isOneOf_valiter ty ?_)))))
  exact wpAny_pure (wpAny_pure ⟨_, rfl, wpAny_pure (q g hit' (hg ▸ Heap.SameBut.update ..))⟩)
theorem vw_end {it d : Addr} {ep : Nat} {od : Obj} {es : Array DictEntry} {Q : Option Value → Shared → Prop} (hh : A.handled = none) (hit : s.heap.IsValIter it d es.size es.size ep) (hod : s.heap.get? d = some od) (hdd : od.data = .dict es ep)
    (q : ∀ h', Heap.ExtBut it s.heap h' → Q none { s with heap := h' }) : wpAny (model prog w) A (pyNext (.ref it)) Q E s := by
  obtain ⟨o, ho, hc, hd⟩ := id hit
  unfold pyNext; refine wpAny_bind (wpAny_attempt (wpAny_callSpecial?_slot (name := Str.ofString "__next__") hit.typeIs F.slot_dict_valueiterator_next (wpAny_call_entry F.slot_dict_valueiterator_next hit.typeIs F.entry_dict_valueiterator_next ?_ (F.args_dict_valueiterator_next_1 _))))
  refine wpAny_bind (wpAny_pure (wpAny_bind (wpAny_bind ?_)))
  first | refine wpAny_bind (wpAny_typeNameOfWhole_valiter hit.typeIs (wpAny_pure (wpAny_bind (wpAny_fieldsOf ho hd ?_)))) | refine wpAny_bind (wpAny_typeNameOf_valiter hit.typeIs (wpAny_pure (wpAny_bind (wpAny_fieldsOf ho hd ?_))))
  simp only [show Builtin.Dict_items.ownsTuple "dict_valueiterator" = false from by decide, Bool.false_eq_true, if_false]
  show wpAny _ _ (if (Value.ref d == .none) = true then _ else _) _ _ s; rw [if_neg (show ¬ (Value.ref d == .none) = true from Bool.false_ne_true)]
  refine wpAny_bind (wpAny_pure (wpAny_bind (wpAny_dictEntries hod hdd ?_)))
  rw [if_neg (by simp)]; refine wpAny_bind (wpAny_pure (wpAny_bind (wpAny_dictEpoch hod hdd ?_)))
  rw [if_neg (by simp)]; refine wpAny_pure ?_
  simp only [show ¬ ((es.size : Int) < 0) from by omega, if_false, Int.toNat_natCast, Array.getElem?_eq_none (Nat.le_refl es.size)]; refine wpAny_bind ?_
  first | refine wpAny_bind (wpAny_typeNameOfWhole_valiter hit.typeIs (wpAny_pure ?_)) | refine wpAny_bind (wpAny_typeNameOf_valiter hit.typeIs (wpAny_pure ?_))
  refine wpAny_bind (m := setField (.ref it) 0 .none) (wpAny_setField ho hd (by simp) (wpAny_bind (m := newExc (.type "StopIteration") []) ?_))
  simp only [newExc, newTuple]; refine wpAny_bind (wpAny_newObj_type (wpAny_bind (m := firstArgMember _ _) (wpAny_of_eq (a := Value.none) (by first | rfl | (simp only [firstArgMember]; rfl)) (wpAny_newObj_type ?_ (by size_fits)))) (by size_fits))
  simp only [raiseNew]; refine wpAny_bind (wpAny_handled ?_)
  rw [show A.in1.handled = none from hh]; refine wpAny_bind (wpAny_pure (wpAny_throw ?_)); refine wpAny_bind (wpAny_isInstance (T := "StopIteration") (b := true) ⟨_, Heap.get?_push_size _ rfl, rfl⟩ isSubtype_stop ?_)
  exact wpAny_pure (q _ (((Heap.SameBut.update ..).extBut.push _).push _))
end
abbrev hoW (v d : Addr) : HO := .ext fun h => h.IsValuesView v d
abbrev hoF (d : Addr) (ob : Obj) : HO := .ext fun h => h.get? d = some ob
def FrT (P : Program) (w : World) (H : Hp) (d : Addr) (ob : Obj) (kvs : List (List Key × V)) : Prop :=
  kvs.length ≤ sizeLine ∧ (d == sysModules) = false ∧ ∃ xs : List (List Key × Addr × Value), Paired (fun (p : List Key × V) (q : List Key × Addr × Value) => p.1 = q.1 ∧ H q.2.1 = some (.tup (p.1.map kV)) ∧ RelV p.2 q.2.2) kvs xs ∧
    ∃ es ep, ob.ExactDict ∧ ob.data = .dict es ep ∧ es.toList = xs.map (entryOfKey (tupleKind (mixKind P w))) ∧ (xs.map (·.1)).Nodup
def Itv (P : Program) (w : World) (d : Addr) (ob : Obj) (kvs : List (List Key × V)) : It :=
  ⟨fun i H => H d = some (hoF d ob) ∧ i < kvs.length, fun i H x H' => H' = H ∧ (kvs[i]?).map (·.2) = some x, fun i H => H d = some (hoF d ob) ∧ i = kvs.length⟩
theorem paired_imp {α β : Type} {R S : α → β → Prop} (h : ∀ a b, R a b → S a b) : ∀ {xs : List α} {ys : List β}, Paired R xs ys → Paired S xs ys
  | _, _, .nil => .nil
  | _, _, .cons r t => .cons (h _ _ r) (paired_imp h t)
theorem paired_get {α β : Type} {R : α → β → Prop} : ∀ {xs : List α} {ys : List β} {i : Nat} {x : α}, Paired R xs ys → xs[i]? = some x → ∃ y, ys[i]? = some y ∧ R x y
  | _, _, _, _, .nil, h => by cases h
  | _, _, 0, _, .cons r t, h => ⟨_, rfl, by cases Option.some.inj h; exact r⟩
  | _, _, i + 1, _, .cons _ t, h => paired_get (i := i) t h
section
variable {X : Cx}
theorem mt_values : MtR X "dict.values" (fun x vs H Q => ∃ (d : Addr) (kvs : List (List Key × V)), x = .ref d ∧ vs = [] ∧ H d = some (.dT kvs) ∧ ∀ v, H v = none → Q (.ref v) (upd H v (hoW v d))) := by
  intro pins s σ H x vs v us Q I rx rv h
  obtain ⟨d, kvs, rfl, rfl, e, q⟩ := h
  cases rx
  have hus := rv.zero
  subst hus
  obtain ⟨_, hd, xs, _, o, es, ep, h1, h2, h3, _⟩ := (show ObjOk X.prog X.w H s.heap d (.dT kvs) from I.hok d _ e)
  refine vw_call ⟨o, h1, h2.1⟩ hd ?_
  refine ⟨.ref s.heap.objs.size, _, I.laid (t' := s.toks) (fun b u z => Heap.get?_push_of_some _ z) (Nat.le_refl _) ?_, rfl, q _ (I.hok.fresh (Nat.le_refl _))⟩
  refine ⟨⟨_, Heap.get?_push_size _ rfl, rfl, rfl⟩, ⟨_, Heap.get?_push_size _ rfl⟩, fun g1 g2 ⟨o, z, r⟩ k => ⟨o, k o z, r⟩⟩
theorem FrT.of {P : Program} {w : World} {H : Hp} {h : Heap} {d : Addr} {kvs : List (List Key × V)} (x : ObjOk P w H h d (.dT kvs)) : ∃ ob, h.get? d = some ob ∧ FrT P w H d ob kvs := by
  obtain ⟨a, b, xs, c, o, es, ep, e, r⟩ := x
  exact ⟨o, e, a, b, xs, c, es, ep, r⟩
theorem FrT.to {P : Program} {w : World} {H H' : Hp} {h : Heap} {d : Addr} {ob : Obj} {kvs : List (List Key × V)} (x : FrT P w H d ob kvs) (e : h.get? d = some ob) (t : ∀ b xs, H b = some (.tup xs) → H' b = some (.tup xs)) : ObjOk P w H' h d (.dT kvs) := by
  obtain ⟨a, b, xs, c, es, ep, r⟩ := x
  exact ⟨a, b, xs, paired_imp (fun p q ⟨z1, z2, z3⟩ => ⟨z1, t _ _ z2, z3⟩) c, ob, es, ep, e, r⟩
theorem Inv.held {pins : List (Addr × Obj)} {σ : St} {H : Hp} {s : Shared} {d : Addr} {ob : Obj} (I : Inv X pins σ H s) (e : H d = some (hoF d ob)) : s.heap.get? d = some ob := by
  obtain ⟨z, _⟩ := (show ObjOk X.prog X.w H s.heap d (hoF d ob) from I.hok d _ e)
  exact z
theorem FrT.vals {P : Program} {w : World} {H : Hp} {d : Addr} {ob : Obj} {kvs : List (List Key × V)} (x : FrT P w H d ob kvs) : ∃ es ep, ob.data = .dict es ep ∧ es.size = kvs.length ∧ ∀ (i : Nat) (hi : i < es.size) (v : V), (kvs[i]?).map (·.2) = some v → RelV v es[i].val := by
  obtain ⟨_, _, xs, c, es, ep, _, h2, h3, _⟩ := x
  have l1 := Paired.length c
  have l2 : es.toList.length = xs.length := by rw [h3, List.length_map]
  rw [Array.length_toList] at l2
  refine ⟨es, ep, h2, by omega, fun i hi v hv => ?_⟩
  obtain ⟨p, hp, rfl⟩ := Option.map_eq_some_iff.mp hv
  obtain ⟨q, hq, r⟩ := paired_get c hp
  have e1 : es.toList[i]? = some (entryOfKey (tupleKind (mixKind P w)) q) := by rw [h3, List.getElem?_map, hq]; rfl
  have e2 : es[i] = entryOfKey (tupleKind (mixKind P w)) q := by
    have : es.toList[i]? = some es[i] := by simp [hi]
    rw [e1] at this
    exact (Option.some.inj this).symm
  rw [e2]
  exact r.2.2
theorem turn_vals {P : Program} {w : World} {K : PySem.W.Frag} {tg : Expr} {H0 : Hp} {d it : Addr} {ob : Obj} {kvs : List (List Key × V)} (f : FrT P w H0 d ob kvs) {es : Array DictEntry} {ep : Nat} (hdd : ob.data = .dict es ep) (hn : es.size = kvs.length) (hv : ∀ (i : Nat) (hi : i < es.size) (v : V), (kvs[i]?).map (·.2) = some v → RelV v es[i].val) :
    Turn P w K tg (Itv P w d ob kvs) [it] it (fun i h => i ≤ es.size ∧ h.IsValIter it d i es.size ep) where
  mem := by simp
  obj := fun i h st b hb => by
    have e : b = it := by simpa using hb
    subst e
    obtain ⟨_, o, e, c, d⟩ := st
    exact ⟨o, e, fun v z => by rw [d] at z; cases z⟩
  keep := fun i h h' ⟨a, o, e, r⟩ k => ⟨a, o, k it (by simp) o e, r⟩
  item := by
    intro X hP hw hK hc i pins s σ H E I hf st hg
    subst hP hw hK
    obtain ⟨hd, hi⟩ := hg
    obtain ⟨f0, f1, f2, f3, f4, f5⟩ := hf it (by simp)
    have hi' : i < es.size := by omega
    refine vw_item st.2 (I.held hd) hdd hi' fun h' st' sb => ?_
    have I1 : Inv X pins σ H { s with heap := h' } := I.turned (t' := s.toks) (fun b o hb e => (sb.2 b hb).trans e) f0 f1 f3 f4 f5
    obtain ⟨p, hp⟩ : ∃ p, kvs[i]? = some p := ⟨_, List.getElem?_eq_getElem hi⟩
    have rr := hv i hi' p.2 (by rw [hp]; rfl)
    obtain ⟨o, e, c, dd⟩ := id st'
    exact ⟨_, rfl, go_of (s := { s with heap := h' }) e c dd (by decide) ⟨p.2, H, I1, rr, ⟨rfl, by rw [hp]; rfl⟩, ⟨by omega, st'⟩, fun b hb => (hf b hb).1⟩⟩
  done := by
    intro X hP hw hK hc i pins s σ H E I hf st hg
    subst hP hw hK
    obtain ⟨hd, hi⟩ := hg
    obtain ⟨f0, f1, f2, f3, f4, f5⟩ := hf it (by simp)
    have ei : i = es.size := by omega
    subst ei
    exact vw_end (I.ok.hd hc) st.2 (I.held hd) hdd fun h' eb => ⟨rfl, I.turned (t' := s.toks) (fun b o hb e => eb b o hb e) f0 f1 f3 f4 f5⟩
  self := fun _ _ _ _ _ st h => wpAny_pyIter_valiter st.2 h
def iVals (P : Program) (w : World) (te : TE) : TI := fun σ H R => te σ H fun x H1 => ∃ (v d : Addr) (kvs : List (List Key × V)), x = .ref v ∧ H1 v = some (hoW v d) ∧ H1 d = some (.dT kvs) ∧ ∀ ob, FrT P w H1 d ob kvs → R (Itv P w d ob kvs) (upd H1 d (hoF d ob))
theorem pi_vals {e tg : Expr} {te : TE} (he : PE X e te) : PI X tg e (iVals X.prog X.w te) := by
  intro pins s σ H R I h
  refine thn (he pins s σ H _ I h) fun u s1 ⟨x, H1, I1, r1, v, d, kvs, ex, ev, ed, q⟩ => ?_
  subst ex
  cases r1
  obtain ⟨vw, _, _⟩ := (show ObjOk X.prog X.w H1 s1.heap v (hoW v d) from I1.hok v _ ev)
  obtain ⟨ob, eo, f⟩ := FrT.of (show ObjOk X.prog X.w H1 s1.heap d (.dT kvs) from I1.hok d _ ed)
  obtain ⟨es, ep, hdd, hn, hv⟩ := f.vals
  refine vw_iter vw eo hdd ?_
  have I2 : Inv X pins σ (upd H1 d (hoF d ob)) s1 := d_write (t' := s1.toks) I1 (by rw [ed]; exact True.intro) (Heap.SameBut.refl d s1.heap) ⟨ob, eo⟩ ⟨eo, ⟨ob, eo⟩, fun _ _ z k => k _ z⟩
  refine ⟨s1.heap.objs.size, [s1.heap.objs.size], _, _, _, rfl, I2.kept (t' := s1.toks) fun b o e => Heap.get?_push_of_some _ e, turn_vals f hdd hn hv, ⟨Nat.zero_le _, _, Heap.get?_push_size _ rfl, rfl, rfl⟩, fun b hb => ?_, q ob f⟩
  have e : b = s1.heap.objs.size := by simpa using hb
  subst e
  exact I2.fpOk (Nat.le_refl _) (I2.hok.fresh (Nat.le_refl _))
def tThaw (P : Program) (w : World) (te : TE) : TE := fun σ H Q => te σ H fun v H' => ∃ (d : Addr) (ob : Obj) (kvs : List (List Key × V)) (H1 : Hp), H' d = some (hoF d ob) ∧ FrT P w H1 d ob kvs ∧ (∀ b xs, H1 b = some (.tup xs) → H' b = some (.tup xs)) ∧ Q v (upd H' d (.dT kvs))
theorem pe_thaw {e : Expr} {te : TE} (he : PE X e te) : PE X e (tThaw X.prog X.w te) := by
  intro pins s σ H Q I h
  refine thn (he pins s σ H _ I h) fun u s1 ⟨x, H1, I1, r1, d, ob, kvs, H0, ed, f, t, q⟩ => ?_
  have eo := I1.held ed
  have ne : ∀ b xs, H1 b = some (.tup xs) → b ≠ d := fun b xs z y => by rw [y, ed] at z; cases z
  refine ⟨x, _, d_write (t' := s1.toks) I1 (by rw [ed]; exact True.intro) (Heap.SameBut.refl d s1.heap) ⟨ob, eo⟩ (f.to eo fun b xs z => ?_), r1, q⟩
  have z' := t b xs z
  rw [upd_ne (ne b xs z')]
  exact z'
end
theorem comp_vals {P : Program} {w : World} {d : Addr} {ob : Obj} {kvs : List (List Key × V)} {tt : TT} {te : TE} {σ : St} {H1 : Hp} {Q : Addr → Hp → Prop} (hn : kvs.length ≤ sizeLine) (Pv : Addr → Nat → List V → Hp → Prop)
    (h0 : ∀ D, H1 D = none → Pv D 0 [] (upd H1 D (.lst []))) (hD : ∀ D i ys H, Pv D i ys H → H D = some (.lst ys) ∧ ys.length ≤ i) (hl : ∀ D i ys H, H1 D = none → Pv D i ys H → H d = some (hoF d ob))
    (hs : ∀ D i x ys H (K1 : VK) (K2 : Hp → Prop), H1 D = none → (kvs[i]?).map (·.2) = some x → Pv D i ys H → (∀ y H5, H5 D = some (.lst ys) → Pv D (i + 1) (ys ++ [y]) (upd H5 D (.lst (ys ++ [y]))) → K1 y H5) → (∀ H4, Pv D (i + 1) ys H4 → K2 H4) →
      tt (σ ++ [some x]) H fun b H4 => if b = true then te (σ ++ [some x]) H4 K1 else K2 H4)
    (hd : ∀ D ys H, H1 D = none → Pv D kvs.length ys H → Q D H) :
    ∀ D, H1 D = none → ∃ W : Nat → Nat → List V → Hp → Prop, (∃ m, W 0 m [] (upd H1 D (.lst []))) ∧ ∀ i m ys H2, W i m ys H2 →
      H2 D = some (.lst ys) ∧ (((Itv P w d ob kvs).stop i H2 ∧ Q D H2) ∨ ((Itv P w d ob kvs).go i H2 ∧ ys.length < sizeLine ∧ ∀ x H3, (Itv P w d ob kvs).yld i H2 x H3 → tt (σ ++ [some x]) H3 fun b H4 => if b = true then te (σ ++ [some x]) H4 fun y H5 => H5 D = some (.lst ys) ∧ ∃ m', m' < m ∧ W (i + 1) m' (ys ++ [y]) (upd H5 D (.lst (ys ++ [y])))
        else ∃ m', m' < m ∧ W (i + 1) m' ys H4)) := by
  intro D hDn
  refine ⟨fun i m ys H => m = kvs.length - i ∧ i ≤ kvs.length ∧ Pv D i ys H, ⟨kvs.length, by simp, Nat.zero_le _, h0 D hDn⟩, ?_⟩
  rintro i m ys H2 ⟨rfl, hi, p⟩
  obtain ⟨e1, e2⟩ := hD D i ys H2 p
  refine ⟨e1, ?_⟩
  have q := hl D i ys H2 hDn p
  by_cases hlt : i < kvs.length
  · refine .inr ⟨⟨q, hlt⟩, by omega, ?_⟩
    rintro x H3 ⟨rfl, hx⟩
    exact hs D i x ys H3 _ _ hDn hx p (fun y H5 z1 z2 => ⟨z1, kvs.length - (i + 1), by omega, rfl, hlt, z2⟩) fun H4 z => ⟨kvs.length - (i + 1), by omega, rfl, hlt, z⟩
  · have e : i = kvs.length := by omega
    subst e
    exact .inl ⟨⟨q, rfl⟩, hd D ys H2 hDn p⟩
end L2
namespace L2
open PySem PySem.Spec PyProof.Rows
section
variable {X : Cx} {elt iter : Expr} {x1 x2 x3 : Str} {p1 p2 p3 pt pos : Pos} {k : Nat} {ifs : List Expr} {sc fsc : Scope} {N Nc : List Str} {wi : TI} {tt : TT} {te : TE}
end
end L2
set_option maxHeartbeats 4000000
namespace Law
open PySem L2
def spLaw (K : PySem.W.Frag) : Sp := fun vs H Q _ => ∃ (p : Addr) (ns : List Int), vs = [.ref p] ∧ SqL K H p (ns.map V.int) ∧ ns.length ≤ 63 ∧ ∀ H', Q (.bl true) H'
def spWhole : Sp := fun vs H Q _ => ∃ c : Int, vs = [.int c] ∧ Q (.bl true) H
theorem same_new {H : Hp} {p : Addr} (h : H p = none) (o : HO) : Same H (upd H p o) := fun b u q => by rw [upd_ne (ne_of_none q h)]; exact q
theorem fmod_in (x : Int) {y : Int} (h : 0 < y) : 0 ≤ x.fmod y ∧ x.fmod y < y := ⟨Int.fmod_nonneg_of_pos x h, Int.fmod_lt_of_pos x h⟩
theorem sz_fmod (x : Int) {y : Int} {n : Nat} (h : 0 < y) (k : Sz n y) : Sz n (x.fmod y) := by
  have e := fmod_in x h
  unfold Sz at k ⊢
  omega
def spC40 (K : PySem.W.Frag) : Sp := fun vs H Q _ => ∃ (p : Addr) (ns : List Int) (k : Int), vs = [.ref p, .int k] ∧ SqL K H p (ns.map V.int) ∧ ns.length ≤ 63 ∧ 0 ≤ k ∧ k ≤ 1000 ∧ ∀ z : Int, 0 ≤ z → z < 10 ^ 40 → Q (.int z) H
def spMixed : Sp := fun vs H Q _ => ∃ c b : Int, vs = [.int c, .int b] ∧ Sz 200 c ∧ Sz 64 b ∧ ∀ z : Int, 0 ≤ z → z < 10 ^ 18 → Q (.int z) H
theorem sz40 {c : Int} (h0 : 0 ≤ c) (h : c < 10 ^ 40) : Sz 200 c := sz_of (by omega) (by omega)
theorem sz18 {c : Int} (h0 : 0 ≤ c) (h : c < 10 ^ 18) : Sz 64 c := sz_of (by omega) (by omega)
theorem mix_end (x : Int) : 0 ≤ (x.fmod ((10 : Int) ^ (18 : Int).toNat + 3)).fdiv 7 ∧ (x.fmod ((10 : Int) ^ (18 : Int).toNat + 3)).fdiv 7 < 10 ^ 18 := by
  have h := fmod_in x (show (0 : Int) < (10 : Int) ^ (18 : Int).toNat + 3 by decide)
  generalize x.fmod ((10 : Int) ^ (18 : Int).toNat + 3) = y at h ⊢
  rw [Int.fdiv_eq_ediv_of_nonneg y (by decide)]
  have e : (10 : Int) ^ (18 : Int).toNat = 1000000000000000000 := by decide
  rw [e] at h
  omega
theorem same_upd {H H' : Hp} {l : Addr} {o : HO} (s : Same H H') (n : H l = none) : Same H (upd H' l o) := fun b u e => by
  rw [upd_ne (ne_of_none e n)]
  exact s b u e
theorem ifT {c : Bool} {A B : Prop} (e : c = true) (h : A) : if c = true then A else B := by rw [if_pos e]; exact h
theorem ifF {c : Bool} {A B : Prop} (e : c = false) (h : B) : if c = true then A else B := by rw [if_neg (by rw [e]; decide)]; exact h
theorem int_at {ns : List Int} {i : Nat} {x : V} (h : (ns.map V.int)[i]? = some x) : ∃ z, ns[i]? = some z ∧ x = .int z := by
  rw [List.getElem?_map] at h
  cases e : ns[i]? with
  | none => rw [e] at h; cases h
  | some z => rw [e] at h; exact ⟨z, rfl, (Option.some.inj h).symm⟩
theorem atN {ns : List Int} {i : Nat} {z : Int} (h : ns[i]? = some z) : atI (ns.map V.int) (i : Int) = some (.int z) := atI_nat (by rw [List.getElem?_map, h]; rfl)
theorem u1 {n : Nat} (h : n + 64 < cLine) : n + 1 < cLine := by omega
theorem none_of {H H' : Hp} {a : Addr} (s : Same H H') (h : H' a = none) : H a = none := by
  cases e : H a with
  | none => rfl
  | some u => rw [s _ _ e] at h; cases h
abbrev Ls := List (Addr × Addr × List Int × Int)
abbrev Ds := List (List Int × Int)
def vls (ls : Ls) : List V := ls.map fun q => .ref q.1
def dsOf (ls : Ls) : Ds := ls.map fun q => (q.2.2.1, q.2.2.2)
def GoodL (H : Hp) (ls : Ls) : Prop := ∀ q ∈ ls, H q.1 = some (.tup [.ref q.2.1, .int q.2.2.2]) ∧ H q.2.1 = some (.tup (q.2.2.1.map V.int))
theorem GoodL.same {H H' : Hp} {ls : Ls} (s : Same H H') (g : GoodL H ls) : GoodL H' ls := fun q m => ⟨s _ _ (g q m).1, s _ _ (g q m).2⟩
theorem GoodL.sub {H : Hp} {a b : Ls} (g : GoodL H a) (k : ∀ q ∈ b, q ∈ a) : GoodL H b := fun q m => g q (k q m)
theorem GoodL.append {H : Hp} {a b : Ls} (g : GoodL H a) (k : GoodL H b) : GoodL H (a ++ b) := fun q m => (List.mem_append.mp m).elim (g q) (k q)
theorem GoodL.upd {H : Hp} {ls : Ls} {l : Addr} {xs : List V} {o : HO} (e : H l = some (.lst xs)) (g : GoodL H ls) : GoodL (upd H l o) ls := fun q m => by
  refine ⟨?_, ?_⟩
  · rw [upd_ne (ne_of (g q m).1 e (fun z => nomatch z))]; exact (g q m).1
  · rw [upd_ne (ne_of (g q m).2 e (fun z => nomatch z))]; exact (g q m).2
theorem vls_get {ls : Ls} {i : Nat} {x : V} (h : (vls ls)[i]? = some x) : ∃ q, ls[i]? = some q ∧ x = .ref q.1 ∧ q ∈ ls ∧ ls.take (i + 1) = ls.take i ++ [q] := by
  unfold vls at h
  rw [List.getElem?_map] at h
  cases e : ls[i]? with
  | none => rw [e] at h; cases h
  | some q =>
    rw [e] at h
    refine ⟨q, rfl, (Option.some.inj h).symm, List.mem_of_getElem? e, ?_⟩
    rw [List.take_succ, e]
    rfl
theorem vls_len (ls : Ls) : (vls ls).length = ls.length := List.length_map ..
theorem vls_append (a b : Ls) : vls (a ++ b) = vls a ++ vls b := List.map_append ..
theorem dsOf_append (a b : Ls) : dsOf (a ++ b) = dsOf a ++ dsOf b := List.map_append ..
theorem lex_asym : ∀ {a b : List Int}, HT.lexLt a b = true → HT.lexLt b a = false
  | [], [], h => by cases h
  | [], _ :: _, _ => rfl
  | _ :: _, [], h => by cases h
  | x :: a, y :: b, h => by
    rw [HT.lexLt_cons] at h ⊢
    by_cases c : x = y
    · rw [if_pos c] at h
      rw [if_pos c.symm]
      exact lex_asym h
    · rw [if_neg c] at h
      rw [if_neg (Ne.symm c)]
      have := of_decide_eq_true h
      exact decide_eq_false (by omega)
theorem lex_tot : ∀ {a b : List Int}, HT.lexLt b a = false → a ≠ b → HT.lexLt a b = true
  | [], [], _, n => absurd rfl n
  | [], _ :: _, _, _ => rfl
  | _ :: _, [], h, _ => by cases h
  | x :: a, y :: b, h, n => by
    rw [HT.lexLt_cons] at h ⊢
    by_cases c : x = y
    · rw [if_pos c.symm] at h
      rw [if_pos c]
      exact lex_tot h fun e => n (by rw [c, e])
    · rw [if_neg (Ne.symm c)] at h
      rw [if_neg c]
      have := of_decide_eq_false h
      exact decide_eq_true (by omega)
def tot : Ds → List Int → Int
  | [], _ => 0
  | q :: r, ts => (if q.1 = ts then q.2 else 0) + tot r ts
theorem tot_append (ts : List Int) : ∀ a b : Ds, tot (a ++ b) ts = tot a ts + tot b ts
  | [], b => by show tot b ts = 0 + tot b ts; omega
  | q :: a, b => by
    show (if q.1 = ts then q.2 else 0) + tot (a ++ b) ts = (if q.1 = ts then q.2 else 0) + tot a ts + tot b ts
    rw [tot_append ts a b]
    omega
def Pos (ds : Ds) : Prop := ∀ q ∈ ds, 1 ≤ q.2
theorem tot_nonneg {ts : List Int} : ∀ {ds : Ds}, Pos ds → 0 ≤ tot ds ts
  | [], _ => Int.le_refl _
  | q :: r, h => by
    have h1 := h q (List.mem_cons_self ..)
    have h2 := tot_nonneg (ts := ts) (ds := r) fun p m => h p (List.mem_cons_of_mem _ m)
    show 0 ≤ (if q.1 = ts then q.2 else 0) + tot r ts
    split <;> omega
theorem tot_out {ts : List Int} : ∀ {ds : Ds}, ts ∉ ds.map (·.1) → tot ds ts = 0
  | [], _ => rfl
  | q :: r, h => by
    rw [List.map_cons, List.mem_cons, not_or] at h
    show (if q.1 = ts then q.2 else 0) + tot r ts = 0
    rw [if_neg (fun e => h.1 e.symm), tot_out h.2]
    rfl
theorem tot_in {ts : List Int} : ∀ {ds : Ds}, Pos ds → ts ∈ ds.map (·.1) → 0 < tot ds ts
  | [], _, m => nomatch m
  | q :: r, h, m => by
    have h1 := h q (List.mem_cons_self ..)
    have hr : Pos r := fun p m => h p (List.mem_cons_of_mem _ m)
    have h2 := tot_nonneg (ts := ts) hr
    show 0 < (if q.1 = ts then q.2 else 0) + tot r ts
    by_cases c : q.1 = ts
    · rw [if_pos c]; omega
    · rw [if_neg c]
      rcases List.mem_cons.mp m with e | e
      · exact absurd e.symm c
      · have := tot_in hr e
        omega
structure Sheet (ds out : Ds) : Prop where
  srt : out.Pairwise (fun x y => HT.lexLt x.1 y.1 = true)
  mem : ∀ ts n, (ts, n) ∈ out ↔ n = tot ds ts ∧ 0 < n
theorem srt_uniq : ∀ {a b : Ds}, a.Pairwise (fun x y => HT.lexLt x.1 y.1 = true) → b.Pairwise (fun x y => HT.lexLt x.1 y.1 = true) → (∀ q, q ∈ a ↔ q ∈ b) → a = b
  | [], [], _, _, _ => rfl
  | [], y :: b, _, _, h => nomatch (h y).mpr (List.mem_cons_self ..)
  | x :: a, [], _, _, h => nomatch (h x).mp (List.mem_cons_self ..)
  | x :: a, y :: b, ha, hb, h => by
    rw [List.pairwise_cons] at ha hb
    have irr : ∀ z : List Int × Int, HT.lexLt z.1 z.1 ≠ true := fun z e => by
      have := lex_asym e
      rw [e] at this
      cases this
    have e : x = y := by
      rcases List.mem_cons.mp ((h x).mp (List.mem_cons_self ..)) with e | e
      · exact e
      · rcases List.mem_cons.mp ((h y).mpr (List.mem_cons_self ..)) with f | f
        · exact f.symm
        · have p := ha.1 y f
          have q := lex_asym (hb.1 x e)
          rw [p] at q
          cases q
    subst e
    rw [srt_uniq ha.2 hb.2 fun z => ?_]
    constructor
    · intro hz
      rcases List.mem_cons.mp ((h z).mp (List.mem_cons_of_mem _ hz)) with e | e
      · exact absurd (ha.1 z hz) (by rw [e]; exact irr x)
      · exact e
    · intro hz
      rcases List.mem_cons.mp ((h z).mpr (List.mem_cons_of_mem _ hz)) with e | e
      · exact absurd (hb.1 z hz) (by rw [e]; exact irr x)
      · exact e
theorem Sheet.uniq {ds es a b : Ds} (h : Sheet ds a) (k : Sheet es b) (e : ∀ ts, tot ds ts = tot es ts) : a = b :=
  srt_uniq h.srt k.srt fun ⟨ts, n⟩ => by rw [h.mem, k.mem, e]
theorem kv_map (ts : List Int) : (ts.map Sum.inl : List Key).map kV = ts.map V.int := by rw [List.map_map]; rfl
theorem inl_inj {a b : List Int} (h : (a.map Sum.inl : List Key) = b.map Sum.inl) : a = b := by
  have e := congrArg (List.map kV) h
  rw [kv_map, kv_map] at e
  have : ∀ {a b : List Int}, a.map V.int = b.map V.int → a = b := by
    intro a
    induction a with
    | nil => intro b h; cases b with | nil => rfl | cons _ _ => cases h
    | cons x a ih =>
      intro b h
      cases b with
      | nil => cases h
      | cons y b =>
        injection h with h1 h2
        injection h1 with h1
        rw [h1, ih h2]
  exact this e
theorem nd_of_map {α β : Type} {f : α → β} : ∀ {l : List α}, (l.map f).Nodup → l.Nodup
  | [], _ => List.nodup_nil
  | x :: l, h => by
    rw [List.map_cons, List.nodup_cons] at h
    rw [List.nodup_cons]
    exact ⟨fun m => h.1 (List.mem_map.mpr ⟨x, m, rfl⟩), nd_of_map h.2⟩
structure VD (kvs : List (List Key × V)) : Prop where
  nd : (kvs.map (·.1)).Nodup
  all : ∀ q ∈ kvs, ∃ (ts : List Int) (n : Int), q = (ts.map Sum.inl, .int n)
theorem putK_keys {κ : Type} [DecidableEq κ] {kvs : List (κ × V)} {k : κ} {v w : V} (h : valV kvs k = some w) : (putK kvs k v).map (·.1) = kvs.map (·.1) := by
  unfold putK
  rw [valV_any, h, if_pos (show (some w).isSome = true from rfl), List.map_map]
  refine List.map_congr_left fun q _ => ?_
  show (if q.1 = k then (q.1, v) else q).1 = q.1
  split <;> rfl
theorem VD.put {kvs : List (List Key × V)} (h : VD kvs) (ts : List Int) (n : Int) : VD (putK kvs (ts.map Sum.inl) (.int n)) := by
  refine ⟨?_, fun q m => ?_⟩
  · cases e : valV kvs (ts.map Sum.inl : List Key) with
    | none => exact nd_putK _ h.nd e
    | some w => rw [putK_keys e]; exact h.nd
  · unfold putK at m
    split at m
    · obtain ⟨p, pm, rfl⟩ := List.mem_map.mp m
      split
      · rename_i e
        exact ⟨ts, n, by rw [e]⟩
      · exact h.all p pm
    · rcases List.mem_append.mp m with m | m
      · exact h.all q m
      · exact ⟨ts, n, List.mem_singleton.mp m⟩
theorem VD.val {kvs : List (List Key × V)} (h : VD kvs) {k : List Key} {v : V} (e : valV kvs k = some v) : ∃ n : Int, v = .int n := by
  unfold valV at e
  cases c : kvs.find? fun kv => decide (kv.1 = k) with
  | none => rw [c] at e; cases e
  | some q =>
    rw [c] at e
    obtain ⟨ts, n, rfl⟩ := h.all q (List.mem_of_find?_eq_some c)
    exact ⟨n, (Option.some.inj e).symm⟩
theorem VD.keys {kvs : List (List Key × V)} (h : VD kvs) : ∃ ks : List (List Int), kvs.map (·.1) = ks.map (List.map Sum.inl) ∧ ks.length = kvs.length ∧ ks.Nodup ∧ ∀ ts, ts ∈ ks ↔ ∃ n : Int, valV kvs (ts.map Sum.inl) = some (.int n) := by
  have key : ∀ {l : List (List Key × V)}, (∀ q ∈ l, q ∈ kvs) → ∃ ks : List (List Int), l.map (·.1) = ks.map (List.map Sum.inl) ∧ ks.length = l.length := by
    intro l
    induction l with
    | nil => intro _; exact ⟨[], rfl, rfl⟩
    | cons q r ih =>
      intro sub
      obtain ⟨ks, e1, e2⟩ := ih fun p m => sub p (List.mem_cons_of_mem _ m)
      obtain ⟨ts, n, eq⟩ := h.all q (sub q (List.mem_cons_self ..))
      exact ⟨ts :: ks, by rw [List.map_cons, List.map_cons, e1, eq], by rw [List.length_cons, List.length_cons, e2]⟩
  obtain ⟨ks, e1, e2⟩ := key fun q m => m
  have mm : ∀ ts, ts ∈ ks ↔ (ts.map Sum.inl : List Key) ∈ kvs.map (·.1) := fun ts => by
    rw [e1]
    constructor
    · intro m; exact List.mem_map.mpr ⟨ts, m, rfl⟩
    · intro m
      obtain ⟨us, um, e⟩ := List.mem_map.mp m
      rw [← inl_inj e]
      exact um
  refine ⟨ks, e1, e2, ?_, fun ts => ⟨fun m => ?_, fun ⟨n, e⟩ => (mm ts).mpr (valV_in e)⟩⟩
  · have nd := h.nd
    rw [e1] at nd
    exact nd_of_map nd
  · cases c : valV kvs (ts.map Sum.inl : List Key) with
    | none => exact absurd ((mm ts).mp m) (valV_not c)
    | some v =>
      obtain ⟨n, rfl⟩ := h.val c
      exact ⟨n, rfl⟩
structure DictOf (ds : Ds) (kvs : List (List Key × V)) : Prop where
  vd : VD kvs
  val : ∀ ts : List Int, valV kvs (ts.map Sum.inl) = if ts ∈ ds.map (·.1) then some (.int (tot ds ts)) else none
theorem DictOf.nil : DictOf [] [] := ⟨⟨List.nodup_nil, fun _ m => nomatch m⟩, fun _ => rfl⟩
def oldV (kvs : List (List Key × V)) (ts : List Int) : Int := match valV kvs (ts.map Sum.inl : List Key) with
  | some (.int n) => n
  | _ => 0
theorem DictOf.put {ds : Ds} {kvs : List (List Key × V)} (h : DictOf ds kvs) (ts : List Int) (n : Int) : DictOf (ds ++ [(ts, n)]) (putK kvs (ts.map Sum.inl) (.int (tot ds ts + n))) := by
  refine ⟨h.vd.put ts _, fun us => ?_⟩
  rw [valV_put, h.val us, tot_append, List.map_append]
  show (if (us.map Sum.inl : List Key) = ts.map Sum.inl then _ else _) = if us ∈ ds.map (·.1) ++ [ts] then some (V.int (tot ds us + ((if ts = us then n else 0) + 0))) else none
  by_cases c : us = ts
  · subst c
    rw [if_pos rfl, if_pos (by simp), if_pos rfl]
    rw [Int.add_zero]
  · rw [if_neg (fun e => c (inl_inj e)), if_neg (Ne.symm c)]
    by_cases m : us ∈ ds.map (·.1)
    · rw [if_pos m, if_pos (by simp; left; simpa using m)]
      rw [Int.add_zero, Int.add_zero]
    · rw [if_neg m, if_neg (by simp; exact ⟨by simpa using m, c⟩)]
theorem nodup_len {α : Type} [DecidableEq α] : ∀ {l p : List α}, l.Nodup → (∀ x ∈ l, x ∈ p) → l.length ≤ p.length
  | [], _, _, _ => Nat.zero_le _
  | x :: l, p, n, s => by
    rw [List.nodup_cons] at n
    have m := s x (List.mem_cons_self ..)
    have ih := nodup_len (p := p.erase x) n.2 fun y hy => (List.mem_erase_of_ne (fun e : y = x => n.1 (by rw [← e]; exact hy))).mpr (s y (List.mem_cons_of_mem _ hy))
    rw [List.length_erase_of_mem m] at ih
    have := List.length_pos_of_mem m
    rw [List.length_cons]
    omega
theorem DictOf.len {ds : Ds} {kvs : List (List Key × V)} (h : DictOf ds kvs) {p : List (List Int)} (s : ∀ q ∈ ds, q.1 ∈ p) : kvs.length ≤ p.length := by
  obtain ⟨ks, _, e2, nd, mm⟩ := h.vd.keys
  rw [← e2]
  refine nodup_len nd fun ts m => ?_
  obtain ⟨n, e⟩ := (mm ts).mp m
  rw [h.val ts] at e
  by_cases c : ts ∈ ds.map (·.1)
  · obtain ⟨q, qm, rfl⟩ := List.mem_map.mp c
    exact s q qm
  · rw [if_neg c] at e; cases e
theorem DictOf.sheet {ds out : Ds} {kvs : List (List Key × V)} (h : DictOf ds kvs) (p : Pos ds) (srt : out.Pairwise (fun x y => HT.lexLt x.1 y.1 = true)) (mem : ∀ ts n, (ts, n) ∈ out ↔ valV kvs (ts.map Sum.inl) = some (.int n) ∧ 0 < n) : Sheet ds out := by
  refine ⟨srt, fun ts n => ?_⟩
  rw [mem, h.val]
  by_cases c : ts ∈ ds.map (·.1)
  · rw [if_pos c]
    constructor
    · rintro ⟨e, z⟩; injection e with e; injection e with e; exact ⟨e.symm, z⟩
    · rintro ⟨e, z⟩; exact ⟨by rw [e], z⟩
  · rw [if_neg c, tot_out c]
    constructor
    · rintro ⟨e, _⟩; cases e
    · rintro ⟨e, z⟩; omega
theorem old_val {ds : Ds} {kvs : List (List Key × V)} (h : DictOf ds kvs) (ts : List Int) : (valV kvs (ts.map Sum.inl : List Key)).getD (.int 0) = .int (tot ds ts) := by
  rw [h.val ts]
  by_cases c : ts ∈ ds.map (·.1)
  · rw [if_pos c]; rfl
  · rw [if_neg c, tot_out c]; rfl
def spNBS : Sp := fun vs H Q _ => ∃ (l : Addr) (ls : Ls) (p : List (List Int)), vs = [.ref l] ∧ H l = some (.lst (vls ls)) ∧ GoodL H ls ∧ (∀ q ∈ dsOf ls, q.1 ∈ p) ∧ p.length < 64 ∧
  ∀ (d : Addr) (kvs : List (List Key × V)) (H' : Hp), H d = none → Same H H' → H' d = some (.dT kvs) → DictOf (dsOf ls) kvs → Q (.ref d) H'
def spSF : Sp := fun vs H Q _ => ∃ (d : Addr) (kvs : List (List Key × V)), vs = [.ref d] ∧ H d = some (.dT kvs) ∧ VD kvs ∧ kvs.length < 64 ∧
  ∀ (l : Addr) (ls : Ls) (H' : Hp), H l = none → Same H H' → H' l = some (.lst (vls ls)) → GoodL H' ls → (dsOf ls).Pairwise (fun x y => HT.lexLt x.1 y.1 = true) → (∀ ts n, (ts, n) ∈ dsOf ls ↔ valV kvs (ts.map Sum.inl) = some (.int n) ∧ 0 < n) → ls.length < 64 → Q (.ref l) H'
def spSheetOf : Sp := fun vs H Q _ => ∃ (l : Addr) (ls : Ls) (p : List (List Int)), vs = [.ref l] ∧ H l = some (.lst (vls ls)) ∧ GoodL H ls ∧ (∀ q ∈ dsOf ls, q.1 ∈ p) ∧ p.length < 64 ∧ (∀ q ∈ dsOf ls, 1 ≤ q.2 ∧ q.2 ≤ 1000000000) ∧
  ∀ (l' : Addr) (ls' : Ls) (H' : Hp), H l' = none → Same H H' → H' l' = some (.lst (vls ls')) → GoodL H' ls' → Sheet (dsOf ls) (dsOf ls') → ls'.length < 64 → Q (.ref l') H'
def allL (bs : List (Addr × Ls)) : Ls := (bs.map (·.2)).flatten
theorem tot_sum (ts : List Int) : ∀ ds : Ds, ((ds.filter fun q => decide (q.1 = ts)).map (·.2)).sum = tot ds ts
  | [] => rfl
  | q :: r => by
    show _ = (if q.1 = ts then q.2 else 0) + tot r ts
    by_cases c : q.1 = ts
    · rw [List.filter_cons_of_pos (by simpa using c), List.map_cons, List.sum_cons, tot_sum ts r, if_pos c]
    · rw [List.filter_cons_of_neg (by simpa using c), tot_sum ts r, if_neg c]
      omega
abbrev Ps := List (Addr × List Int)
def vps (ps : Ps) : List V := ps.map fun q => .ref q.1
def GoodP (H : Hp) (ps : Ps) : Prop := ∀ q ∈ ps, H q.1 = some (.tup (q.2.map V.int))
theorem GoodP.same {H H' : Hp} {ps : Ps} (s : Same H H') (g : GoodP H ps) : GoodP H' ps := fun q m => s _ _ (g q m)
theorem vps_len (ps : Ps) : (vps ps).length = ps.length := List.length_map ..
theorem pow_small {h : Nat} (hh : h < 64) : CPow 1 (h : Int) := ⟨by omega, by omega, by decide⟩
theorem pick3 {x0 x1 x2 : Int} (P : Int → Prop) (m : Int) (h0 : 0 ≤ m) (h3 : m < 3) (p0 : P x0) (p1 : P x1) (p2 : P x2) : ∃ v, atI [V.int x0, V.int x1, V.int x2] m = some (.int v) ∧ P v := by
  rcases (by omega : m = 0 ∨ m = 1 ∨ m = 2) with rfl | rfl | rfl
  · exact ⟨x0, rfl, p0⟩
  · exact ⟨x1, rfl, p1⟩
  · exact ⟨x2, rfl, p2⟩
def ld (q : List Int × Int) : PyData := .tuple [.tuple (q.1.map .int), .int q.2]
theorem reps_ls {K : PySem.W.Frag} {H : Hp} : ∀ {ls : Ls}, GoodL H ls → Reps K H (vls ls) ((dsOf ls).map ld)
  | [], _ => .nil
  | q :: _, g => by
    obtain ⟨g1, g2⟩ := g q (List.mem_cons_self ..)
    exact .cons (.tup (SqT.of g1) (.cons (.tup (SqT.of g2) (.ints _)) (.cons (.int _) .nil))) (reps_ls (g.sub fun _ m => List.mem_cons_of_mem _ m))
theorem lay_ls : ∀ ds : Ds, PyData.canLayAll0 (ds.map ld) = true ∧ PyData.depthAll (ds.map ld) ≤ 2
  | [] => ⟨rfl, Nat.zero_le _⟩
  | q :: r => by
    obtain ⟨h1, h2⟩ := lay_ls r
    obtain ⟨i1, i2⟩ := lay_ints q.1
    refine ⟨?_, ?_⟩
    · show ((PyData.canLayAll0 (q.1.map .int) && (true && true)) && PyData.canLayAll0 (r.map ld)) = true
      rw [h1, i1]; rfl
    · show max (max (PyData.depthAll (q.1.map .int) + 1) (max 0 0) + 1) (PyData.depthAll (r.map ld)) ≤ 2
      omega
theorem shape_ls (ds : Ds) : SeqAt.shaped (.list (ds.map ld)) = true := by
  obtain ⟨h1, h2⟩ := lay_ls ds
  unfold SeqAt.shaped
  rw [Bool.and_eq_true]
  refine ⟨h1, decide_eq_true ?_⟩
  show PyData.depthAll (ds.map ld) + 1 ≤ 64
  omega
theorem eqv_ls : ∀ ds : Ds, PyData.eqvAll (ds.map ld) (ds.map ld) = true
  | [] => rfl
  | q :: r => by
    show ((PyData.eqvAll (q.1.map .int) (q.1.map .int) && ((q.2 == q.2) && true)) && PyData.eqvAll (r.map ld) (r.map ld)) = true
    rw [eqv_ls r, eqv_ints, decide_eq_true rfl, beq_self_eq_true]
    rfl
def spSlip26 : Sp := fun vs H Q _ => ∃ c h : Int, vs = [.int c, .int h] ∧ 0 ≤ c ∧ c < 10 ^ 18 ∧ 1 ≤ h ∧ h ≤ 12 ∧ ∀ (t : Addr) (ts : List Int) (H' : Hp), Same H H' → H' t = some (.tup (ts.map V.int)) → Q (.ref t) H'
def spLines26 (K : PySem.W.Frag) : Sp := fun vs H Q _ => ∃ (p : Addr) (ns : List Int) (k m : Int) (b : Addr) (ps : Ps), vs = [.ref p, .int k, .int m, .ref b] ∧ SqL K H p (ns.map V.int) ∧ ns.length ≤ 63 ∧ k = 1 ∧ 3 ≤ m ∧ m ≤ 60 ∧ H b = some (.lst (vps ps)) ∧ GoodP H ps ∧ 0 < ps.length ∧ ps.length ≤ 40 ∧
  ∀ (l : Addr) (ls : Ls) (H' : Hp), Same H H' → H' l = some (.lst (vls ls)) → GoodL H' ls → (∀ q ∈ ls, (q.2.1, q.2.2.1) ∈ ps) → (∀ q ∈ dsOf ls, 1 ≤ q.2 ∧ q.2 ≤ 1000000000) → 3 ≤ ls.length → (ls.length : Int) ≤ m → Q (.ref l) H'
def spSame26 : Sp := fun vs H Q _ => ∃ (a b : Addr) (ls ms : Ls), vs = [.ref a, .ref b] ∧ H a = some (.lst (vls ls)) ∧ H b = some (.lst (vls ms)) ∧ GoodL H ls ∧ GoodL H ms ∧ dsOf ls = dsOf ms ∧ Q (.bl true) H
theorem lex_irr (a : List Int) : HT.lexLt a a ≠ true := fun e => by
  have := lex_asym e
  rw [e] at this
  cases this
theorem tot_of_mem {ts : List Int} {n : Int} : ∀ {out : Ds}, out.Pairwise (fun x y => HT.lexLt x.1 y.1 = true) → (ts, n) ∈ out → tot out ts = n
  | [], _, m => nomatch m
  | q :: r, h, m => by
    rw [List.pairwise_cons] at h
    show (if q.1 = ts then q.2 else 0) + tot r ts = n
    rcases List.mem_cons.mp m with e | e
    · rw [← e, if_pos rfl, tot_out fun k => ?_]
      · exact Int.add_zero _
      · obtain ⟨x, xm, xe⟩ := List.mem_map.mp k
        have := h.1 x xm
        rw [← e, xe] at this
        exact lex_irr _ this
    · rw [if_neg fun c => lex_irr q.1 (by have := h.1 _ e; rw [show (ts, n).1 = q.1 from c.symm] at this; exact this), tot_of_mem h.2 e]
      exact Int.zero_add _
theorem Sheet.tot {ds out : Ds} (h : Sheet ds out) (p : Pos ds) (ts : List Int) : Law.tot out ts = Law.tot ds ts := by
  by_cases c : 0 < Law.tot ds ts
  · exact tot_of_mem h.srt ((h.mem ts _).mpr ⟨rfl, c⟩)
  · have z := tot_nonneg (ts := ts) p
    rw [tot_out fun k => ?_]
    · omega
    · obtain ⟨x, xm, xe⟩ := List.mem_map.mp k
      have := (h.mem x.1 x.2).mp xm
      rw [xe] at this
      omega
theorem Sheet.pos {ds out : Ds} (h : Sheet ds out) : Pos out := fun q m => by
  have := (h.mem q.1 q.2).mp m
  omega
theorem Sheet.keys {ds out : Ds} (h : Sheet ds out) {p : List (List Int)} (hp : ∀ q ∈ ds, q.1 ∈ p) : ∀ q ∈ out, q.1 ∈ p := fun q m => by
  have k := (h.mem q.1 q.2).mp m
  by_cases c : q.1 ∈ ds.map (·.1)
  · obtain ⟨r, rm, e⟩ := List.mem_map.mp c
    rw [← e]
    exact hp r rm
  · rw [tot_out c] at k
    omega
def d2 (a b : Ds) : PyData := .list [.list (a.map ld), .list (b.map ld)]
theorem cut_drop {xs : List V} {j : Nat} : cutV xs (some (j : Int)) none = xs.drop j := by
  unfold cutV
  rw [HT.sIx_none, HT.sIx_nat]
  by_cases h : j ≤ xs.length
  · rw [Nat.min_eq_left h]
    exact List.take_of_length_le (by rw [List.length_drop]; exact Nat.le_refl _)
  · rw [Nat.min_eq_right (by omega), List.drop_of_length_le (Nat.le_refl _), List.drop_of_length_le (by omega)]
    exact List.take_nil
theorem vls_take (ls : Ls) (k : Nat) : (vls ls).take k = vls (ls.take k) := (List.map_take ..).symm
theorem vls_drop (ls : Ls) (k : Nat) : (vls ls).drop k = vls (ls.drop k) := (List.map_drop ..).symm
theorem ds_drop {ls : Ls} {k : Nat} {q : List Int × Int} (m : q ∈ dsOf (ls.drop k)) : q ∈ dsOf ls := by
  obtain ⟨r, rm, rfl⟩ := List.mem_map.mp m
  exact List.mem_map.mpr ⟨r, List.mem_of_mem_drop rm, rfl⟩
structure Part (H : Hp) (p : List (List Int)) (b : Addr × Ls) : Prop where
  lies : H b.1 = some (.lst (vls b.2))
  good : GoodL H b.2
  keys : ∀ q ∈ dsOf b.2, q.1 ∈ p
  pos : Pos (dsOf b.2)
theorem Part.same {H H' : Hp} {p : List (List Int)} {b : Addr × Ls} (h : Part H p b) (s : Same H H') : Part H' p b := ⟨s _ _ h.lies, h.good.same s, h.keys, h.pos⟩
theorem mem_allL {q : List Int × Int} : ∀ {bs : List (Addr × Ls)}, q ∈ dsOf (allL bs) → ∃ b ∈ bs, q ∈ dsOf b.2
  | [], m => nomatch m
  | b :: bs, m => by
    rw [show allL (b :: bs) = b.2 ++ allL bs from rfl, dsOf_append] at m
    rcases List.mem_append.mp m with m | m
    · exact ⟨b, List.mem_cons_self .., m⟩
    · obtain ⟨c, cm, x⟩ := mem_allL m
      exact ⟨c, List.mem_cons_of_mem _ cm, x⟩
def Parts (H : Hp) (p : List (List Int)) (bs : List (Addr × Ls)) : Prop := ∀ b ∈ bs, Part H p b
theorem Parts.at {H : Hp} {p : List (List Int)} {bs : List (Addr × Ls)} (hb : Parts H p bs) : ∀ b ∈ bs, H b.1 = some (.lst (vls b.2)) ∧ GoodL H b.2 := fun b m => ⟨(hb b m).lies, (hb b m).good⟩
theorem Parts.keys {H : Hp} {p : List (List Int)} {bs : List (Addr × Ls)} (hb : Parts H p bs) : ∀ q ∈ dsOf (allL bs), q.1 ∈ p := fun q m => let ⟨b, bm, x⟩ := mem_allL m; (hb b bm).keys q x
theorem Parts.pos {H : Hp} {p : List (List Int)} {bs : List (Addr × Ls)} (hb : Parts H p bs) : Pos (dsOf (allL bs)) := fun q m => let ⟨b, bm, x⟩ := mem_allL m; (hb b bm).pos q x
theorem Parts.nil {H : Hp} {p : List (List Int)} : Parts H p [] := fun _ m => nomatch m
theorem Parts.cons {H : Hp} {p : List (List Int)} {b : Addr × Ls} {bs : List (Addr × Ls)} (h : Part H p b) (k : Parts H p bs) : Parts H p (b :: bs) := fun c m => (List.mem_cons.mp m).elim (fun e => e ▸ h) (k c)
theorem Parts.same {H H' : Hp} {p : List (List Int)} {bs : List (Addr × Ls)} (hb : Parts H p bs) (s : Same H H') : Parts H' p bs := fun b m => (hb b m).same s
theorem Sheet.nil : Sheet [] [] := ⟨List.Pairwise.nil, fun ts n => ⟨(fun m => nomatch m), fun h => absurd h.2 (by rw [h.1]; exact (by decide : ¬ (0 : Int) < 0))⟩⟩
theorem Sheet.len {ds out : Ds} (h : Sheet ds out) {p : List (List Int)} (hp : ∀ q ∈ ds, q.1 ∈ p) : out.length ≤ p.length := by
  have nd : (out.map (·.1)).Nodup := by
    refine List.pairwise_map.mpr (h.srt.imp fun {x y} k e => ?_)
    rw [e] at k
    exact lex_irr _ k
  have := nodup_len nd fun x xm => by
    obtain ⟨q, qm, rfl⟩ := List.mem_map.mp xm
    exact h.keys hp q qm
  rw [List.length_map] at this
  exact this
theorem Sheet.of_tot {ds es out : Ds} (h : Sheet ds out) (e : ∀ ts, Law.tot es ts = Law.tot ds ts) : Sheet es out := ⟨h.srt, fun ts n => by rw [e]; exact h.mem ts n⟩
abbrev Rd3 := List (List Int × List Int × Int)
def negs (rs : Rd3) : Ds := rs.map fun q => (q.1, -q.2.2)
def olds (rs : Rd3) : Ds := rs.map fun q => (q.1, q.2.2)
def poss (rs : Rd3) : Ds := rs.map fun q => (q.2.1, q.2.2)
theorem tot_negs (ts : List Int) : ∀ rs : Rd3, tot (negs rs) ts = -tot (olds rs) ts
  | [] => rfl
  | q :: r => by
    show (if q.1 = ts then -q.2.2 else 0) + tot (negs r) ts = -((if q.1 = ts then q.2.2 else 0) + tot (olds r) ts)
    rw [tot_negs ts r]
    split <;> omega
abbrev Rs := List (Addr × (Addr × List Int) × (Addr × List Int) × Int)
def vrs (rs : Rs) : List V := rs.map fun q => .ref q.1
def rdOf (rs : Rs) : Rd3 := rs.map fun q => (q.2.1.2, q.2.2.1.2, q.2.2.2)
def GoodR (H : Hp) (rs : Rs) : Prop := ∀ q ∈ rs, H q.1 = some (.tup [.ref q.2.1.1, .ref q.2.2.1.1, .int q.2.2.2]) ∧ H q.2.1.1 = some (.tup (q.2.1.2.map V.int)) ∧ H q.2.2.1.1 = some (.tup (q.2.2.1.2.map V.int))
theorem GoodR.same {H H' : Hp} {rs : Rs} (s : Same H H') (g : GoodR H rs) : GoodR H' rs := fun q m => ⟨s _ _ (g q m).1, s _ _ (g q m).2.1, s _ _ (g q m).2.2⟩
theorem GoodR.append {H : Hp} {a b : Rs} (g : GoodR H a) (k : GoodR H b) : GoodR H (a ++ b) := fun q m => (List.mem_append.mp m).elim (g q) (k q)
theorem GoodR.upd {H : Hp} {rs : Rs} {l : Addr} {o o' : HO} (e : H l = some o) (n : ∀ xs, o ≠ .tup xs) (g : GoodR H rs) : GoodR (L2.upd H l o') rs := fun q m => by
  have ne : ∀ {b : Addr} {xs : List V}, H b = some (.tup xs) → b ≠ l := fun z y => by rw [y, e] at z; exact n _ (Option.some.inj z)
  exact ⟨by rw [upd_ne (ne (g q m).1)]; exact (g q m).1, by rw [upd_ne (ne (g q m).2.1)]; exact (g q m).2.1, by rw [upd_ne (ne (g q m).2.2)]; exact (g q m).2.2⟩
theorem vrs_len (rs : Rs) : (vrs rs).length = rs.length := List.length_map ..
theorem vrs_get {rs : Rs} {i : Nat} {x : V} (h : (vrs rs)[i]? = some x) : ∃ q, rs[i]? = some q ∧ x = .ref q.1 ∧ q ∈ rs ∧ rs.take (i + 1) = rs.take i ++ [q] := by
  unfold vrs at h
  rw [List.getElem?_map] at h
  cases e : rs[i]? with
  | none => rw [e] at h; cases h
  | some q =>
    rw [e] at h
    refine ⟨q, rfl, (Option.some.inj h).symm, List.mem_of_getElem? e, ?_⟩
    rw [List.take_succ, e]
    rfl
def RowsOk (rd : Rd3) : Prop := ∀ q ∈ rd, q.1 ≠ q.2.1 ∧ 1 ≤ q.2.2
theorem rdOf_append (a b : Rs) : rdOf (a ++ b) = rdOf a ++ rdOf b := List.map_append ..
theorem negs_append (a b : Rd3) : negs (a ++ b) = negs a ++ negs b := List.map_append ..
theorem poss_append (a b : Rd3) : poss (a ++ b) = poss a ++ poss b := List.map_append ..
theorem mem_rd {rs : Rs} {q : Addr × (Addr × List Int) × (Addr × List Int) × Int} (m : q ∈ rs) : (q.2.1.2, q.2.2.1.2, q.2.2.2) ∈ rdOf rs := List.mem_map.mpr ⟨q, m, rfl⟩
def KeysR (rd : Rd3) (p : List (List Int)) : Prop := ∀ q ∈ rd, q.1 ∈ p ∧ q.2.1 ∈ p
theorem keys_negs {rd : Rd3} {p : List (List Int)} (h : KeysR rd p) : ∀ q ∈ negs rd, q.1 ∈ p := fun q m => by
  obtain ⟨r, rm, rfl⟩ := List.mem_map.mp m
  exact (h r rm).1
theorem keys_poss {rd : Rd3} {p : List (List Int)} (h : KeysR rd p) : ∀ q ∈ poss rd, q.1 ∈ p := fun q m => by
  obtain ⟨r, rm, rfl⟩ := List.mem_map.mp m
  exact (h r rm).2
theorem keys_take {rs : Rs} {p : List (List Int)} (h : KeysR (rdOf rs) p) (i : Nat) : KeysR (rdOf (rs.take i)) p := fun q m => by
  obtain ⟨r, rm, rfl⟩ := List.mem_map.mp m
  exact h _ (mem_rd (List.mem_of_mem_take rm))
def prOf (ls : Ls) : List Pr := ls.map fun q => (q.1, q.2.1, q.2.2.1.map Sum.inl, .int q.2.2.2)
theorem prs_of (ls : Ls) : prs (prOf ls) = vls ls := by unfold prs prOf vls; rw [List.map_map]; rfl
theorem prOk_of {H : Hp} {ls : Ls} (g : GoodL H ls) : PrOk H (prOf ls) := fun q m => by
  obtain ⟨r, rm, rfl⟩ := List.mem_map.mp m
  exact ⟨(g r rm).1, by rw [kv_map]; exact (g r rm).2⟩
theorem dict_go : ∀ (ls : Ls) {ds : Ds} {kvs : List (List Key × V)}, DictOf ds kvs → ((ds ++ dsOf ls).map (·.1)).Nodup → DictOf (ds ++ dsOf ls) (putAll kvs (prOf ls))
  | [], ds, kvs, h, _ => by show DictOf (ds ++ []) kvs; rw [List.append_nil]; exact h
  | q :: r, ds, kvs, h, nd => by
    have e : ds ++ dsOf (q :: r) = (ds ++ [(q.2.2.1, q.2.2.2)]) ++ dsOf r := by rw [List.append_assoc]; rfl
    have z : tot ds q.2.2.1 = 0 := tot_out fun m => by
      rw [List.map_append] at nd
      exact (List.nodup_append.mp nd).2.2 _ m _ (List.mem_cons_self ..) rfl
    have p := h.put q.2.2.1 q.2.2.2
    rw [z, Int.zero_add] at p
    rw [e] at nd ⊢
    exact dict_go r p nd
theorem dict_of_sheet {ls : Ls} (nd : ((dsOf ls).map (·.1)).Nodup) : DictOf (dsOf ls) (putAll [] (prOf ls)) := dict_go ls DictOf.nil nd
theorem srt_nd {out : Ds} (h : out.Pairwise (fun x y => HT.lexLt x.1 y.1 = true)) : (out.map (·.1)).Nodup := List.pairwise_map.mpr (h.imp fun k e => by rw [e] at k; exact lex_irr _ k)
def spBehind : Sp := fun vs H Q _ => ∃ (s c : Addr) (ms : Ls) (rs : Rs) (p : List (List Int)), vs = [.ref s, .ref c] ∧ H s = some (.lst (vls ms)) ∧ GoodL H ms ∧ ms.length < 64 ∧ ((dsOf ms).map (·.1)).Nodup ∧ H c = some (.lst (vrs rs)) ∧ GoodR H rs ∧ (∀ q ∈ rdOf rs, q.1 ∈ (dsOf ms).map (·.1)) ∧ (∀ q ∈ dsOf ms, q.1 ∈ p) ∧ KeysR (rdOf rs) p ∧ p.length < 64 ∧
  ∀ (l' : Addr) (ls' : Ls) (H' : Hp), H l' = none → Same H H' → H' l' = some (.lst (vls ls')) → GoodL H' ls' → Sheet (dsOf ms ++ negs (rdOf rs) ++ poss (rdOf rs)) (dsOf ls') → ls'.length < 64 → Q (.ref l') H'
theorem tot_low {ts : List Int} : ∀ {ds : Ds}, (∀ q ∈ ds, 0 ≤ q.2) → 0 ≤ tot ds ts
  | [], _ => Int.le_refl _
  | q :: r, h => by
    have h1 := h q (List.mem_cons_self ..)
    have h2 := tot_low (ts := ts) (ds := r) fun p m => h p (List.mem_cons_of_mem _ m)
    show 0 ≤ (if q.1 = ts then q.2 else 0) + tot r ts
    split <;> omega
theorem DictOf.sheet' {ds out : Ds} {kvs : List (List Key × V)} (h : DictOf ds kvs) (srt : out.Pairwise (fun x y => HT.lexLt x.1 y.1 = true)) (mem : ∀ ts n, (ts, n) ∈ out ↔ valV kvs (ts.map Sum.inl) = some (.int n) ∧ 0 < n) : Sheet ds out := by
  refine ⟨srt, fun ts n => ?_⟩
  rw [mem, h.val]
  by_cases c : ts ∈ ds.map (·.1)
  · rw [if_pos c]
    constructor
    · rintro ⟨e, z⟩; injection e with e; injection e with e; exact ⟨e.symm, z⟩
    · rintro ⟨e, z⟩; exact ⟨by rw [e], z⟩
  · rw [if_neg c, tot_out c]
    constructor
    · rintro ⟨e, _⟩; cases e
    · rintro ⟨e, z⟩; omega
theorem valV_at : ∀ {kvs : List (List Key × V)} {k : List Key} {v : V}, (kvs.map (·.1)).Nodup → (k, v) ∈ kvs → valV kvs k = some v
  | [], _, _, _, m => nomatch m
  | q :: r, k, v, nd, m => by
    rw [List.map_cons, List.nodup_cons] at nd
    unfold valV
    rw [List.find?_cons]
    rcases List.mem_cons.mp m with e | e
    · rw [← e]
      simp
    · have ne : q.1 ≠ k := fun z => nd.1 (z ▸ List.mem_map.mpr ⟨(k, v), e, rfl⟩)
      rw [decide_eq_false ne]
      exact valV_at nd.2 e
theorem DictOf.at {ds : Ds} {kvs : List (List Key × V)} (h : DictOf ds kvs) {i : Nat} {x : V} (e : (kvs[i]?).map (·.2) = some x) : ∃ ts : List Int, x = .int (tot ds ts) := by
  obtain ⟨q, hq, rfl⟩ := Option.map_eq_some_iff.mp e
  have qm := List.mem_of_getElem? hq
  obtain ⟨ts, n, rfl⟩ := h.vd.all q qm
  refine ⟨ts, ?_⟩
  have v := valV_at h.vd.nd qm
  have w := h.val ts
  rw [v] at w
  split at w
  · exact Option.some.inj w
  · cases w
theorem kan_nil {K : PySem.W.Frag} {t : Value} : PySem.W.kitAny K t [] = some false := rfl
theorem kan {K : PySem.W.Frag} {t c : Value} {cs : List Value} (h : PySem.W.kitOne K t c = some false) (r : PySem.W.kitAny K t cs = some false) : PySem.W.kitAny K t (c :: cs) = some false := by
  unfold PySem.W.kitAny
  rw [h]
  exact r
def spOther8 (A B : Addr) : Sp := fun vs H Q _ => ∃ (e C : Addr), vs = [.ref e] ∧ (C = A ∨ C = B) ∧ H e = some (hoX e (.ref C) none) ∧ ∀ H' : Hp, Same H H' → Q (.bl false) H'
def spWh (K : PySem.W.Frag) : Sp := fun vs H Q _ => ∃ x b, vs = [x] ∧ Wh K H x b ∧ Q (.bl b) H
def okNum : V → Bool
  | .int n => decide (1 ≤ n) && decide (n ≤ 1000000000)
  | _ => false
def spNumX (K : PySem.W.Frag) : Sp := fun vs H Q _ => ∃ x : V, vs = [x] ∧ ((Wh K H x false ∧ okNum x = false) ∨ ∃ n : Int, x = .int n) ∧ Q (.bl (okNum x)) H
def spBadN : Sp := fun vs H Q _ => ∃ c : Int, vs = [.int c] ∧ 0 ≤ c ∧ c < 10 ^ 40 ∧ ∀ (l t a : Addr) (n : Int) (H' : Hp), H l = none → Same H H' → n ≤ -1 → H' t = some (.tup [.int 1]) → H' a = some (.lst [.int 1]) → H' l = some (.lst [.int 0, .int (-1), .int n, .bl true, .bl false, .non, .str (Str.ofString "1"), .ref t, .ref a]) → Q (.ref l) H'
abbrev Ws := List (Addr × Addr × List Int × V)
def vws (ws : Ws) : List V := ws.map fun q => .ref q.1
def GoodW (K : PySem.W.Frag) (H : Hp) (ws : Ws) : Prop := ∀ q ∈ ws, H q.1 = some (.tup [.ref q.2.1, q.2.2.2]) ∧ H q.2.1 = some (.tup (q.2.2.1.map V.int)) ∧ ((Wh K H q.2.2.2 false ∧ okNum q.2.2.2 = false) ∨ ∃ n : Int, q.2.2.2 = .int n)
theorem vws_get {ws : Ws} {i : Nat} {x : V} (h : (vws ws)[i]? = some x) : ∃ q, x = .ref q.1 ∧ q ∈ ws ∧ ws.take (i + 1) = ws.take i ++ [q] := by
  unfold vws at h
  rw [List.getElem?_map] at h
  cases e : ws[i]? with
  | none => rw [e] at h; cases h
  | some q =>
    rw [e] at h
    refine ⟨q, (Option.some.inj h).symm, List.mem_of_getElem? e, ?_⟩
    rw [List.take_succ, e]
    rfl
def spSheetX (K : PySem.W.Frag) (C : Addr) : Sp := fun vs H Q E => spSheetOf vs H Q E ∨ ∃ (l : Addr) (ws : Ws), vs = [.ref l] ∧ H l = some (.lst (vws ws)) ∧ GoodW K H ws ∧ (∃ q ∈ ws, okNum q.2.2.2 = false) ∧ ∀ H' : Hp, Same H H' → E (.ref C) none H'
def okRow (ts us : List Int) : V → Bool
  | .int n => decide (1 ≤ n) && !decide (ts = us)
  | _ => false
def spCheckX (K : PySem.W.Frag) (C : Addr) : Sp := fun vs H Q E => ∃ (a b : Addr) (ts us : List Int) (x : V), vs = [.ref a, .ref b, x] ∧ H a = some (.tup (ts.map V.int)) ∧ H b = some (.tup (us.map V.int)) ∧ ((Wh K H x false ∧ okRow ts us x = false) ∨ ∃ n : Int, x = .int n) ∧ (okRow ts us x = true → Q .non H) ∧ (okRow ts us x = false → ∀ H' : Hp, Same H H' → E (.ref C) none H')
abbrev Rv := List (Addr × (Addr × List Int) × (Addr × List Int) × V)
def vrv (rv : Rv) : List V := rv.map fun q => .ref q.1
def GoodV (K : PySem.W.Frag) (H : Hp) (rv : Rv) : Prop := ∀ q ∈ rv, H q.1 = some (.tup [.ref q.2.1.1, .ref q.2.2.1.1, q.2.2.2]) ∧ H q.2.1.1 = some (.tup (q.2.1.2.map V.int)) ∧ H q.2.2.1.1 = some (.tup (q.2.2.1.2.map V.int)) ∧ ((Wh K H q.2.2.2 false ∧ okRow q.2.1.2 q.2.2.1.2 q.2.2.2 = false) ∨ ∃ n : Int, q.2.2.2 = .int n)
theorem vrv_get {rv : Rv} {i : Nat} {x : V} (h : (vrv rv)[i]? = some x) : ∃ q, x = .ref q.1 ∧ q ∈ rv ∧ rv.take (i + 1) = rv.take i ++ [q] := by
  unfold vrv at h
  rw [List.getElem?_map] at h
  cases e : rv[i]? with
  | none => rw [e] at h; cases h
  | some q =>
    rw [e] at h
    refine ⟨q, (Option.some.inj h).symm, List.mem_of_getElem? e, ?_⟩
    rw [List.take_succ, e]
    rfl
theorem valV_mem {kvs : List (List Key × V)} {k : List Key} {v : V} (h : valV kvs k = some v) : ∃ q ∈ kvs, q.2 = v := by
  unfold valV at h
  obtain ⟨q, hq, e⟩ := Option.map_eq_some_iff.mp h
  exact ⟨q, List.mem_of_find?_eq_some hq, e⟩
def negV : V → Bool
  | .int n => decide (n < 0)
  | _ => false
def spChangedX (K : PySem.W.Frag) (C : Addr) : Sp := fun vs H Q E => ∃ (l c : Addr) (ls : Ls), vs = [.ref l, .ref c] ∧ H l = some (.lst (vls ls)) ∧ GoodL H ls ∧
  ((∃ (rs : Rs) (p : List (List Int)), H c = some (.lst (vrs rs)) ∧ GoodR H rs ∧ RowsOk (rdOf rs) ∧ (∀ q ∈ dsOf ls, q.1 ∈ p) ∧ KeysR (rdOf rs) p ∧ p.length < 64 ∧ (∀ ts, 0 ≤ tot (dsOf ls ++ negs (rdOf rs)) ts) ∧
    ∀ (l' : Addr) (ls' : Ls) (H' : Hp), H l' = none → Same H H' → H' l' = some (.lst (vls ls')) → GoodL H' ls' → Sheet (dsOf ls ++ negs (rdOf rs) ++ poss (rdOf rs)) (dsOf ls') → ls'.length < 64 → Q (.ref l') H')
  ∨ (∃ rv : Rv, H c = some (.lst (vrv rv)) ∧ GoodV K H rv ∧ (∃ q ∈ rv, okRow q.2.1.2 q.2.2.1.2 q.2.2.2 = false) ∧ ∀ H' : Hp, Same H H' → E (.ref C) none H')
  ∨ (∃ (rs : Rs) (p : List (List Int)), H c = some (.lst (vrs rs)) ∧ GoodR H rs ∧ RowsOk (rdOf rs) ∧ (∀ q ∈ dsOf ls, q.1 ∈ p) ∧ KeysR (rdOf rs) p ∧ p.length < 64 ∧ (∃ ts, tot (dsOf ls ++ negs (rdOf rs)) ts < 0) ∧ ∀ H' : Hp, Same H H' → E (.ref C) none H'))
def spNoSheet (K : PySem.W.Frag) : Sp := fun vs H Q _ => ∃ (l : Addr) (ws : Ws), vs = [.ref l] ∧ H l = some (.lst (vws ws)) ∧ GoodW K H ws ∧ (∃ q ∈ ws, okNum q.2.2.2 = false) ∧ ∀ H' : Hp, Same H H' → Q (.bl true) H'
def spNoChange (K : PySem.W.Frag) : Sp := fun vs H Q _ => ∃ (l c : Addr) (ls : Ls), vs = [.ref l, .ref c] ∧ H l = some (.lst (vls ls)) ∧ GoodL H ls ∧
  ((∃ rv : Rv, H c = some (.lst (vrv rv)) ∧ GoodV K H rv ∧ ∃ q ∈ rv, okRow q.2.1.2 q.2.2.1.2 q.2.2.2 = false)
  ∨ (∃ (rs : Rs) (p : List (List Int)), H c = some (.lst (vrs rs)) ∧ GoodR H rs ∧ RowsOk (rdOf rs) ∧ (∀ q ∈ dsOf ls, q.1 ∈ p) ∧ KeysR (rdOf rs) p ∧ p.length < 64 ∧ ∃ ts, tot (dsOf ls ++ negs (rdOf rs)) ts < 0)) ∧ ∀ H' : Hp, Same H H' → Q (.bl true) H'
def spGood : Sp := fun vs H Q _ => ∃ (l b c u : Addr) (ls ms us : Ls) (rs : Rs) (p : List (List Int)), vs = [.ref l, .ref b, .ref c, .ref u] ∧ H l = some (.lst (vls ls)) ∧ GoodL H ls ∧ H b = some (.lst (vls ms)) ∧ GoodL H ms ∧ H c = some (.lst (vrs rs)) ∧ GoodR H rs ∧ H u = some (.lst (vls us)) ∧ GoodL H us ∧ (∀ q ∈ dsOf ls, q.1 ∈ p) ∧ (∀ q ∈ dsOf ms, q.1 ∈ p) ∧ p.length < 64 ∧ (∀ q ∈ dsOf ls, 1 ≤ q.2 ∧ q.2 ≤ 1000000000) ∧ Sheet (dsOf ls) (dsOf ms) ∧ RowsOk (rdOf rs) ∧ KeysR (rdOf rs) p ∧ (∀ ts, 0 ≤ tot (dsOf ms ++ negs (rdOf rs)) ts) ∧ Sheet (dsOf ms ++ negs (rdOf rs) ++ poss (rdOf rs)) (dsOf us) ∧ ∀ H' : Hp, Same H H' → Q (.bl true) H'
def OkD (K : PySem.W.Frag) (H : Hp) (v : V) : Prop := ∃ d, Rep K H v d ∧ PyData.canLayAll0 [d] = true ∧ PyData.depthAll [d] ≤ 1 ∧ PyData.eqvAll [d] [d] = true
theorem OkD.int {K : PySem.W.Frag} {H : Hp} (n : Int) : OkD K H (.int n) := ⟨_, .int n, rfl, Nat.zero_le _, by show ((n == n) && true) = true; rw [beq_self_eq_true]; rfl⟩
theorem OkD.bl {K : PySem.W.Frag} {H : Hp} (b : Bool) : OkD K H (.bl b) := ⟨_, .bl b, rfl, Nat.zero_le _, by cases b <;> rfl⟩
theorem OkD.non {K : PySem.W.Frag} {H : Hp} : OkD K H .non := ⟨_, .non, rfl, by decide, rfl⟩
theorem OkD.str {K : PySem.W.Frag} {H : Hp} : OkD K H (.str (Str.ofString "1")) := ⟨_, .str _, by decide +kernel, by decide +kernel, by decide +kernel⟩
theorem OkD.tup {K : PySem.W.Frag} {H : Hp} {a : Addr} (h : H a = some (.tup [.int 1])) : OkD K H (.ref a) := ⟨_, .tup (SqT.of h) (.cons (.int 1) .nil), by decide +kernel, by decide +kernel, by decide +kernel⟩
theorem OkD.lst {K : PySem.W.Frag} {H : Hp} {a : Addr} (h : H a = some (.lst [.int 1])) : OkD K H (.ref a) := ⟨_, .lst (SqL.of h) (.cons (.int 1) .nil), by decide +kernel, by decide +kernel, by decide +kernel⟩
theorem reps_ws {K : PySem.W.Frag} {H : Hp} : ∀ {ws : Ws}, (∀ q ∈ ws, H q.1 = some (.tup [.ref q.2.1, q.2.2.2]) ∧ H q.2.1 = some (.tup (q.2.2.1.map V.int)) ∧ OkD K H q.2.2.2) → ∃ ds, Reps K H (vws ws) ds ∧ PyData.canLayAll0 ds = true ∧ PyData.depthAll ds ≤ 2 ∧ PyData.eqvAll ds ds = true
  | [], _ => ⟨[], .nil, rfl, Nat.zero_le _, rfl⟩
  | q :: r, g => by
    obtain ⟨ds, r1, r2, r3, r4⟩ := reps_ws (ws := r) fun x m => g x (List.mem_cons_of_mem _ m)
    obtain ⟨g1, g2, d, d1, d2, d3, d4⟩ := g q (List.mem_cons_self ..)
    obtain ⟨i1, i2⟩ := lay_ints q.2.2.1
    refine ⟨.tuple [.tuple (q.2.2.1.map .int), d] :: ds, .cons (.tup (SqT.of g1) (.cons (.tup (SqT.of g2) (.ints _)) (.cons d1 .nil))) r1, ?_, ?_, ?_⟩
    · show ((PyData.canLayAll0 (q.2.2.1.map .int) && PyData.canLayAll0 [d]) && PyData.canLayAll0 ds) = true
      rw [i1, d2, r2]; rfl
    · show max (max (PyData.depthAll (q.2.2.1.map .int) + 1) (PyData.depthAll [d]) + 1) (PyData.depthAll ds) ≤ 2
      omega
    · show ((PyData.eqvAll (q.2.2.1.map .int) (q.2.2.1.map .int) && PyData.eqvAll [d] [d]) && PyData.eqvAll ds ds) = true
      rw [eqv_ints, decide_eq_true rfl, d4, r4]; rfl
theorem reps_rv {K : PySem.W.Frag} {H : Hp} : ∀ {rv : Rv}, (∀ q ∈ rv, H q.1 = some (.tup [.ref q.2.1.1, .ref q.2.2.1.1, q.2.2.2]) ∧ H q.2.1.1 = some (.tup (q.2.1.2.map V.int)) ∧ H q.2.2.1.1 = some (.tup (q.2.2.1.2.map V.int)) ∧ OkD K H q.2.2.2) → ∃ ds, Reps K H (vrv rv) ds ∧ PyData.canLayAll0 ds = true ∧ PyData.depthAll ds ≤ 2 ∧ PyData.eqvAll ds ds = true
  | [], _ => ⟨[], .nil, rfl, Nat.zero_le _, rfl⟩
  | q :: r, g => by
    obtain ⟨ds, r1, r2, r3, r4⟩ := reps_rv (rv := r) fun x m => g x (List.mem_cons_of_mem _ m)
    obtain ⟨g1, g2, g3, d, d1, d2, d3, d4⟩ := g q (List.mem_cons_self ..)
    obtain ⟨i1, i2⟩ := lay_ints q.2.1.2
    obtain ⟨j1, j2⟩ := lay_ints q.2.2.1.2
    refine ⟨.tuple [.tuple (q.2.1.2.map .int), .tuple (q.2.2.1.2.map .int), d] :: ds, .cons (.tup (SqT.of g1) (.cons (.tup (SqT.of g2) (.ints _)) (.cons (.tup (SqT.of g3) (.ints _)) (.cons d1 .nil)))) r1, ?_, ?_, ?_⟩
    · show ((PyData.canLayAll0 (q.2.1.2.map .int) && (PyData.canLayAll0 (q.2.2.1.2.map .int) && PyData.canLayAll0 [d])) && PyData.canLayAll0 ds) = true
      rw [i1, j1, d2, r2]; rfl
    · show max (max (PyData.depthAll (q.2.1.2.map .int) + 1) (max (PyData.depthAll (q.2.2.1.2.map .int) + 1) (PyData.depthAll [d])) + 1) (PyData.depthAll ds) ≤ 2
      omega
    · show ((PyData.eqvAll (q.2.1.2.map .int) (q.2.1.2.map .int) && (PyData.eqvAll (q.2.2.1.2.map .int) (q.2.2.1.2.map .int) && PyData.eqvAll [d] [d])) && PyData.eqvAll ds ds) = true
      rw [eqv_ints, eqv_ints, decide_eq_true rfl, decide_eq_true rfl, d4, r4]; rfl
theorem shape_of {ds : List PyData} (h1 : PyData.canLayAll0 ds = true) (h2 : PyData.depthAll ds ≤ 2) : SeqAt.shaped (.list ds) = true := by
  unfold SeqAt.shaped
  rw [Bool.and_eq_true]
  refine ⟨h1, decide_eq_true ?_⟩
  show PyData.depthAll ds + 1 ≤ 64
  omega
def mixR : Rd3 → Ds
  | [] => []
  | q :: r => (q.1, -q.2.2) :: (q.2.1, q.2.2) :: mixR r
theorem mixR_app (b : Rd3) : ∀ a : Rd3, mixR (a ++ b) = mixR a ++ mixR b
  | [] => rfl
  | q :: r => by show (q.1, -q.2.2) :: (q.2.1, q.2.2) :: mixR (r ++ b) = _; rw [mixR_app b r]; rfl
theorem tot_mix (ts : List Int) : ∀ rd : Rd3, tot (mixR rd) ts = tot (negs rd) ts + tot (poss rd) ts
  | [] => rfl
  | q :: r => by
    show (if q.1 = ts then -q.2.2 else 0) + ((if q.2.1 = ts then q.2.2 else 0) + tot (mixR r) ts) = (if q.1 = ts then -q.2.2 else 0) + tot (negs r) ts + ((if q.2.1 = ts then q.2.2 else 0) + tot (poss r) ts)
    rw [tot_mix ts r]
    omega
theorem keys_mix {p : List (List Int)} : ∀ {rd : Rd3}, KeysR rd p → ∀ q ∈ mixR rd, q.1 ∈ p
  | [], _, _, m => nomatch m
  | x :: r, k, q, m => by
    have z := k x (List.mem_cons_self ..)
    rcases List.mem_cons.mp m with m | m
    · rw [m]; exact z.1
    · rcases List.mem_cons.mp m with m | m
      · rw [m]; exact z.2
      · exact keys_mix (fun y ym => k y (List.mem_cons_of_mem _ ym)) q m
def off (H : Hp) (D : Addr) : Hp := fun b => if b = D then none else H b
theorem off_le (H : Hp) (D : Addr) : Same (off H D) H := fun b o e => by
  unfold off at e
  split at e
  · cases e
  · exact e
theorem off_at {H : Hp} {D b : Addr} {o : HO} (e : H b = some o) (n : b ≠ D) : off H D b = some o := by
  unfold off
  rw [if_neg n]
  exact e
theorem off_of {H0 H : Hp} {D : Addr} (s : Same H0 H) (n : H0 D = none) : Same H0 (off H D) := fun b o e => off_at (s _ _ e) fun z => by rw [z, n] at e; cases e
theorem off_upd {H : Hp} {D : Addr} {o : HO} : off (upd H D o) D = off H D := funext fun b => by
  unfold off
  by_cases c : b = D
  · rw [if_pos c, if_pos c]
  · rw [if_neg c, if_neg c, upd_ne c]
theorem off_same {H H' : Hp} {D : Addr} (s : Same H H') : Same (off H D) (off H' D) := fun b o e => by
  unfold off at e ⊢
  split at e
  · cases e
  · rename_i n
    rw [if_neg n]
    exact s _ _ e
def rvOf (rs : Rs) : Rv := rs.map fun q => (q.1, q.2.1, q.2.2.1, .int q.2.2.2)
theorem vrv_of (rs : Rs) : vrv (rvOf rs) = vrs rs := by unfold vrv rvOf vrs; rw [List.map_map]; rfl
theorem vrv_append (a b : Rv) : vrv (a ++ b) = vrv a ++ vrv b := List.map_append ..
theorem rvOf_append (a b : Rs) : rvOf (a ++ b) = rvOf a ++ rvOf b := List.map_append ..
theorem vrs_take (rs : Rs) (k : Nat) : (vrs rs).take k = vrs (rs.take k) := (List.map_take ..).symm
theorem vrs_drop (rs : Rs) (k : Nat) : (vrs rs).drop k = vrs (rs.drop k) := (List.map_drop ..).symm
def OddV (K : PySem.W.Frag) (H : Hp) (v : V) : Prop := OkD K H v ∧ ((∃ n : Int, v = .int n) ∨ (Wh K H v false ∧ okNum v = false ∧ ∀ ts us, okRow ts us v = false))
theorem OkD.same {K : PySem.W.Frag} {H H' : Hp} {v : V} (s : Same H H') (h : OkD K H v) : OkD K H' v := by
  obtain ⟨d, d1, d2⟩ := h
  exact ⟨d, Rep.same s d1, d2⟩
theorem OddV.same {K : PySem.W.Frag} {H H' : Hp} {v : V} (s : Same H H') (h : OddV K H v) : OddV K H' v := ⟨h.1.same s, h.2.imp id fun z => ⟨Wh.same s z.1, z.2⟩⟩
theorem OddV.int {K : PySem.W.Frag} {H : Hp} (n : Int) : OddV K H (.int n) := ⟨.int n, .inl ⟨n, rfl⟩⟩
theorem OddV.bl {K : PySem.W.Frag} {H : Hp} (b : Bool) : OddV K H (.bl b) := ⟨.bl b, .inr ⟨Wh.bl b, rfl, fun _ _ => rfl⟩⟩
theorem OddV.non {K : PySem.W.Frag} {H : Hp} : OddV K H .non := ⟨.non, .inr ⟨Wh.non, rfl, fun _ _ => rfl⟩⟩
theorem OddV.str {K : PySem.W.Frag} {H : Hp} : OddV K H (.str (Str.ofString "1")) := ⟨.str, .inr ⟨Wh.str _, rfl, fun _ _ => rfl⟩⟩
theorem OddV.tup {K : PySem.W.Frag} {H : Hp} {a : Addr} (h : H a = some (.tup [.int 1])) : OddV K H (.ref a) := ⟨.tup h, .inr ⟨Wh.tup h, rfl, fun _ _ => rfl⟩⟩
theorem OddV.lst {K : PySem.W.Frag} {H : Hp} {a : Addr} (h : H a = some (.lst [.int 1])) : OddV K H (.ref a) := ⟨.lst h, .inr ⟨Wh.lst h, rfl, fun _ _ => rfl⟩⟩
theorem nine {K : PySem.W.Frag} {H : Hp} {t a : Addr} {n : Int} (n1 : n ≤ -1) (ht : H t = some (.tup [.int 1])) (ha : H a = some (.lst [.int 1])) : ∀ x ∈ ([.int 0, .int (-1), .int n, .bl true, .bl false, .non, .str (Str.ofString "1"), .ref t, .ref a] : List V), OddV K H x ∧ okNum x = false ∧ ∀ ts us, okRow ts us x = false := by
  intro x m
  have neg : ∀ k : Int, k ≤ 0 → okNum (.int k) = false ∧ ∀ ts us, okRow ts us (.int k) = false := fun k k0 => ⟨by show (decide (1 ≤ k) && _) = false; rw [decide_eq_false (by omega)]; rfl, fun ts us => by show (decide (1 ≤ k) && _) = false; rw [decide_eq_false (by omega)]; rfl⟩
  rcases List.mem_cons.mp m with rfl | m
  · exact ⟨.int _, neg _ (by omega)⟩
  rcases List.mem_cons.mp m with rfl | m
  · exact ⟨.int _, neg _ (by omega)⟩
  rcases List.mem_cons.mp m with rfl | m
  · exact ⟨.int _, neg _ (by omega)⟩
  rcases List.mem_cons.mp m with rfl | m
  · exact ⟨.bl _, rfl, fun _ _ => rfl⟩
  rcases List.mem_cons.mp m with rfl | m
  · exact ⟨.bl _, rfl, fun _ _ => rfl⟩
  rcases List.mem_cons.mp m with rfl | m
  · exact ⟨.non, rfl, fun _ _ => rfl⟩
  rcases List.mem_cons.mp m with rfl | m
  · exact ⟨.str, rfl, fun _ _ => rfl⟩
  rcases List.mem_cons.mp m with rfl | m
  · exact ⟨.tup ht, rfl, fun _ _ => rfl⟩
  rw [List.mem_singleton.mp m]
  exact ⟨.lst ha, rfl, fun _ _ => rfl⟩
def GoodX (K : PySem.W.Frag) (H : Hp) (rv : Rv) : Prop := ∀ q ∈ rv, H q.1 = some (.tup [.ref q.2.1.1, .ref q.2.2.1.1, q.2.2.2]) ∧ H q.2.1.1 = some (.tup (q.2.1.2.map V.int)) ∧ H q.2.2.1.1 = some (.tup (q.2.2.1.2.map V.int)) ∧ OddV K H q.2.2.2
theorem GoodX.same {K : PySem.W.Frag} {H H' : Hp} {rv : Rv} (s : Same H H') (g : GoodX K H rv) : GoodX K H' rv := fun q m => ⟨s _ _ (g q m).1, s _ _ (g q m).2.1, s _ _ (g q m).2.2.1, (g q m).2.2.2.same s⟩
theorem GoodX.append {K : PySem.W.Frag} {H : Hp} {a b : Rv} (g : GoodX K H a) (k : GoodX K H b) : GoodX K H (a ++ b) := fun q m => (List.mem_append.mp m).elim (g q) (k q)
theorem GoodX.v {K : PySem.W.Frag} {H : Hp} {rv : Rv} (g : GoodX K H rv) : GoodV K H rv := fun q m => ⟨(g q m).1, (g q m).2.1, (g q m).2.2.1, (g q m).2.2.2.2.elim .inr fun z => .inl ⟨z.1, z.2.2 _ _⟩⟩
theorem GoodX.one {K : PySem.W.Frag} {H : Hp} {a t u : Addr} {ts us : List Int} {v : V} (e : H a = some (.tup [.ref t, .ref u, v])) (h1 : H t = some (.tup (ts.map V.int))) (h2 : H u = some (.tup (us.map V.int))) (o : OddV K H v) : GoodX K H [(a, (t, ts), (u, us), v)] := fun q m => by
  rw [List.mem_singleton.mp m]
  exact ⟨e, h1, h2, o⟩
theorem goodX_of {K : PySem.W.Frag} {H : Hp} {rs : Rs} (g : GoodR H rs) : GoodX K H (rvOf rs) := fun q m => by
  obtain ⟨r, rm, rfl⟩ := List.mem_map.mp m
  exact ⟨(g r rm).1, (g r rm).2.1, (g r rm).2.2, .int _⟩
theorem GoodX.r {K : PySem.W.Frag} {H : Hp} {rs : Rs} (g : GoodX K H (rvOf rs)) : GoodR H rs := fun q m =>
  let z := g (q.1, q.2.1, q.2.2.1, .int q.2.2.2) (List.mem_map.mpr ⟨q, m, rfl⟩)
  ⟨z.1, z.2.1, z.2.2.1⟩
theorem GoodR.sub {H : Hp} {a b : Rs} (g : GoodR H a) (k : ∀ q ∈ b, q ∈ a) : GoodR H b := fun q m => g q (k q m)
def OneC (ms : Ls) (rd : Rd3) (p : List (List Int)) (rv : Rv) : Prop := rv.length ≤ 2 ∧ ((∃ q ∈ rv, okRow q.2.1.2 q.2.2.1.2 q.2.2.2 = false) ∨ ∃ rs : Rs, rv = rvOf rs ∧ RowsOk (rdOf rs) ∧ KeysR (rdOf rs) p ∧ ∃ ts, tot (dsOf ms) ts + tot (negs rd) ts + tot (negs (rdOf rs)) ts < 0)
def Somes (K : PySem.W.Frag) (B : Hp) (C : Rv → Prop) (os : List (Addr × Rv)) : Prop := ∀ o ∈ os, B o.1 = some (.lst (vrv o.2)) ∧ GoodX K B o.2 ∧ C o.2
theorem Somes.add {K : PySem.W.Frag} {B B' : Hp} {C : Rv → Prop} {os : List (Addr × Rv)} {a : Addr} {rv : Rv} (h : Somes K B C os) (s : Same B B') (e : B' a = some (.lst (vrv rv))) (g : GoodX K B' rv) (c : C rv) : Somes K B' C (os ++ [(a, rv)]) := fun o m => by
  rcases List.mem_append.mp m with m | m
  · exact ⟨s _ _ (h o m).1, (h o m).2.1.same s, (h o m).2.2⟩
  · rw [List.mem_singleton.mp m]; exact ⟨e, g, c⟩
theorem Somes.same {K : PySem.W.Frag} {B B' : Hp} {C : Rv → Prop} {os : List (Addr × Rv)} (h : Somes K B C os) (s : Same B B') : Somes K B' C os := fun o m => ⟨s _ _ (h o m).1, (h o m).2.1.same s, (h o m).2.2⟩
def BadC (K : PySem.W.Frag) (H : Hp) (ms : Ls) (a : Addr) : Prop := ∃ rv : Rv, H a = some (.lst (vrv rv)) ∧ GoodX K H rv ∧ ((∃ q ∈ rv, okRow q.2.1.2 q.2.2.1.2 q.2.2.2 = false) ∨ ∃ (rs : Rs) (p : List (List Int)), rv = rvOf rs ∧ RowsOk (rdOf rs) ∧ (∀ q ∈ dsOf ms, q.1 ∈ p) ∧ KeysR (rdOf rs) p ∧ p.length < 64 ∧ ∃ ts, tot (dsOf ms ++ negs (rdOf rs)) ts < 0)
theorem BadC.same {K : PySem.W.Frag} {H H' : Hp} {ms : Ls} {a : Addr} (s : Same H H') (h : BadC K H ms a) : BadC K H' ms a := by
  obtain ⟨rv, e, g, c⟩ := h
  exact ⟨rv, s _ _ e, g.same s, c⟩
theorem mem_cut {rs0 rs : Rs} {n : Nat} {q : List Int × List Int × Int} (m : q ∈ rdOf (rs0.take n ++ rs ++ rs0.drop n)) : q ∈ rdOf rs0 ∨ q ∈ rdOf rs := by
  obtain ⟨r, rm, rfl⟩ := List.mem_map.mp m
  rcases List.mem_append.mp rm with rm | rm
  · rcases List.mem_append.mp rm with rm | rm
    · exact .inl (mem_rd (List.mem_of_mem_take rm))
    · exact .inr (mem_rd rm)
  · exact .inl (mem_rd (List.mem_of_mem_drop rm))
theorem bad_of {K : PySem.W.Frag} {H : Hp} {ms : Ls} {a : Addr} {rs0 : Rs} {n : Nat} {rv : Rv} {p : List (List Int)} (c : OneC ms (rdOf rs0) p rv) (hm : ∀ q ∈ dsOf ms, q.1 ∈ p) (ok : RowsOk (rdOf rs0)) (kr : KeysR (rdOf rs0) p) (p64 : p.length < 64)
    (e : H a = some (.lst (vrv (rvOf (rs0.take n) ++ rv ++ rvOf (rs0.drop n))))) (g0 : GoodR H rs0) (g : GoodX K H rv) : BadC K H ms a := by
  refine ⟨_, e, ((goodX_of (g0.sub fun q m => List.mem_of_mem_take m)).append g).append (goodX_of (g0.sub fun q m => List.mem_of_mem_drop m)), c.2.imp (fun ⟨q, m, z⟩ => ⟨q, List.mem_append_left _ (List.mem_append_right _ m), z⟩) fun ⟨rs, er, ok1, k1, ts, neg⟩ => ⟨rs0.take n ++ rs ++ rs0.drop n, p, by rw [er, rvOf_append, rvOf_append], (fun q m => (mem_cut m).elim (ok q) (ok1 q)), hm, (fun q m => (mem_cut m).elim (kr q) (k1 q)), p64, ts, ?_⟩⟩
  have z : tot (negs (rdOf (rs0.take n))) ts + tot (negs (rdOf (rs0.drop n))) ts = tot (negs (rdOf rs0)) ts := by rw [← tot_append, ← negs_append, ← rdOf_append, List.take_append_drop]
  rw [rdOf_append, rdOf_append, negs_append, negs_append, tot_append, tot_append, tot_append]
  omega
theorem BadC.no {K : PySem.W.Frag} {H : Hp} {ms : Ls} {c : Addr} (h : BadC K H ms c) : (∃ rv : Rv, H c = some (.lst (vrv rv)) ∧ GoodV K H rv ∧ ∃ q ∈ rv, okRow q.2.1.2 q.2.2.1.2 q.2.2.2 = false)
  ∨ (∃ (rs : Rs) (p : List (List Int)), H c = some (.lst (vrs rs)) ∧ GoodR H rs ∧ RowsOk (rdOf rs) ∧ (∀ q ∈ dsOf ms, q.1 ∈ p) ∧ KeysR (rdOf rs) p ∧ p.length < 64 ∧ ∃ ts, tot (dsOf ms ++ negs (rdOf rs)) ts < 0) := by
  obtain ⟨rv, e, g, c | ⟨rs, p, rfl, z⟩⟩ := h
  · exact .inl ⟨rv, e, g.v, c⟩
  · rw [vrv_of] at e
    exact .inr ⟨rs, p, e, g.r, z⟩
theorem GoodX.reps {K : PySem.W.Frag} {H : Hp} {rv : Rv} (g : GoodX K H rv) : ∃ ds, Reps K H (vrv rv) ds ∧ PyData.canLayAll0 ds = true ∧ PyData.depthAll ds ≤ 2 ∧ PyData.eqvAll ds ds = true := reps_rv fun q m => ⟨(g q m).1, (g q m).2.1, (g q m).2.2.1, (g q m).2.2.2.1⟩
def wsOf (ls : Ls) : Ws := ls.map fun q => (q.1, q.2.1, q.2.2.1, .int q.2.2.2)
theorem vws_of (ls : Ls) : vws (wsOf ls) = vls ls := by unfold vws wsOf vls; rw [List.map_map]; rfl
theorem vws_append (a b : Ws) : vws (a ++ b) = vws a ++ vws b := List.map_append ..
def GoodY (K : PySem.W.Frag) (H : Hp) (ws : Ws) : Prop := ∀ q ∈ ws, H q.1 = some (.tup [.ref q.2.1, q.2.2.2]) ∧ H q.2.1 = some (.tup (q.2.2.1.map V.int)) ∧ OddV K H q.2.2.2
theorem GoodY.same {K : PySem.W.Frag} {H H' : Hp} {ws : Ws} (s : Same H H') (g : GoodY K H ws) : GoodY K H' ws := fun q m => ⟨s _ _ (g q m).1, s _ _ (g q m).2.1, (g q m).2.2.same s⟩
theorem GoodY.append {K : PySem.W.Frag} {H : Hp} {a b : Ws} (g : GoodY K H a) (k : GoodY K H b) : GoodY K H (a ++ b) := fun q m => (List.mem_append.mp m).elim (g q) (k q)
theorem GoodY.w {K : PySem.W.Frag} {H : Hp} {ws : Ws} (g : GoodY K H ws) : GoodW K H ws := fun q m => ⟨(g q m).1, (g q m).2.1, (g q m).2.2.2.elim .inr fun z => .inl ⟨z.1, z.2.1⟩⟩
theorem goodY_of {K : PySem.W.Frag} {H : Hp} {ls : Ls} (g : GoodL H ls) : GoodY K H (wsOf ls) := fun q m => by
  obtain ⟨r, rm, rfl⟩ := List.mem_map.mp m
  exact ⟨(g r rm).1, (g r rm).2, .int _⟩
theorem GoodY.reps {K : PySem.W.Frag} {H : Hp} {ws : Ws} (g : GoodY K H ws) : ∃ ds, Reps K H (vws ws) ds ∧ PyData.canLayAll0 ds = true ∧ PyData.depthAll ds ≤ 2 ∧ PyData.eqvAll ds ds = true := reps_ws fun q m => ⟨(g q m).1, (g q m).2.1, (g q m).2.2.1⟩
def pws : List (List Int) := (List.range 11).map fun k => [(2 : Int) ^ k]
theorem pws_nd : pws.Nodup := by decide +kernel
theorem pws_len : pws.length = 11 := rfl
theorem some_out {th : List (List Int)} (h : th.length ≤ 8) (all : ∀ k < 11, [(2 : Int) ^ k] ∈ th) : False := by
  have := nodup_len (p := th) pws_nd fun x m => by
    obtain ⟨k, km, rfl⟩ := List.mem_map.mp m
    exact all k (List.mem_range.mp km)
  rw [pws_len] at this
  omega
theorem pw_ne {k : Nat} : ([(2 : Int) ^ k] : List Int) ≠ [] := fun z => nomatch z
def thOf (ms : Ls) : Ps := ms.map fun q => (q.2.1, q.2.2.1)
theorem th_keys (ms : Ls) : (thOf ms).map (·.2) = (dsOf ms).map (·.1) := by unfold thOf dsOf; rw [List.map_map, List.map_map]; rfl
theorem okRow_same (ts : List Int) (n : Int) : okRow ts ts (.int n) = false := by
  show (decide (1 ≤ n) && !decide (ts = ts)) = false
  rw [decide_eq_true rfl, Bool.and_comm]
  rfl
theorem oneC_row {ms : Ls} {rd : Rd3} {p : List (List Int)} {t : Addr} {o w : Addr × List Int} {n : Int} (ne : o.2 ≠ w.2) (n1 : 1 ≤ n) (ko : o.2 ∈ p) (kw : w.2 ∈ p) (neg : tot (dsOf ms) o.2 + tot (negs rd) o.2 - n < 0) : OneC ms rd p [(t, o, w, .int n)] := by
  refine ⟨by show 1 ≤ 2; decide, .inr ⟨[(t, o, w, n)], rfl, fun q m => ?_, fun q m => ?_, o.2, ?_⟩⟩
  · rw [List.mem_singleton.mp m]; exact ⟨ne, n1⟩
  · rw [List.mem_singleton.mp m]; exact ⟨ko, kw⟩
  · show _ + ((if o.2 = o.2 then -n else 0) + 0) < 0
    rw [if_pos rfl]
    omega
theorem oneC_two {ms : Ls} {rd : Rd3} {p : List (List Int)} {t t' : Addr} {o a w : Addr × List Int} (ne : o.2 ≠ a.2) (ne' : a.2 ≠ w.2) (ko : o.2 ∈ p) (ka : a.2 ∈ p) (kw : w.2 ∈ p) (neg : tot (dsOf ms) a.2 + tot (negs rd) a.2 - 1 < 0) : OneC ms rd p [(t, o, a, .int 1), (t', a, w, .int 1)] := by
  refine ⟨by show 2 ≤ 2; decide, .inr ⟨[(t, o, a, 1), (t', a, w, 1)], rfl, fun q m => ?_, fun q m => ?_, a.2, ?_⟩⟩
  · rcases List.mem_cons.mp m with m | m
    · rw [m]; exact ⟨ne, Int.le_refl _⟩
    · rw [List.mem_singleton.mp m]; exact ⟨ne', Int.le_refl _⟩
  · rcases List.mem_cons.mp m with m | m
    · rw [m]; exact ⟨ko, ka⟩
    · rw [List.mem_singleton.mp m]; exact ⟨ka, kw⟩
  · show _ + ((if o.2 = a.2 then -1 else 0) + ((if a.2 = a.2 then -1 else 0) + 0)) < 0
    rw [if_neg ne, if_pos rfl]
    omega
structure Stk (K : PySem.W.Frag) (B : Hp) (D : Addr) (C : Rv → Prop) (J : Hp) (os : List (Addr × Rv)) : Prop where
  lies : J D = some (.lst (os.map fun o => V.ref o.1))
  same : Same B (off J D)
  all : Somes K (off J D) C os
theorem Stk.up {K : PySem.W.Frag} {B : Hp} {D : Addr} {C : Rv → Prop} {J : Hp} {os : List (Addr × Rv)} (h : Stk K B D C J os) : Same B J := h.same.trans (off_le _ _)
theorem Stk.grow {K : PySem.W.Frag} {B : Hp} {D : Addr} {C : Rv → Prop} {J J' : Hp} {os : List (Addr × Rv)} (h : Stk K B D C J os) (s : Same J J') : Stk K B D C J' os := ⟨s _ _ h.lies, h.same.trans (off_same s), h.all.same (off_same s)⟩
theorem Stk.push {K : PySem.W.Frag} {B : Hp} {D : Addr} {C : Rv → Prop} {J : Hp} {os : List (Addr × Rv)} {a : Addr} {rv : Rv} (h : Stk K B D C J os) (e : off J D a = some (.lst (vrv rv))) (g : GoodX K (off J D) rv) (c : C rv) : Stk K B D C (upd J D (.lst ((os.map fun o => V.ref o.1) ++ [V.ref a]))) (os ++ [(a, rv)]) := by
  refine ⟨by rw [upd_same, List.map_append]; rfl, ?_, ?_⟩
  · rw [off_upd]; exact h.same
  · rw [off_upd]; exact h.all.add (fun _ _ z => z) e g c
theorem Stk.ne {K : PySem.W.Frag} {B : Hp} {D : Addr} {C : Rv → Prop} {J : Hp} {os : List (Addr × Rv)} (h : Stk K B D C J os) {a : Addr} (e : J a = none) : a ≠ D := fun z => by rw [z, h.lies] at e; cases e
def spBadRows (K : PySem.W.Frag) : Sp := fun vs H Q _ => ∃ (s c : Addr) (x : Int) (ms : Ls) (rs : Rs) (p : List (List Int)), vs = [.ref s, .ref c, .int x] ∧ 0 ≤ x ∧ x < 10 ^ 40 ∧ H s = some (.lst (vls ms)) ∧ GoodL H ms ∧ 0 < ms.length ∧ ms.length ≤ 8 ∧ H c = some (.lst (vrs rs)) ∧ GoodR H rs ∧ rs.length ≤ 8 ∧ RowsOk (rdOf rs) ∧ (∀ q ∈ dsOf ms, q.1 ∈ p) ∧ KeysR (rdOf rs) p ∧ p.length ≤ 30 ∧ (∀ ts, 0 ≤ tot (dsOf ms ++ negs (rdOf rs)) ts) ∧
  ∀ (l : Addr) (as : List Addr) (H' : Hp), Same H H' → H' l = some (.lst (as.map V.ref)) → as.length ≤ 20 → (∀ a ∈ as, BadC K H' ms a) → Q (.ref l) H'
def top (i : Nat) : Stmt := PySem.Challenge.pw_pollproof_k28_changes_and_lines_refused.main.body.getD i (.Pass ⟨0, 0, 0, 0⟩)
abbrev s_is_whole : Stmt := top 14
abbrev s_numbers_by_slip : Stmt := top 18
abbrev s_sheet_from : Stmt := top 19
abbrev s_law_whole : Stmt := top 24
abbrev s_law_cell : Stmt := top 25
abbrev s_law_mixed : Stmt := top 26
abbrev s_law_sheet : Stmt := top 29
abbrev s_law_other : Stmt := top 32
abbrev s_law_bad_numbers : Stmt := top 35
abbrev s_is_number : Stmt := top 17
abbrev s_check_row : Stmt := top 21
abbrev s_law_slip : Stmt := top 27
abbrev s_law_lines : Stmt := top 28
abbrev s_law_together : Stmt := top 30
abbrev s_law_same : Stmt := top 31
abbrev s_law_bad_rows : Stmt := top 36
abbrev s_law_due : Stmt := top 38
abbrev s_sheet_of : Stmt := top 20
abbrev s_changed : Stmt := top 22
abbrev s_law_no_sheet : Stmt := top 33
abbrev s_law_no_change : Stmt := top 34
abbrev s_law_good : Stmt := top 37
abbrev s_law : Stmt := top 39
theorem sc_is_whole : FnScope ["thing"] ["thing"] (defScope s_is_whole) := ⟨rfl, rfl, rfl, by decide +kernel, rfl, by decide +kernel, by decide +kernel⟩
theorem sc_numbers_by_slip : FnScope ["lines", "numbers", "slip", "number"] ["lines"] (defScope s_numbers_by_slip) := ⟨rfl, rfl, rfl, by decide +kernel, rfl, by decide +kernel, by decide +kernel⟩
theorem sc_sheet_from : FnScope ["numbers"] ["numbers"] (defScope s_sheet_from) := ⟨rfl, rfl, rfl, by decide +kernel, rfl, by decide +kernel, by decide +kernel⟩
theorem sc_law_whole : FnScope ["_law_found"] ["_law_found"] (defScope s_law_whole) := ⟨rfl, rfl, rfl, by decide +kernel, rfl, by decide +kernel, by decide +kernel⟩
theorem sc_law_cell : FnScope ["_law_script", "_law_k"] ["_law_script", "_law_k"] (defScope s_law_cell) := ⟨rfl, rfl, rfl, by decide +kernel, rfl, by decide +kernel, by decide +kernel⟩
theorem sc_law_mixed : FnScope ["_law_cell_here", "_law_by", "_law_number"] ["_law_cell_here", "_law_by"] (defScope s_law_mixed) := ⟨rfl, rfl, rfl, by decide +kernel, rfl, by decide +kernel, by decide +kernel⟩
theorem sc_law_sheet : FnScope ["_law_many"] ["_law_many"] (defScope s_law_sheet) := ⟨rfl, rfl, rfl, by decide +kernel, rfl, by decide +kernel, by decide +kernel⟩
theorem sc_law_other : FnScope ["_law_e"] ["_law_e"] (defScope s_law_other) := ⟨rfl, rfl, rfl, by decide +kernel, rfl, by decide +kernel, by decide +kernel⟩
theorem sc_law_bad_numbers : FnScope ["_law_cell_here"] ["_law_cell_here"] (defScope s_law_bad_numbers) := ⟨rfl, rfl, rfl, by decide +kernel, rfl, by decide +kernel, by decide +kernel⟩
theorem sc_is_number : FnScope ["thing"] ["thing"] (defScope s_is_number) := ⟨rfl, rfl, rfl, by decide +kernel, rfl, by decide +kernel, by decide +kernel⟩
theorem sc_check_row : FnScope ["old", "new", "number"] ["old", "new", "number"] (defScope s_check_row) := ⟨rfl, rfl, rfl, by decide +kernel, rfl, by decide +kernel, by decide +kernel⟩
theorem sc_law_slip : FnScope ["_law_cell_here", "_law_hands", "_law_spread", "_law_ranks", "_law_tiers", "_law_rank"] ["_law_cell_here", "_law_hands"] (defScope s_law_slip) := ⟨rfl, rfl, rfl, by decide +kernel, rfl, by decide +kernel, by decide +kernel⟩
theorem sc_law_lines : FnScope ["_law_script", "_law_start", "_law_most", "_law_pool", "_law_cells", "_law_lines_here", "_law_k", "_law_number", "_law_many"] ["_law_script", "_law_start", "_law_most", "_law_pool"] (defScope s_law_lines) := ⟨rfl, rfl, rfl, by decide +kernel, rfl, by decide +kernel, by decide +kernel⟩
theorem sc_law_together : FnScope ["_law_lines_here", "_law_many", "_law_slip_here", "_law_number"] ["_law_lines_here"] (defScope s_law_together) := ⟨rfl, rfl, rfl, by decide +kernel, rfl, by decide +kernel, by decide +kernel⟩
theorem sc_law_same : FnScope ["_law_found", "_law_due_here", "_law_line", "_law_tier"] ["_law_found", "_law_due_here"] (defScope s_law_same) := ⟨rfl, rfl, rfl, by decide +kernel, rfl, by decide +kernel, by decide +kernel⟩
theorem sc_law_bad_rows : FnScope ["_law_sheet_here", "_law_rows", "_law_cell_here", "_law_old", "_law_new", "_law_there", "_law_absent", "_law_some", "_law_many", "_law_at"] ["_law_sheet_here", "_law_rows", "_law_cell_here"] (defScope s_law_bad_rows) := ⟨rfl, rfl, rfl, by decide +kernel, rfl, by decide +kernel, by decide +kernel⟩
theorem sc_law_due : FnScope ["_law_sheet_here", "_law_rows", "_law_many", "_law_old", "_law_new", "_law_number"] ["_law_sheet_here", "_law_rows"] (defScope s_law_due) := ⟨rfl, rfl, rfl, by decide +kernel, rfl, by decide +kernel, by decide +kernel⟩
theorem sc_sheet_of : FnScope ["lines", "line"] ["lines"] (defScope s_sheet_of) := ⟨rfl, rfl, rfl, by decide +kernel, rfl, by decide +kernel, by decide +kernel⟩
theorem sc_changed : FnScope ["sheet", "change", "old", "new", "number", "left"] ["sheet", "change"] (defScope s_changed) := ⟨rfl, rfl, rfl, by decide +kernel, rfl, by decide +kernel, by decide +kernel⟩
theorem sc_law_no_sheet : FnScope ["_law_lines_here", "_law_refused", "_law_e"] ["_law_lines_here"] (defScope s_law_no_sheet) := ⟨rfl, rfl, rfl, by decide +kernel, rfl, by decide +kernel, by decide +kernel⟩
theorem sc_law_no_change : FnScope ["_law_sheet_here", "_law_rows", "_law_refused", "_law_e"] ["_law_sheet_here", "_law_rows"] (defScope s_law_no_change) := ⟨rfl, rfl, rfl, by decide +kernel, rfl, by decide +kernel, by decide +kernel⟩
theorem sc_law_good : FnScope ["_law_lines_here", "_law_sheet_here", "_law_rows", "_law_due_here"] ["_law_lines_here", "_law_sheet_here", "_law_rows", "_law_due_here"] (defScope s_law_good) := ⟨rfl, rfl, rfl, by decide +kernel, rfl, by decide +kernel, by decide +kernel⟩
theorem sc_law : FnScope ["_law_script", "_law_first", "_law_pool", "_law_lines_here", "_law_sheet_here", "_law_cell_here", "_law_rows", "_law_slip_here", "_law_number", "_law_new", "_law_due_here", "_law_at", "_law_some", "_law_held", "_law_handed"] ["_law_script"] (defScope s_law) := ⟨rfl, rfl, rfl, by decide +kernel, rfl, by decide +kernel, by decide +kernel⟩
structure Ads where
  f_is_whole : Addr
  d_is_whole : FuncData
  f_numbers_by_slip : Addr
  d_numbers_by_slip : FuncData
  f_sheet_from : Addr
  d_sheet_from : FuncData
  f_law_whole : Addr
  d_law_whole : FuncData
  f_law_cell : Addr
  d_law_cell : FuncData
  f_law_mixed : Addr
  d_law_mixed : FuncData
  f_law_sheet : Addr
  d_law_sheet : FuncData
  f_law_other : Addr
  d_law_other : FuncData
  f_law_bad_numbers : Addr
  d_law_bad_numbers : FuncData
  f_is_number : Addr
  d_is_number : FuncData
  f_check_row : Addr
  d_check_row : FuncData
  f_law_slip : Addr
  d_law_slip : FuncData
  f_law_lines : Addr
  d_law_lines : FuncData
  f_law_together : Addr
  d_law_together : FuncData
  f_law_same : Addr
  d_law_same : FuncData
  f_law_bad_rows : Addr
  d_law_bad_rows : FuncData
  f_law_due : Addr
  d_law_due : FuncData
  f_sheet_of : Addr
  d_sheet_of : FuncData
  f_changed : Addr
  d_changed : FuncData
  f_law_no_sheet : Addr
  d_law_no_sheet : FuncData
  f_law_no_change : Addr
  d_law_no_change : FuncData
  f_law_good : Addr
  d_law_good : FuncData
  f_law : Addr
  d_law : FuncData
  c_WrongNumber : Addr
  c_Torn : Addr
  c_TooHard : Addr
  c_NoWay : Addr
  c_NoRow : Addr
  c_NoNumber : Addr
  c_NoBundle : Addr
  c_NoBallot : Addr
  c_Ended : Addr
  c_NoChange : Addr
  c_NoSheet : Addr
  c_PollError : Addr
  t_MOST_BALLOTS : Tok
structure Tx (K : PySem.W.Frag) (mg : Str → Option Value) (a : Ads) : Prop where
  F_is_whole : Fun K "is_whole" "is_whole" s_is_whole a.f_is_whole a.d_is_whole
  b_is_whole : Binds K a.d_is_whole ["thing"] []
  m_is_whole : mg "is_whole" = some (.ref a.f_is_whole)
  F_numbers_by_slip : Fun K "numbers_by_slip" "numbers_by_slip" s_numbers_by_slip a.f_numbers_by_slip a.d_numbers_by_slip
  b_numbers_by_slip : Binds K a.d_numbers_by_slip ["lines"] []
  m_numbers_by_slip : mg "numbers_by_slip" = some (.ref a.f_numbers_by_slip)
  F_sheet_from : Fun K "sheet_from" "sheet_from" s_sheet_from a.f_sheet_from a.d_sheet_from
  b_sheet_from : Binds K a.d_sheet_from ["numbers"] []
  m_sheet_from : mg "sheet_from" = some (.ref a.f_sheet_from)
  F_law_whole : Fun K "_law_whole" "_law_whole" s_law_whole a.f_law_whole a.d_law_whole
  b_law_whole : Binds K a.d_law_whole ["_law_found"] []
  m_law_whole : mg "_law_whole" = some (.ref a.f_law_whole)
  F_law_cell : Fun K "_law_cell" "_law_cell" s_law_cell a.f_law_cell a.d_law_cell
  b_law_cell : Binds K a.d_law_cell ["_law_script", "_law_k"] []
  m_law_cell : mg "_law_cell" = some (.ref a.f_law_cell)
  F_law_mixed : Fun K "_law_mixed" "_law_mixed" s_law_mixed a.f_law_mixed a.d_law_mixed
  b_law_mixed : Binds K a.d_law_mixed ["_law_cell_here", "_law_by"] []
  m_law_mixed : mg "_law_mixed" = some (.ref a.f_law_mixed)
  F_law_sheet : Fun K "_law_sheet" "_law_sheet" s_law_sheet a.f_law_sheet a.d_law_sheet
  b_law_sheet : Binds K a.d_law_sheet ["_law_many"] []
  m_law_sheet : mg "_law_sheet" = some (.ref a.f_law_sheet)
  F_law_other : Fun K "_law_other" "_law_other" s_law_other a.f_law_other a.d_law_other
  b_law_other : Binds K a.d_law_other ["_law_e"] []
  m_law_other : mg "_law_other" = some (.ref a.f_law_other)
  F_law_bad_numbers : Fun K "_law_bad_numbers" "_law_bad_numbers" s_law_bad_numbers a.f_law_bad_numbers a.d_law_bad_numbers
  b_law_bad_numbers : Binds K a.d_law_bad_numbers ["_law_cell_here"] []
  m_law_bad_numbers : mg "_law_bad_numbers" = some (.ref a.f_law_bad_numbers)
  F_is_number : Fun K "is_number" "is_number" s_is_number a.f_is_number a.d_is_number
  b_is_number : Binds K a.d_is_number ["thing"] []
  m_is_number : mg "is_number" = some (.ref a.f_is_number)
  F_check_row : Fun K "check_row" "check_row" s_check_row a.f_check_row a.d_check_row
  b_check_row : Binds K a.d_check_row ["old", "new", "number"] []
  m_check_row : mg "check_row" = some (.ref a.f_check_row)
  F_law_slip : Fun K "_law_slip" "_law_slip" s_law_slip a.f_law_slip a.d_law_slip
  b_law_slip : Binds K a.d_law_slip ["_law_cell_here", "_law_hands"] []
  m_law_slip : mg "_law_slip" = some (.ref a.f_law_slip)
  F_law_lines : Fun K "_law_lines" "_law_lines" s_law_lines a.f_law_lines a.d_law_lines
  b_law_lines : Binds K a.d_law_lines ["_law_script", "_law_start", "_law_most", "_law_pool"] []
  m_law_lines : mg "_law_lines" = some (.ref a.f_law_lines)
  F_law_together : Fun K "_law_together" "_law_together" s_law_together a.f_law_together a.d_law_together
  b_law_together : Binds K a.d_law_together ["_law_lines_here"] []
  m_law_together : mg "_law_together" = some (.ref a.f_law_together)
  F_law_same : Fun K "_law_same" "_law_same" s_law_same a.f_law_same a.d_law_same
  b_law_same : Binds K a.d_law_same ["_law_found", "_law_due_here"] []
  m_law_same : mg "_law_same" = some (.ref a.f_law_same)
  F_law_bad_rows : Fun K "_law_bad_rows" "_law_bad_rows" s_law_bad_rows a.f_law_bad_rows a.d_law_bad_rows
  b_law_bad_rows : Binds K a.d_law_bad_rows ["_law_sheet_here", "_law_rows", "_law_cell_here"] []
  m_law_bad_rows : mg "_law_bad_rows" = some (.ref a.f_law_bad_rows)
  F_law_due : Fun K "_law_due" "_law_due" s_law_due a.f_law_due a.d_law_due
  b_law_due : Binds K a.d_law_due ["_law_sheet_here", "_law_rows"] []
  m_law_due : mg "_law_due" = some (.ref a.f_law_due)
  F_sheet_of : Fun K "sheet_of" "sheet_of" s_sheet_of a.f_sheet_of a.d_sheet_of
  b_sheet_of : Binds K a.d_sheet_of ["lines"] []
  m_sheet_of : mg "sheet_of" = some (.ref a.f_sheet_of)
  F_changed : Fun K "changed" "changed" s_changed a.f_changed a.d_changed
  b_changed : Binds K a.d_changed ["sheet", "change"] []
  m_changed : mg "changed" = some (.ref a.f_changed)
  F_law_no_sheet : Fun K "_law_no_sheet" "_law_no_sheet" s_law_no_sheet a.f_law_no_sheet a.d_law_no_sheet
  b_law_no_sheet : Binds K a.d_law_no_sheet ["_law_lines_here"] []
  m_law_no_sheet : mg "_law_no_sheet" = some (.ref a.f_law_no_sheet)
  F_law_no_change : Fun K "_law_no_change" "_law_no_change" s_law_no_change a.f_law_no_change a.d_law_no_change
  b_law_no_change : Binds K a.d_law_no_change ["_law_sheet_here", "_law_rows"] []
  m_law_no_change : mg "_law_no_change" = some (.ref a.f_law_no_change)
  F_law_good : Fun K "_law_good" "_law_good" s_law_good a.f_law_good a.d_law_good
  b_law_good : Binds K a.d_law_good ["_law_lines_here", "_law_sheet_here", "_law_rows", "_law_due_here"] []
  m_law_good : mg "_law_good" = some (.ref a.f_law_good)
  F_law : Fun K "law" "law" s_law a.f_law a.d_law
  b_law : Binds K a.d_law ["_law_script"] []
  m_law : mg "law" = some (.ref a.f_law)
  z_ValueError : mg "ValueError" = none
  z_any : mg "any" = none
  z_bool : mg "bool" = none
  z_dict : mg "dict" = none
  z_int : mg "int" = none
  z_isinstance : mg "isinstance" = none
  z_len : mg "len" = none
  z_list : mg "list" = none
  z_max : mg "max" = none
  z_min : mg "min" = none
  z_range : mg "range" = none
  z_sorted : mg "sorted" = none
  z_sum : mg "sum" = none
  z_tuple : mg "tuple" = none
  k_MOST_BALLOTS : mg "MOST_BALLOTS" = some (.int 1000000000 a.t_MOST_BALLOTS)
  m_WrongNumber : mg "WrongNumber" = some (.ref a.c_WrongNumber)
  h_WrongNumber : HCls K a.c_WrongNumber
  m_Torn : mg "Torn" = some (.ref a.c_Torn)
  h_Torn : HCls K a.c_Torn
  m_TooHard : mg "TooHard" = some (.ref a.c_TooHard)
  h_TooHard : HCls K a.c_TooHard
  m_NoWay : mg "NoWay" = some (.ref a.c_NoWay)
  h_NoWay : HCls K a.c_NoWay
  m_NoRow : mg "NoRow" = some (.ref a.c_NoRow)
  h_NoRow : HCls K a.c_NoRow
  m_NoNumber : mg "NoNumber" = some (.ref a.c_NoNumber)
  h_NoNumber : HCls K a.c_NoNumber
  m_NoBundle : mg "NoBundle" = some (.ref a.c_NoBundle)
  h_NoBundle : HCls K a.c_NoBundle
  m_NoBallot : mg "NoBallot" = some (.ref a.c_NoBallot)
  h_NoBallot : HCls K a.c_NoBallot
  m_Ended : mg "Ended" = some (.ref a.c_Ended)
  h_Ended : HCls K a.c_Ended
  m_NoChange : mg "NoChange" = some (.ref a.c_NoChange)
  h_NoChange : HCls K a.c_NoChange
  m_NoSheet : mg "NoSheet" = some (.ref a.c_NoSheet)
  h_NoSheet : HCls K a.c_NoSheet
  m_PollError : mg "PollError" = some (.ref a.c_PollError)
  h_PollError : HCls K a.c_PollError
  x_NoChange : XCls K a.c_NoChange
  k_NoChange : XKit K a.c_NoChange
  v_NoChange : PySem.W.subIn K (.ref a.c_NoChange) (.type "ValueError") = some true
  s_NoChange_WrongNumber : PySem.W.subIn K (.ref a.c_NoChange) (.ref a.c_WrongNumber) = some false
  s_NoChange_Torn : PySem.W.subIn K (.ref a.c_NoChange) (.ref a.c_Torn) = some false
  s_NoChange_TooHard : PySem.W.subIn K (.ref a.c_NoChange) (.ref a.c_TooHard) = some false
  s_NoChange_NoWay : PySem.W.subIn K (.ref a.c_NoChange) (.ref a.c_NoWay) = some false
  s_NoChange_NoRow : PySem.W.subIn K (.ref a.c_NoChange) (.ref a.c_NoRow) = some false
  s_NoChange_NoNumber : PySem.W.subIn K (.ref a.c_NoChange) (.ref a.c_NoNumber) = some false
  s_NoChange_NoBundle : PySem.W.subIn K (.ref a.c_NoChange) (.ref a.c_NoBundle) = some false
  s_NoChange_NoBallot : PySem.W.subIn K (.ref a.c_NoChange) (.ref a.c_NoBallot) = some false
  s_NoChange_Ended : PySem.W.subIn K (.ref a.c_NoChange) (.ref a.c_Ended) = some false
  s_NoChange_NoChange : PySem.W.subIn K (.ref a.c_NoChange) (.ref a.c_NoChange) = some true
  s_NoChange_NoSheet : PySem.W.subIn K (.ref a.c_NoChange) (.ref a.c_NoSheet) = some false
  s_NoChange_PollError : PySem.W.subIn K (.ref a.c_NoChange) (.ref a.c_PollError) = some true
  x_NoSheet : XCls K a.c_NoSheet
  k_NoSheet : XKit K a.c_NoSheet
  v_NoSheet : PySem.W.subIn K (.ref a.c_NoSheet) (.type "ValueError") = some true
  s_NoSheet_WrongNumber : PySem.W.subIn K (.ref a.c_NoSheet) (.ref a.c_WrongNumber) = some false
  s_NoSheet_Torn : PySem.W.subIn K (.ref a.c_NoSheet) (.ref a.c_Torn) = some false
  s_NoSheet_TooHard : PySem.W.subIn K (.ref a.c_NoSheet) (.ref a.c_TooHard) = some false
  s_NoSheet_NoWay : PySem.W.subIn K (.ref a.c_NoSheet) (.ref a.c_NoWay) = some false
  s_NoSheet_NoRow : PySem.W.subIn K (.ref a.c_NoSheet) (.ref a.c_NoRow) = some false
  s_NoSheet_NoNumber : PySem.W.subIn K (.ref a.c_NoSheet) (.ref a.c_NoNumber) = some false
  s_NoSheet_NoBundle : PySem.W.subIn K (.ref a.c_NoSheet) (.ref a.c_NoBundle) = some false
  s_NoSheet_NoBallot : PySem.W.subIn K (.ref a.c_NoSheet) (.ref a.c_NoBallot) = some false
  s_NoSheet_Ended : PySem.W.subIn K (.ref a.c_NoSheet) (.ref a.c_Ended) = some false
  s_NoSheet_NoChange : PySem.W.subIn K (.ref a.c_NoSheet) (.ref a.c_NoChange) = some false
  s_NoSheet_NoSheet : PySem.W.subIn K (.ref a.c_NoSheet) (.ref a.c_NoSheet) = some true
  s_NoSheet_PollError : PySem.W.subIn K (.ref a.c_NoSheet) (.ref a.c_PollError) = some true
local macro_rules | `(tactic| trivial) => `(tactic| refine Sz.neg (by trivial))
local macro_rules | `(tactic| trivial) => `(tactic| refine Sz.fdiv (by trivial))
local macro_rules | `(tactic| trivial) => `(tactic| refine Sz.sub (by trivial) (by trivial))
local macro_rules | `(tactic| trivial) => `(tactic| refine Sz.add (by trivial) (by trivial))
local macro_rules | `(tactic| trivial) => `(tactic| refine Sz.mul (by trivial) (by trivial))
local macro_rules | `(tactic| trivial) => `(tactic| exact sz_fmod _ (by first | decide | decide +kernel) (szd 200))
local macro_rules | `(tactic| trivial) => `(tactic| first | assumption | exact szd 64 | exact szd 200 | exact szd 1000)
local macro_rules | `(tactic| and_intros) => `(tactic| (repeat (first | refine ⟨_, rfl, ?_⟩ | refine ⟨_, _, rfl, rfl, ?_⟩ | refine ⟨rfl, ?_⟩ | refine ⟨(by show (_ : Int) ≠ 0; first | decide | decide +kernel), ?_⟩ | refine ⟨⟨(by show (_ : Int) ≠ 0; decide), szd 9000⟩, ?_⟩ | refine ⟨(by show CPow _ _; exact ⟨by decide, by decide, by decide⟩), ?_⟩ | refine ⟨(by show CMulB _ _; refine ⟨_, _, (by trivial), (by trivial), ?_⟩; decide +kernel), ?_⟩ | refine ⟨_, _, _, _, rfl, rfl, SqL.of (by assumption), (by rfl), ?_⟩ | refine ⟨_, _, _, _, rfl, rfl, SqT.of (by assumption), (by rfl), ?_⟩ | refine ⟨_, _, rfl, .inl (SqL.of (by assumption)), ?_⟩ | refine ⟨_, _, rfl, .inr (SqT.of (by assumption)), ?_⟩)))
section
variable {P : Program} {w : World} {K : PySem.W.Frag} {mg : Str → Option Value} {base : Heap} {ad : Ads}
theorem ok_is_whole (T : Tx K mg ad) : FnOk P w K mg base CX0 1 ad.f_is_whole ad.d_is_whole ["thing"] (spWh K) := by
  refine T.F_is_whole.ok sc_is_whole (fun vs H Q E h => ?_) (fun cdv A outer s H vs Q E hr h => ?_)
  · obtain ⟨x, b, rfl, _⟩ := h
    rfl
  obtain ⟨x, b, rfl, ⟨t, b1, b2, ty, k1, k2, e⟩, q⟩ := h
  refine ⟨_, (@pss_one _ _ _ (@ps_ret _ _ _ _ (@pe_and _ _ _ _ _ _ _ (@pe_callB _ _ _ _ _ _ _ _ _ call_isi (by rfl) T.z_isinstance PyProof.Rows.boot_isinstance (@pa_cons _ _ _ _ _ (pv 0) (@pa_cons _ _ _ _ _ (pe_bltn (v := .ty "int") rfl T.z_int PyProof.Rows.boot_int rfl) pa_nil (by rfl)) (by rfl)) (by decide) (by decide) (by rfl) (by rfl)) (@pe_one _ _ _ _ _ (@pe_not _ _ _ _ (@pe_callB _ _ _ _ _ _ _ _ _ call_isi (by rfl) T.z_isinstance PyProof.Rows.boot_isinstance (@pa_cons _ _ _ _ _ (pv 0) (@pa_cons _ _ _ _ _ (pe_bltn (v := .ty "bool") rfl T.z_bool PyProof.Rows.boot_bool rfl) pa_nil (by rfl)) (by rfl)) (by decide) (by decide) (by rfl) (by rfl))))))), ?_⟩
  refine ⟨_, rfl, _, _, _, _, rfl, ty, k1, _, rfl, ?_⟩
  subst e
  cases b1 with
  | true =>
    refine iteT ?_
    exact ⟨_, rfl, _, _, _, _, rfl, ty, k2, _, rfl, q⟩
  | false => exact iteF q
theorem ok_numbers_by_slip (T : Tx K mg ad) : FnOk P w K mg base CX0 1 ad.f_numbers_by_slip ad.d_numbers_by_slip ["lines"] spNBS := by
  refine T.F_numbers_by_slip.ok sc_numbers_by_slip (fun vs H Q E h => ?_) (fun cdv A outer s H vs Q E hr h => ?_)
  · obtain ⟨l, ls, p, rfl, _⟩ := h
    rfl
  obtain ⟨l, ls, p, rfl, hl, g, hp, p64, q⟩ := h
  refine ⟨_, (@pss_cons _ _ _ _ _ (@ps_set _ _ (1) _ _ _ _ sc_numbers_by_slip.nd rfl (Or.inl rfl) pe_dnewT (by rfl) (by first | exact .inl rfl | exact .inr rfl | assumption)) (@pss_cons _ _ _ _ _ (ps_for PassesOwn.never rfl (pi_list (pv 0)) (pg_tup rfl (pgs_cons (pg_name (i := 2) sc_numbers_by_slip.nd rfl (Or.inl rfl)) (pgs_cons (pg_name (i := 3) sc_numbers_by_slip.nd rfl (Or.inl rfl)) pgs_nil))) (@pss_one _ _ _ (ps_dput (u1 hr.units) (pv 1) (pv 2) (@pe_op _ _ _ _ _ _ _ _ op_add (pe_dget2 (u1 hr.units) (pv 1) (pv 2) pe_int ⟨rfl, rfl, rfl, rfl⟩) (pv 3)) rfl))) (@pss_one _ _ _ (@ps_ret _ _ _ _ (pv 1))))), ?_⟩
  intro d hd
  have s0 := same_new hd (.dT [])
  have e0 : (upd H d (.dT [])) d = some (.dT []) := upd_same
  generalize upd H d (.dT []) = H0 at s0 e0 ⊢
  refine ⟨_, rfl, l, rfl, ⟨_, SqL.of (s0 _ _ hl)⟩, for_list (xs := vls ls) (fun i σ' H' => ∃ (v2 v3 : Option V) (kvs : List (List Key × V)), σ' = [some (.ref l), some (.ref d), v2, v3] ∧ Same H H' ∧ H' d = some (.dT kvs) ∧ DictOf (dsOf (ls.take i)) kvs) ⟨none, none, [], rfl, s0, e0, DictOf.nil⟩ (fun i σ' H' _ ⟨_, _, _, _, e, _⟩ => SqL.of (e _ _ hl)) ?_ ?_⟩
  · rintro i x σ' H' hx ⟨v2, v3, kvs, rfl, s1, e1, dk⟩
    obtain ⟨f, hf, rfl, fm, et⟩ := vls_get hx
    obtain ⟨g1, g2⟩ := g f fm
    have sub : ∀ q ∈ dsOf (ls.take i), q.1 ∈ p := fun q m => by
      obtain ⟨r, rm, rfl⟩ := List.mem_map.mp m
      exact hp _ (List.mem_map.mpr ⟨r, List.mem_of_mem_take rm, rfl⟩)
    have lim := dk.len sub
    have kt : H' f.2.1 = some (.tup ((f.2.2.1.map Sum.inl : List Key).map kV)) := by rw [kv_map]; exact s1 _ _ g2
    refine ⟨f.1, _, rfl, SqT.of (s1 _ _ g1), rfl, _, _, rfl, _, _, rfl, rfl, ?_⟩
    refine ⟨_, rfl, d, rfl, .inr ⟨_, .inl e1⟩, _, rfl, _, DGet.t e1 kt, ?_⟩
    rw [old_val dk]
    refine ⟨_, rfl, _, _, rfl, rfl, _, rfl, _, rfl, d, _, rfl, DPut.t e1 kt (small1000 (by omega)), ?_⟩
    refine ⟨_, _, _, rfl, same_upd s1 hd, upd_same, ?_⟩
    rw [et, dsOf_append]
    exact dk.put f.2.2.1 f.2.2.2
  · rintro σ' H' ⟨v2, v3, kvs, rfl, s1, e1, dk⟩
    rw [vls_len, List.take_of_length_le (Nat.le_refl _)] at dk
    exact ⟨_, rfl, q d kvs H' hd s1 e1 dk⟩
theorem ok_sheet_from (T : Tx K mg ad) : FnOk P w K mg base CX0 1 ad.f_sheet_from ad.d_sheet_from ["numbers"] spSF := by
  refine T.F_sheet_from.ok sc_sheet_from (fun vs H Q E h => ?_) (fun cdv A outer s H vs Q E hr h => ?_)
  · obtain ⟨d, kvs, rfl, _⟩ := h
    rfl
  obtain ⟨d, kvs, rfl, hd, vd, k64, q⟩ := h
  refine ⟨_, (@pss_one _ _ _ (@ps_ret _ _ _ _ (pe_comp (fsc := defScope s_sheet_from) (N := ["numbers"]) (Nc := ["numbers", "slip"]) rfl rfl ⟨rfl, by decide +kernel, by decide +kernel, rfl, by decide +kernel, rfl, by decide +kernel, rfl, by decide +kernel⟩ rfl (pi_list (@pe_callB _ _ _ _ _ _ _ _ _ (call_sortedDT rfl hr.units) (by rfl) T.z_sorted PyProof.Rows.boot_sorted (@pa_cons _ _ _ _ _ (pv 0) pa_nil (by rfl)) (by decide) (by decide) (by rfl) (by rfl))) (fun _ _ _ _ => (pif_one (@pt_cmpR _ _ _ _ _ _ _ _ op_gt (pe_dget (u1 hr.units) (pv 0) (pv 1) (fun _ _ => rfl)) pe_int (nomark _)))) (fun _ _ _ _ => (@pe_tup _ _ _ _ _ (@pa_cons _ _ _ _ _ (pv 1) (@pa_cons _ _ _ _ _ (pe_dget (u1 hr.units) (pv 0) (pv 1) (fun _ _ => rfl)) pa_nil (by rfl)) (by rfl))))))), ?_⟩
  obtain ⟨ks, k1, k2, knd, kmem⟩ := vd.keys
  refine ⟨_, rfl, d, kvs, ks, rfl, .inl hd, k1, by omega, fun l rs r1 r2 r3 hl => ?_⟩
  have sl := same_new hl (.lst (rs.map fun q => V.ref q.1))
  have el : (upd H l (.lst (rs.map fun q => V.ref q.1))) l = some (.lst (rs.map fun q => V.ref q.1)) := upd_same
  generalize upd H l (.lst (rs.map fun q => V.ref q.1)) = H1 at sl el ⊢
  have rl : rs.length = ks.length := by
    have := r2.length_eq
    rw [List.length_map] at this
    exact this
  have ov : ∀ r ∈ rs, valV kvs (r.2.map Sum.inl : List Key) = some (.int (oldV kvs r.2)) := fun r m => by
    obtain ⟨n, e⟩ := (kmem r.2).mp (r2.mem_iff.mp (List.mem_map.mpr ⟨r, m, rfl⟩))
    unfold oldV
    rw [e]
  refine ⟨l, rfl, ⟨_, SqL.of el⟩, ?_⟩
  refine comp_list (xs := rs.map fun q => V.ref q.1) (by rw [List.length_map]; exact small63 (by omega)) (fun D i ys H2 => ∃ ls : Ls, ys = vls ls ∧ ls.length ≤ i ∧ H2 D = some (.lst ys) ∧ Same H1 H2 ∧ GoodL H2 ls ∧ dsOf ls = ((rs.take i).filter fun r => decide (0 < oldV kvs r.2)).map fun r => (r.2, oldV kvs r.2)) (fun D hD => ⟨[], rfl, Nat.le_refl _, upd_same, same_new hD _, (fun _ m => nomatch m), rfl⟩) (fun D i ys H2 ⟨ls, f1, f2, f3, _⟩ => ⟨f3, by rw [f1, vls_len]; exact f2⟩) (fun D i ys H2 hD ⟨ls, _, _, _, f4, _⟩ => SqL.of (f4 _ _ el)) ?_ ?_
  · rintro D i x ys H2 K1 K2 hD hx ⟨ls, rfl, f2, f3, f4, f5, f6⟩ kk1 kk2
    rw [List.getElem?_map] at hx
    cases er : rs[i]? with
    | none => rw [er] at hx; cases hx
    | some r =>
      rw [er] at hx
      cases Option.some.inj hx
      have rm := List.mem_of_getElem? er
      have et : rs.take (i + 1) = rs.take i ++ [r] := by rw [List.take_succ, er]; rfl
      have sH := sl.trans f4
      have ek := sH _ _ (r1 r rm)
      have dg := DGet.t (k := (r.2.map Sum.inl : List Key)) (sH _ _ hd) (by rw [kv_map]; exact ek)
      rw [ov r rm] at dg
      refine ⟨_, rfl, _, rfl, d, _, rfl, dg, ?_⟩
      and_intros
      by_cases c : 0 < oldV kvs r.2
      · refine ifT (decide_eq_true c) ?_
        refine ⟨_, rfl, _, rfl, _, rfl, d, _, rfl, dg, (by show 2 ≤ sizeLine; decide), fun t ht => ?_⟩
        have s6 := same_new ht (.tup [V.ref r.1, V.int (oldV kvs r.2)])
        refine kk1 _ _ (s6 _ _ f3) ⟨ls ++ [(t, r.1, r.2, oldV kvs r.2)], by rw [vls_append]; rfl, by rw [List.length_append]; exact Nat.succ_le_succ f2, upd_same, same_upd (f4.trans s6) hD, ?_, ?_⟩
        · refine GoodL.upd (s6 _ _ f3) ((f5.same s6).append fun q m => ?_)
          rw [List.mem_singleton.mp m]
          exact ⟨upd_same, s6 _ _ ek⟩
        · rw [dsOf_append, f6, et, List.filter_append, List.map_append]
          simp [c, dsOf]
      · refine ifF (decide_eq_false c) ?_
        refine kk2 _ ⟨ls, rfl, Nat.le_succ_of_le f2, f3, f4, f5, ?_⟩
        rw [f6, et, List.filter_append, List.map_append]
        simp [c]
  · rintro D ys H2 hD ⟨ls, rfl, f2, f3, f4, f5, f6⟩
    rw [List.length_map] at f2
    rw [List.length_map, List.take_of_length_le (Nat.le_refl _)] at f6
    have rnd : (rs.map (·.2)).Nodup := r2.nodup_iff.mpr knd
    refine q D ls H2 (none_of sl hD) (sl.trans f4) f3 f5 ?_ (fun ts n => ?_) (by omega)
    · rw [f6, List.pairwise_map]
      have st : rs.Pairwise (fun x y => HT.lexLt x.2 y.2 = true) := by
        have nd2 : rs.Pairwise (fun x y => x.2 ≠ y.2) := List.pairwise_map.mp rnd
        exact (r3.and nd2).imp fun ⟨h1, h2⟩ => lex_tot h1 h2
      exact st.filter _
    · rw [f6]
      constructor
      · intro m
        obtain ⟨r, rm, e⟩ := List.mem_map.mp m
        obtain ⟨rm1, rm2⟩ := List.mem_filter.mp rm
        injection e with e1 e2
        subst e1
        subst e2
        exact ⟨ov r rm1, by simpa using rm2⟩
      · rintro ⟨e, n0⟩
        have tk : ts ∈ ks := (kmem ts).mpr ⟨n, e⟩
        obtain ⟨r, rm, rfl⟩ := List.mem_map.mp (r2.mem_iff.mpr tk)
        have o := ov r rm
        rw [e] at o
        injection o with o
        injection o with o
        exact List.mem_map.mpr ⟨r, List.mem_filter.mpr ⟨rm, by rw [← o]; simpa using n0⟩, by rw [← o]⟩
theorem ok_law_whole (T : Tx K mg ad) : FnOk P w K mg base CX0 1 ad.f_law_whole ad.d_law_whole ["_law_found"] spWhole := by
  refine T.F_law_whole.ok sc_law_whole (fun vs H Q E h => ?_) (fun cdv A outer s H vs Q E hr h => ?_)
  · obtain ⟨c, rfl, _⟩ := h
    rfl
  obtain ⟨c, rfl, q⟩ := h
  refine ⟨_, (@pss_one _ _ _ (@ps_ret _ _ _ _ (@pe_and _ _ _ _ _ _ _ (@pe_callB _ _ _ _ _ _ _ _ _ call_isi (by rfl) T.z_isinstance PyProof.Rows.boot_isinstance (@pa_cons _ _ _ _ _ (pv 0) (@pa_cons _ _ _ _ _ (pe_bltn (v := .ty "int") rfl T.z_int PyProof.Rows.boot_int rfl) pa_nil (by rfl)) (by rfl)) (by decide) (by decide) (by rfl) (by rfl)) (@pe_one _ _ _ _ _ (@pe_not _ _ _ _ (@pe_callB _ _ _ _ _ _ _ _ _ call_isi (by rfl) T.z_isinstance PyProof.Rows.boot_isinstance (@pa_cons _ _ _ _ _ (pv 0) (@pa_cons _ _ _ _ _ (pe_bltn (v := .ty "bool") rfl T.z_bool PyProof.Rows.boot_bool rfl) pa_nil (by rfl)) (by rfl)) (by decide) (by decide) (by rfl) (by rfl))))))), ?_⟩
  refine ⟨_, rfl, _, _, _, _, rfl, TyOf.int c, kit_int_int, _, rfl, ?_⟩
  refine iteT ?_
  exact ⟨_, rfl, _, _, _, _, rfl, TyOf.int c, kit_int_bool, _, rfl, q⟩
theorem ok_law_cell (T : Tx K mg ad) : FnOk P w K mg base CX0 1 ad.f_law_cell ad.d_law_cell ["_law_script", "_law_k"] (spC40 K) := by
  refine T.F_law_cell.ok sc_law_cell (fun vs H Q E h => ?_) (fun cdv A outer s H vs Q E hr h => ?_)
  · obtain ⟨p, ns, k, rfl, _⟩ := h
    rfl
  obtain ⟨p, ns, k, rfl, hS, h63, k0, k1, q⟩ := h
  refine ⟨_, (@pss_cons _ _ _ _ _ (@ps_if _ _ _ _ _ _ _ _ (@pt_cmpR _ _ _ _ _ _ _ _ op_lt (pv 1) (@pe_callB _ _ _ _ _ _ _ _ _ call_len_seq (by rfl) T.z_len PySem.boot_len (@pa_cons _ _ _ _ _ (pv 0) pa_nil (by rfl)) (by decide) (by decide) (by rfl) (by rfl)) (nomark _)) (@pss_one _ _ _ (@ps_ret _ _ _ _ (@pe_op _ _ _ _ _ _ _ _ op_modN (@pe_ix _ _ _ _ _ _ _ ix_list (pv 0) (pv 1) (fun _ _ => rfl)) (@pe_op _ _ _ _ _ _ _ _ op_pow pe_int pe_int)))) pss_nil) (@pss_one _ _ _ (@ps_ret _ _ _ _ (@pe_op _ _ _ _ _ _ _ _ op_modN (@pe_op _ _ _ _ _ _ _ _ op_mulB (@pe_op _ _ _ _ _ _ _ _ op_add (@pe_op _ _ _ _ _ _ _ _ op_mulB (pv 1) (pv 1)) pe_int) pe_int) pe_int)))), ?_⟩
  have hl : (ns.map V.int).length = ns.length := List.length_map _
  have szk : Sz 64 k := sz_of (by omega) (by omega)
  have p40 : (0 : Int) < 10 ^ (40 : Int).toNat := by decide +kernel
  refine ⟨_, rfl, _, rfl, p, _, rfl, .inl hS, _, _, rfl, rfl, _, rfl, ?_⟩
  refine ite2 (fun c => ?_) (fun c => ?_)
  · have c' : k < (((ns.map V.int).length : Nat) : Int) := of_decide_eq_true c
    rw [hl] at c'
    obtain ⟨v, hv⟩ := item_at k0 c'
    refine ⟨_, rfl, _, rfl, p, _, _, _, rfl, rfl, hS, hv, _, _, rfl, rfl, cpow40, _, _, rfl, rfl, (Int.ne_of_gt p40), ?_⟩
    exact q _ (fmod_in v p40).1 (fmod_in v p40).2
  · and_intros
    have m := fmod_in ((k * k + 7) * 48271) (show (0 : Int) < 1009 by decide)
    exact q _ m.1 (Int.lt_trans m.2 (by decide))
theorem ok_law_mixed (T : Tx K mg ad) : FnOk P w K mg base CX0 1 ad.f_law_mixed ad.d_law_mixed ["_law_cell_here", "_law_by"] spMixed := by
  refine T.F_law_mixed.ok sc_law_mixed (fun vs H Q E h => ?_) (fun cdv A outer s H vs Q E hr h => ?_)
  · obtain ⟨c, b, rfl, _⟩ := h
    rfl
  obtain ⟨c, b, rfl, szc, szb, q⟩ := h
  refine ⟨_, (@pss_cons _ _ _ _ _ (@ps_set _ _ (2) _ _ _ _ sc_law_mixed.nd rfl (Or.inl rfl) (@pe_op _ _ _ _ _ _ _ _ op_add (@pe_op _ _ _ _ _ _ _ _ op_mulB (pv 0) pe_int) (@pe_op _ _ _ _ _ _ _ _ op_mulB (pv 1) pe_int)) (by rfl) (by first | exact .inl rfl | exact .inr rfl | assumption)) (@pss_cons _ _ _ _ _ (@ps_set _ _ (2) _ _ _ _ sc_law_mixed.nd rfl (Or.inl rfl) (@pe_op _ _ _ _ _ _ _ _ op_modN (@pe_op _ _ _ _ _ _ _ _ op_add (pv 2) pe_int) (@pe_op _ _ _ _ _ _ _ _ op_add (@pe_op _ _ _ _ _ _ _ _ op_pow pe_int pe_int) pe_int)) (by rfl) (by first | exact .inl rfl | exact .inr rfl | assumption)) (@pss_one _ _ _ (@ps_ret _ _ _ _ (@pe_op _ _ _ _ _ _ _ _ op_fdivB (@pe_op _ _ _ _ _ _ _ _ op_modN (@pe_op _ _ _ _ _ _ _ _ op_mulB (pv 2) (pv 2)) (@pe_op _ _ _ _ _ _ _ _ op_add (@pe_op _ _ _ _ _ _ _ _ op_pow pe_int pe_int) pe_int)) pe_int))))), ?_⟩
  and_intros
  exact q _ (mix_end _).1 (mix_end _).2
theorem ok_law_sheet (T : Tx K mg ad) : FnOk P w K mg base CX0 1 ad.f_law_sheet ad.d_law_sheet ["_law_many"] spSF := by
  refine T.F_law_sheet.ok sc_law_sheet (fun vs H Q E h => ?_) (fun cdv A outer s H vs Q E hr h => ?_)
  · obtain ⟨d, kvs, rfl, _⟩ := h
    rfl
  obtain ⟨d, kvs, rfl, hd, vd, k64, q⟩ := h
  refine ⟨_, (@pss_one _ _ _ (@ps_ret _ _ _ _ (pe_comp (fsc := defScope s_law_sheet) (N := ["_law_many"]) (Nc := ["_law_many", "_law_slip_here"]) rfl rfl ⟨rfl, by decide +kernel, by decide +kernel, rfl, by decide +kernel, rfl, by decide +kernel, rfl, by decide +kernel⟩ rfl (pi_list (@pe_callB _ _ _ _ _ _ _ _ _ (call_sortedDT rfl hr.units) (by rfl) T.z_sorted PyProof.Rows.boot_sorted (@pa_cons _ _ _ _ _ (pv 0) pa_nil (by rfl)) (by decide) (by decide) (by rfl) (by rfl))) (fun _ _ _ _ => (pif_one (@pt_cmpR _ _ _ _ _ _ _ _ op_gt (pe_dget (u1 hr.units) (pv 0) (pv 1) (fun _ _ => rfl)) pe_int (nomark _)))) (fun _ _ _ _ => (@pe_tup _ _ _ _ _ (@pa_cons _ _ _ _ _ (pv 1) (@pa_cons _ _ _ _ _ (pe_dget (u1 hr.units) (pv 0) (pv 1) (fun _ _ => rfl)) pa_nil (by rfl)) (by rfl))))))), ?_⟩
  obtain ⟨ks, k1, k2, knd, kmem⟩ := vd.keys
  refine ⟨_, rfl, d, kvs, ks, rfl, .inl hd, k1, by omega, fun l rs r1 r2 r3 hl => ?_⟩
  have sl := same_new hl (.lst (rs.map fun q => V.ref q.1))
  have el : (upd H l (.lst (rs.map fun q => V.ref q.1))) l = some (.lst (rs.map fun q => V.ref q.1)) := upd_same
  generalize upd H l (.lst (rs.map fun q => V.ref q.1)) = H1 at sl el ⊢
  have rl : rs.length = ks.length := by
    have := r2.length_eq
    rw [List.length_map] at this
    exact this
  have ov : ∀ r ∈ rs, valV kvs (r.2.map Sum.inl : List Key) = some (.int (oldV kvs r.2)) := fun r m => by
    obtain ⟨n, e⟩ := (kmem r.2).mp (r2.mem_iff.mp (List.mem_map.mpr ⟨r, m, rfl⟩))
    unfold oldV
    rw [e]
  refine ⟨l, rfl, ⟨_, SqL.of el⟩, ?_⟩
  refine comp_list (xs := rs.map fun q => V.ref q.1) (by rw [List.length_map]; exact small63 (by omega)) (fun D i ys H2 => ∃ ls : Ls, ys = vls ls ∧ ls.length ≤ i ∧ H2 D = some (.lst ys) ∧ Same H1 H2 ∧ GoodL H2 ls ∧ dsOf ls = ((rs.take i).filter fun r => decide (0 < oldV kvs r.2)).map fun r => (r.2, oldV kvs r.2)) (fun D hD => ⟨[], rfl, Nat.le_refl _, upd_same, same_new hD _, (fun _ m => nomatch m), rfl⟩) (fun D i ys H2 ⟨ls, f1, f2, f3, _⟩ => ⟨f3, by rw [f1, vls_len]; exact f2⟩) (fun D i ys H2 hD ⟨ls, _, _, _, f4, _⟩ => SqL.of (f4 _ _ el)) ?_ ?_
  · rintro D i x ys H2 K1 K2 hD hx ⟨ls, rfl, f2, f3, f4, f5, f6⟩ kk1 kk2
    rw [List.getElem?_map] at hx
    cases er : rs[i]? with
    | none => rw [er] at hx; cases hx
    | some r =>
      rw [er] at hx
      cases Option.some.inj hx
      have rm := List.mem_of_getElem? er
      have et : rs.take (i + 1) = rs.take i ++ [r] := by rw [List.take_succ, er]; rfl
      have sH := sl.trans f4
      have ek := sH _ _ (r1 r rm)
      have dg := DGet.t (k := (r.2.map Sum.inl : List Key)) (sH _ _ hd) (by rw [kv_map]; exact ek)
      rw [ov r rm] at dg
      refine ⟨_, rfl, _, rfl, d, _, rfl, dg, ?_⟩
      and_intros
      by_cases c : 0 < oldV kvs r.2
      · refine ifT (decide_eq_true c) ?_
        refine ⟨_, rfl, _, rfl, _, rfl, d, _, rfl, dg, (by show 2 ≤ sizeLine; decide), fun t ht => ?_⟩
        have s6 := same_new ht (.tup [V.ref r.1, V.int (oldV kvs r.2)])
        refine kk1 _ _ (s6 _ _ f3) ⟨ls ++ [(t, r.1, r.2, oldV kvs r.2)], by rw [vls_append]; rfl, by rw [List.length_append]; exact Nat.succ_le_succ f2, upd_same, same_upd (f4.trans s6) hD, ?_, ?_⟩
        · refine GoodL.upd (s6 _ _ f3) ((f5.same s6).append fun q m => ?_)
          rw [List.mem_singleton.mp m]
          exact ⟨upd_same, s6 _ _ ek⟩
        · rw [dsOf_append, f6, et, List.filter_append, List.map_append]
          simp [c, dsOf]
      · refine ifF (decide_eq_false c) ?_
        refine kk2 _ ⟨ls, rfl, Nat.le_succ_of_le f2, f3, f4, f5, ?_⟩
        rw [f6, et, List.filter_append, List.map_append]
        simp [c]
  · rintro D ys H2 hD ⟨ls, rfl, f2, f3, f4, f5, f6⟩
    rw [List.length_map] at f2
    rw [List.length_map, List.take_of_length_le (Nat.le_refl _)] at f6
    have rnd : (rs.map (·.2)).Nodup := r2.nodup_iff.mpr knd
    refine q D ls H2 (none_of sl hD) (sl.trans f4) f3 f5 ?_ (fun ts n => ?_) (by omega)
    · rw [f6, List.pairwise_map]
      have st : rs.Pairwise (fun x y => HT.lexLt x.2 y.2 = true) := by
        have nd2 : rs.Pairwise (fun x y => x.2 ≠ y.2) := List.pairwise_map.mp rnd
        exact (r3.and nd2).imp fun ⟨h1, h2⟩ => lex_tot h1 h2
      exact st.filter _
    · rw [f6]
      constructor
      · intro m
        obtain ⟨r, rm, e⟩ := List.mem_map.mp m
        obtain ⟨rm1, rm2⟩ := List.mem_filter.mp rm
        injection e with e1 e2
        subst e1
        subst e2
        exact ⟨ov r rm1, by simpa using rm2⟩
      · rintro ⟨e, n0⟩
        have tk : ts ∈ ks := (kmem ts).mpr ⟨n, e⟩
        obtain ⟨r, rm, rfl⟩ := List.mem_map.mp (r2.mem_iff.mpr tk)
        have o := ov r rm
        rw [e] at o
        injection o with o
        injection o with o
        exact List.mem_map.mpr ⟨r, List.mem_filter.mpr ⟨rm, by rw [← o]; simpa using n0⟩, by rw [← o]⟩
theorem ok_law_other (T : Tx K mg ad) : FnOkH P w K mg base 1 ad.f_law_other ad.d_law_other ["_law_e"] (spOther8 ad.c_NoSheet ad.c_NoChange) := by
  refine T.F_law_other.okH sc_law_other (fun vs H Q E h => ?_) (fun cdv A outer s H vs Q E hr h => ?_)
  · obtain ⟨e, C, rfl, _⟩ := h
    rfl
  obtain ⟨e, C, rfl, hC, he, q⟩ := h
  refine ⟨_, (@pss_one _ _ _ (@ps_ret _ _ _ _ (@pe_callB _ _ _ _ _ _ _ _ _ (call_isxT (K := K)) (by rfl) T.z_isinstance PyProof.Rows.boot_isinstance (@pa_cons _ _ _ _ _ (pv 0) (@pa_cons _ _ _ _ _ (@pe_tup _ _ _ _ _ (@pa_cons _ _ _ _ _ (pe_glob (v := .ref ad.c_Ended) rfl T.m_Ended rfl) (@pa_cons _ _ _ _ _ (pe_glob (v := .ref ad.c_NoBallot) rfl T.m_NoBallot rfl) (@pa_cons _ _ _ _ _ (pe_glob (v := .ref ad.c_NoBundle) rfl T.m_NoBundle rfl) (@pa_cons _ _ _ _ _ (pe_glob (v := .ref ad.c_NoNumber) rfl T.m_NoNumber rfl) (@pa_cons _ _ _ _ _ (pe_glob (v := .ref ad.c_NoRow) rfl T.m_NoRow rfl) (@pa_cons _ _ _ _ _ (pe_glob (v := .ref ad.c_NoWay) rfl T.m_NoWay rfl) (@pa_cons _ _ _ _ _ (pe_glob (v := .ref ad.c_TooHard) rfl T.m_TooHard rfl) (@pa_cons _ _ _ _ _ (pe_glob (v := .ref ad.c_Torn) rfl T.m_Torn rfl) (@pa_cons _ _ _ _ _ (pe_glob (v := .ref ad.c_WrongNumber) rfl T.m_WrongNumber rfl) pa_nil (by rfl)) (by rfl)) (by rfl)) (by rfl)) (by rfl)) (by rfl)) (by rfl)) (by rfl)) (by rfl))) pa_nil (by rfl)) (by rfl)) (by decide) (by decide) (by rfl) (by rfl)))), ?_⟩
  refine ⟨_, rfl, (by show 9 ≤ sizeLine; decide), fun t1 h1 => ?_⟩
  have s1 := same_new h1 (.tup ([.ref ad.c_Ended, .ref ad.c_NoBallot, .ref ad.c_NoBundle, .ref ad.c_NoNumber, .ref ad.c_NoRow, .ref ad.c_NoWay, .ref ad.c_TooHard, .ref ad.c_Torn, .ref ad.c_WrongNumber] : List V))
  rcases hC with rfl | rfl
  · skip
    have kit : ∀ {B : Addr} {b : Bool}, HCls K B → PySem.W.subIn K (.ref ad.c_NoSheet) (.ref B) = some b → PySem.W.kitOne K (.ref ad.c_NoSheet) (.ref B) = some b := fun c h => kit_cc c h T.s_NoSheet_NoSheet
    refine ⟨e, ad.c_NoSheet, none, t1, _, [.ref ad.c_Ended, .ref ad.c_NoBallot, .ref ad.c_NoBundle, .ref ad.c_NoNumber, .ref ad.c_NoRow, .ref ad.c_NoWay, .ref ad.c_TooHard, .ref ad.c_Torn, .ref ad.c_WrongNumber], false, rfl, s1 _ _ he, .inl rfl, T.k_NoSheet, SqT.of upd_same, rfl, (kan (kit T.h_Ended T.s_NoSheet_Ended) (kan (kit T.h_NoBallot T.s_NoSheet_NoBallot) (kan (kit T.h_NoBundle T.s_NoSheet_NoBundle) (kan (kit T.h_NoNumber T.s_NoSheet_NoNumber) (kan (kit T.h_NoRow T.s_NoSheet_NoRow) (kan (kit T.h_NoWay T.s_NoSheet_NoWay) (kan (kit T.h_TooHard T.s_NoSheet_TooHard) (kan (kit T.h_Torn T.s_NoSheet_Torn) (kan (kit T.h_WrongNumber T.s_NoSheet_WrongNumber) kan_nil))))))))), ?_⟩
    exact q _ s1
  · skip
    have kit : ∀ {B : Addr} {b : Bool}, HCls K B → PySem.W.subIn K (.ref ad.c_NoChange) (.ref B) = some b → PySem.W.kitOne K (.ref ad.c_NoChange) (.ref B) = some b := fun c h => kit_cc c h T.s_NoChange_NoChange
    refine ⟨e, ad.c_NoChange, none, t1, _, [.ref ad.c_Ended, .ref ad.c_NoBallot, .ref ad.c_NoBundle, .ref ad.c_NoNumber, .ref ad.c_NoRow, .ref ad.c_NoWay, .ref ad.c_TooHard, .ref ad.c_Torn, .ref ad.c_WrongNumber], false, rfl, s1 _ _ he, .inl rfl, T.k_NoChange, SqT.of upd_same, rfl, (kan (kit T.h_Ended T.s_NoChange_Ended) (kan (kit T.h_NoBallot T.s_NoChange_NoBallot) (kan (kit T.h_NoBundle T.s_NoChange_NoBundle) (kan (kit T.h_NoNumber T.s_NoChange_NoNumber) (kan (kit T.h_NoRow T.s_NoChange_NoRow) (kan (kit T.h_NoWay T.s_NoChange_NoWay) (kan (kit T.h_TooHard T.s_NoChange_TooHard) (kan (kit T.h_Torn T.s_NoChange_Torn) (kan (kit T.h_WrongNumber T.s_NoChange_WrongNumber) kan_nil))))))))), ?_⟩
    exact q _ s1
theorem ok_law_bad_numbers (T : Tx K mg ad) : FnOk P w K mg base CX0 1 ad.f_law_bad_numbers ad.d_law_bad_numbers ["_law_cell_here"] spBadN := by
  refine T.F_law_bad_numbers.ok sc_law_bad_numbers (fun vs H Q E h => ?_) (fun cdv A outer s H vs Q E hr h => ?_)
  · obtain ⟨c, rfl, _⟩ := h
    rfl
  obtain ⟨c, rfl, c0, c1, q⟩ := h
  refine ⟨_, (@pss_one _ _ _ (@ps_ret _ _ _ _ (@pe_lst _ _ _ _ (@pa_cons _ _ _ _ _ pe_int (@pa_cons _ _ _ _ _ (@pe_un _ _ _ _ _ _ un_neg pe_int) (@pa_cons _ _ _ _ _ (@pe_op _ _ _ _ _ _ _ _ op_sub (@pe_un _ _ _ _ _ _ un_neg pe_int) (@pe_op _ _ _ _ _ _ _ _ op_modN (pv 0) (@pe_op _ _ _ _ _ _ _ _ op_pow pe_int pe_int))) (@pa_cons _ _ _ _ _ pe_bl (@pa_cons _ _ _ _ _ pe_bl (@pa_cons _ _ _ _ _ pe_non (@pa_cons _ _ _ _ _ pe_str (@pa_cons _ _ _ _ _ (@pe_tup _ _ _ _ _ (@pa_cons _ _ _ _ _ pe_int pa_nil (by rfl))) (@pa_cons _ _ _ _ _ (@pe_lst _ _ _ _ (@pa_cons _ _ _ _ _ pe_int pa_nil (by rfl))) pa_nil (by rfl)) (by rfl)) (by rfl)) (by rfl)) (by rfl)) (by rfl)) (by rfl)) (by rfl)) (by rfl))))), ?_⟩
  have szc := sz40 c0 c1
  and_intros
  refine ⟨(by show 1 ≤ sizeLine; decide), fun t ht => ?_⟩
  have s1 := same_new ht (.tup [V.int 1])
  have e1 : (upd H t (.tup [V.int 1])) t = some (.tup [V.int 1]) := upd_same
  generalize upd H t (.tup [V.int 1]) = H1 at s1 e1 ⊢
  refine ⟨(by show 1 ≤ sizeLine; decide), fun a ha => ?_⟩
  have s2 := same_new ha (.lst [V.int 1])
  have e2 : (upd H1 a (.lst [V.int 1])) a = some (.lst [V.int 1]) := upd_same
  generalize upd H1 a (.lst [V.int 1]) = H2 at s2 e2 ⊢
  refine ⟨(by show 9 ≤ sizeLine; decide), fun l hl => ?_⟩
  have m30 := fmod_in c (show (0 : Int) < 10 ^ (30 : Int).toNat by decide)
  have s3 := same_new hl (.lst [.int 0, .int (-1), .int (-1 - c.fmod (10 ^ (30 : Int).toNat)), .bl true, .bl false, .non, .str (Str.ofString "1"), .ref t, .ref a])
  exact q l t a (-1 - c.fmod (10 ^ (30 : Int).toNat)) _ (none_of (s1.trans s2) hl) ((s1.trans s2).trans s3) (by omega) ((s2.trans s3) _ _ e1) (s3 _ _ e2) upd_same
theorem ok_is_number (T : Tx K mg ad) : FnOk P w K mg base CX0 2 ad.f_is_number ad.d_is_number ["thing"] (spNumX K) := by
  refine T.F_is_number.ok sc_is_number (fun vs H Q E h => ?_) (fun cdv A outer s H vs Q E hr h => ?_)
  · obtain ⟨x, rfl, _⟩ := h
    rfl
  obtain ⟨x, rfl, hx, q⟩ := h
  refine ⟨_, (@pss_one _ _ _ (@ps_ret _ _ _ _ (@pe_and _ _ _ _ _ _ _ (@pe_call _ _ _ _ _ _ _ _ _ _ _ _ _ _ _ _ (ok_is_whole T) (hr.mono (by decide)) rfl T.m_is_whole T.F_is_whole.kp T.b_is_whole .nil pass0 (@pa_cons _ _ _ _ _ (pv 0) pa_nil (by rfl)) (by decide) (by rfl) (by rfl)) (@pe_one _ _ _ _ _ (pe_chain op_le op_le pe_int (pv 0) (pe_glob (v := .int 1000000000) rfl T.k_MOST_BALLOTS ⟨_, rfl⟩)))))), ?_⟩
  rcases hx with ⟨hw, hn⟩ | ⟨n, rfl⟩
  · rw [hn] at q
    refine ⟨_, rfl, x, false, rfl, hw, ?_⟩
    refine ⟨_, rfl, ?_⟩
    exact iteF q
  · refine ⟨_, rfl, _, true, rfl, Wh.int n, ?_⟩
    and_intros
    by_cases c : 1 ≤ n
    · refine ifT (decide_eq_true c) ?_
      and_intros
      rw [show okNum (.int n) = decide (n ≤ 1000000000) from (by show (decide (1 ≤ n) && decide (n ≤ 1000000000)) = _; rw [decide_eq_true c]; rfl)] at q
      exact q
    · refine ifF (decide_eq_false c) ?_
      rw [show okNum (.int n) = false from (by show (decide (1 ≤ n) && decide (n ≤ 1000000000)) = _; rw [decide_eq_false c]; rfl)] at q
      exact q
theorem ok_check_row (T : Tx K mg ad) : FnOk P w K mg base (CX1 P w) 2 ad.f_check_row ad.d_check_row ["old", "new", "number"] (spCheckX K ad.c_NoChange) := by
  refine T.F_check_row.okX sc_check_row (fun vs H Q E h => ?_) (fun cdv A outer s H vs Q E hr h => ?_)
  · obtain ⟨a, b, ts, us, x, rfl, _⟩ := h
    rfl
  obtain ⟨a, b, ts, us, x, rfl, ha, hb, hx, q, he⟩ := h
  have say : 1 ≤ sizeLine := by decide
  have me : Same H H := fun _ _ e => e
  refine ⟨_, (@pss_cons _ _ _ _ _ (@ps_if _ _ _ _ _ _ _ _ (PW.pt (@pw_or _ _ _ _ _ _ _ (@pt_not _ _ _ _ (@pt_val _ _ _ (@pe_call _ _ _ _ _ _ _ _ _ _ _ _ _ _ _ _ (ok_is_whole T) (hr.mono (by decide)) rfl T.m_is_whole T.F_is_whole.kp T.b_is_whole .nil pass0 (@pa_cons _ _ _ _ _ (pv 2) pa_nil (by rfl)) (by decide) (by rfl) (by rfl)) (by intro _; rfl))) (@pw_or1 _ _ _ _ (@pt_cmpR _ _ _ _ _ _ _ _ op_lt (pv 2) pe_int (nomark _))))) (@pss_one _ _ _ (ps_raise ⟨rfl, rfl, rfl⟩ rfl rfl T.m_NoChange T.x_NoChange (@pa_cons _ _ _ _ _ pe_str pa_nil (by rfl)))) pss_nil) (@pss_one _ _ _ (@ps_if _ _ _ _ _ _ _ _ (@pt_cmpR _ _ _ _ _ _ _ _ (op_eqD (K := K) hr.units) (pv 0) (pv 1) (nomark _)) (@pss_one _ _ _ (ps_raise ⟨rfl, rfl, rfl⟩ rfl rfl T.m_NoChange T.x_NoChange (@pa_cons _ _ _ _ _ pe_str pa_nil (by rfl)))) pss_nil))), ?_⟩
  rcases hx with ⟨hw, hn⟩ | ⟨n, rfl⟩
  · refine ⟨_, rfl, x, false, rfl, hw, ?_⟩
    refine ⟨_, rfl, ?_⟩
    exact iteT ⟨say, he hn H me⟩
  · refine ⟨_, rfl, _, true, rfl, Wh.int n, ?_⟩
    and_intros
    by_cases c : n < 1
    · refine ifT (decide_eq_true c) ?_
      exact ⟨say, he (by show (decide (1 ≤ n) && _) = false; rw [decide_eq_false (by omega)]; rfl) H me⟩
    · refine ifF (decide_eq_false c) ?_
      refine ⟨_, rfl, _, rfl, .tuple (ts.map .int), .tuple (us.map .int), .tup (SqT.of ha) (.ints ts), .tup (SqT.of hb) (.ints us), (shape_ints ts).1, (shape_ints us).1, ?_⟩
      rw [show PyData.eqv (.tuple (ts.map .int)) (.tuple (us.map .int)) = decide (ts = us) from eqv_ints ts us]
      refine ⟨_, rfl, ?_⟩
      by_cases e : ts = us
      · refine ifT (decide_eq_true e) ?_
        exact ⟨say, he (by show (_ && !decide (ts = us)) = false; rw [decide_eq_true e, Bool.and_comm]; rfl) H me⟩
      · refine ifF (decide_eq_false e) ?_
        exact q (by show (decide (1 ≤ n) && !decide (ts = us)) = true; rw [decide_eq_false e, decide_eq_true (by omega)]; rfl)
theorem ok_law_slip (T : Tx K mg ad) : FnOk P w K mg base CX0 2 ad.f_law_slip ad.d_law_slip ["_law_cell_here", "_law_hands"] spSlip26 := by
  refine T.F_law_slip.ok sc_law_slip (fun vs H Q E h => ?_) (fun cdv A outer s H vs Q E hr h => ?_)
  · obtain ⟨c, h, rfl, _⟩ := h
    rfl
  obtain ⟨c, h, rfl, c0, c1, h1, h12, q⟩ := h
  refine ⟨_, (@pss_cons _ _ _ _ _ (@ps_if _ _ _ _ _ _ _ _ (@pt_cmpR _ _ _ _ _ _ _ _ op_eq (@pe_op _ _ _ _ _ _ _ _ op_modN (pv 0) pe_int) pe_int (nomark _)) (@pss_one _ _ _ (@ps_ret _ _ _ _ (@pe_tup _ _ _ _ _ pa_nil))) pss_nil) (@pss_cons _ _ _ _ _ (@ps_if _ _ _ _ _ _ _ _ (@pt_cmpR _ _ _ _ _ _ _ _ op_eq (@pe_op _ _ _ _ _ _ _ _ op_modN (pv 0) pe_int) pe_int (nomark _)) (@pss_one _ _ _ (@ps_ret _ _ _ _ (@pe_tup _ _ _ _ _ (@pa_cons _ _ _ _ _ (@pe_op _ _ _ _ _ _ _ _ op_shl pe_int (@pe_op _ _ _ _ _ _ _ _ op_modN (@pe_op _ _ _ _ _ _ _ _ op_fdivB (pv 0) pe_int) (pv 1))) pa_nil (by rfl))))) pss_nil) (@pss_cons _ _ _ _ _ (@ps_set _ _ (2) _ _ _ _ sc_law_slip.nd rfl (Or.inr rfl) (@pe_op _ _ _ _ _ _ _ _ op_add pe_int (@pe_op _ _ _ _ _ _ _ _ op_modN (@pe_op _ _ _ _ _ _ _ _ op_fdivB (pv 0) pe_int) pe_int)) (by rfl) (by first | exact .inl rfl | exact .inr rfl | assumption)) (@pss_cons _ _ _ _ _ (@ps_set _ _ (3) _ _ _ _ sc_law_slip.nd rfl (Or.inr rfl) (pe_comp (fsc := defScope s_law_slip) (N := ["_law_cell_here", "_law_hands", "_law_spread", "_law_ranks", "_law_tiers", "_law_rank"]) (Nc := ["_law_cell_here", "_law_hands", "_law_spread", "_law_ranks", "_law_tiers", "_law_rank", "_law_hand"]) rfl rfl ⟨rfl, by decide +kernel, by decide +kernel, rfl, by decide +kernel, rfl, by decide +kernel, rfl, by decide +kernel⟩ rfl (pi_range1 rfl T.z_range (@pa_cons _ _ _ _ _ (pv 1) pa_nil (by rfl))) (fun _ _ _ _ => pif_nil) (fun _ _ _ _ => (@pe_op _ _ _ _ _ _ _ _ op_modN (@pe_call _ _ _ _ _ _ _ _ _ _ _ _ _ _ _ _ (ok_law_mixed T) (hr.mono (by decide)) rfl T.m_law_mixed T.F_law_mixed.kp T.b_law_mixed .nil pass0 (@pa_cons _ _ _ _ _ (pv 0) (@pa_cons _ _ _ _ _ (@pe_op _ _ _ _ _ _ _ _ op_add pe_int (pv 6)) pa_nil (by rfl)) (by rfl)) (by decide) (by rfl) (by rfl)) (pv 2)))) (by rfl) (by first | exact .inl rfl | exact .inr rfl | assumption)) (@pss_cons _ _ _ _ _ (@ps_set _ _ (4) _ _ _ _ sc_law_slip.nd rfl (Or.inl rfl) (@pe_lst _ _ _ _ pa_nil) (by rfl) (by first | exact .inl rfl | exact .inr rfl | assumption)) (@pss_cons _ _ _ _ _ (ps_for PassesOwn.never rfl (pi_range2 rfl T.z_range (@pa_cons _ _ _ _ _ pe_int (@pa_cons _ _ _ _ _ (pv 2) pa_nil (by rfl)) (by rfl))) (pg_name (i := 5) sc_law_slip.nd rfl (Or.inr rfl)) (@pss_one _ _ _ (@ps_expr _ _ _ _ (pe_bm PySem.F.plainAttrs_list PySem.F.slot_list_append PySem.F.type_list_append mt_append (pv 4) (@pa_cons _ _ _ _ _ (@pe_callB _ _ _ _ _ _ _ _ _ (call_sum rfl) (by rfl) T.z_sum PyProof.Rows.boot_sum (@pa_cons _ _ _ _ _ (pe_comp (fsc := defScope s_law_slip) (N := ["_law_cell_here", "_law_hands", "_law_spread", "_law_ranks", "_law_tiers", "_law_rank"]) (Nc := ["_law_cell_here", "_law_hands", "_law_spread", "_law_ranks", "_law_tiers", "_law_rank", "_law_hand"]) rfl rfl ⟨rfl, by decide +kernel, by decide +kernel, rfl, by decide +kernel, rfl, by decide +kernel, rfl, by decide +kernel⟩ rfl (pi_range1 rfl T.z_range (@pa_cons _ _ _ _ _ (pv 1) pa_nil (by rfl))) (fun _ _ _ _ => (pif_one (@pt_cmpR _ _ _ _ _ _ _ _ op_eq (@pe_ix _ _ _ _ _ _ _ (ix_listK K) (pv 3) (pv 6) (fun _ _ => rfl)) (pv 5) (nomark _)))) (fun _ _ _ _ => (@pe_op _ _ _ _ _ _ _ _ op_shl pe_int (pv 6)))) pa_nil (by rfl)) (by decide) (by decide) (by rfl) (by rfl)) pa_nil (by rfl))) (by rfl)))) (@pss_one _ _ _ (@ps_ret _ _ _ _ (@pe_callTy _ _ _ _ _ _ _ _ _ call_tuple_of (by rfl) T.z_tuple PyProof.Rows.boot_tuple (@pa_cons _ _ _ _ _ (pe_comp (fsc := defScope s_law_slip) (N := ["_law_cell_here", "_law_hands", "_law_spread", "_law_ranks", "_law_tiers", "_law_rank"]) (Nc := ["_law_cell_here", "_law_hands", "_law_spread", "_law_ranks", "_law_tiers", "_law_rank", "_law_tier"]) rfl rfl ⟨rfl, by decide +kernel, by decide +kernel, rfl, by decide +kernel, rfl, by decide +kernel, rfl, by decide +kernel⟩ rfl (pi_list (pv 4)) (fun _ _ _ _ => (pif_one (@pt_cmpR _ _ _ _ _ _ _ _ op_gt (pv 6) pe_int (nomark _)))) (fun _ _ _ _ => (pv 6))) pa_nil (by rfl)) (by decide) (by decide) (by rfl) (by rfl)))))))))), ?_⟩
  have nh : h ≠ 0 := by omega
  have szc := sz18 c0 c1
  and_intros
  refine ite2 (fun _ => ?_) (fun _ => ?_)
  · exact ⟨(by show 0 ≤ sizeLine; decide), fun t ht => q t [] _ (same_new ht _) upd_same⟩
  and_intros
  refine ite2 (fun _ => ?_) (fun _ => ?_)
  · and_intros
    refine ⟨nh, ?_⟩
    have m := fmod_in (c.fdiv 9) (show (0 : Int) < h by omega)
    exact ⟨_, _, rfl, rfl, (by show CPow 1 _; exact ⟨m.1, by omega, by decide⟩), (by show 1 ≤ sizeLine; decide), fun t ht => q t [1 * 2 ^ ((c.fdiv 9).fmod h).toNat] _ (same_new ht _) upd_same⟩
  and_intros
  have ms := fmod_in (c.fdiv 9) (show (0 : Int) < 11 by decide)
  refine ⟨by omega, by omega, ?_⟩
  refine comp_range (small63 (by omega)) (fun D i ys H' => ∃ rs : List Int, ys = rs.map V.int ∧ rs.length = i ∧ H' = upd H D (.lst ys)) (fun D hD => ⟨[], rfl, rfl, rfl⟩) (fun D i ys H' ⟨rs, f1, f2, f3⟩ => ⟨by rw [f3]; exact upd_same, by rw [f1, List.length_map]; omega⟩) ?_ ?_
  · rintro D i ys H' K1 K2 hD hi ⟨rs, f1, f2, rfl⟩ k1 k2
    refine yes (ifT rfl ?_)
    refine ⟨_, rfl, _, rfl, _, _, rfl, rfl, c, _, rfl, szc.mono (by decide), sz_of (by omega) (by omega), fun z z0 z1 => ?_⟩
    refine ⟨_, rfl, _, _, rfl, rfl, (by show (2 : Int) + (c.fdiv 9).fmod 11 ≠ 0; omega), ?_⟩
    exact k1 _ _ upd_same ⟨rs ++ [_], by rw [List.map_append, f1]; rfl, by rw [List.length_append, f2]; rfl, by rw [upd_upd]⟩
  rintro D ys H1 hD ⟨rs, rfl, f2, rfl⟩
  have s1 := same_new hD (.lst (rs.map V.int))
  have eD : (upd H D (.lst (rs.map V.int))) D = some (.lst (rs.map V.int)) := upd_same
  generalize upd H D (.lst (rs.map V.int)) = H1 at s1 eD ⊢
  refine ⟨(by show 0 ≤ sizeLine; decide), fun tl htl => ?_⟩
  have s2 := same_new htl (.lst [])
  have e2 : (upd H1 tl (.lst [])) tl = some (.lst (([] : List Int).map V.int)) := upd_same
  generalize upd H1 tl (.lst []) = H2 at s2 e2 ⊢
  refine ⟨_, rfl, 1, _, rfl, ⟨by decide, by decide, by omega, by omega⟩, for_range (fun i σ' H' => ∃ (v5 : Option V) (xs : List Int), σ' = [some (.int c), some (.int h), some (.int (2 + (c.fdiv 9).fmod 11)), some (.ref D), some (.ref tl), v5] ∧ H' tl = some (.lst (xs.map V.int)) ∧ Same H1 H' ∧ xs.length = i) ⟨none, [], rfl, e2, s2, rfl⟩ ?_ ?_⟩
  · rintro i σ' H' hi ⟨v5, xs, rfl, e3, s3, l3⟩
    refine ⟨_, rfl, .inl ⟨rfl, _, SqL.of e3⟩, _, rfl, h, rfl, by omega, by omega, ?_⟩
    refine comp_range (small63 (by omega)) (fun D2 j ys H3 => ∃ zs : List Int, ys = zs.map V.int ∧ zs.length ≤ j ∧ H3 = upd H' D2 (.lst ys)) (fun D2 hD2 => ⟨[], rfl, Nat.le_refl _, rfl⟩) (fun D2 j ys H3 ⟨zs, f1, f2, f3⟩ => ⟨by rw [f3]; exact upd_same, by rw [f1, List.length_map]; exact f2⟩) ?_ ?_
    · rintro D2 j ys H3 K1 K2 hD2 hj ⟨zs, f1, f3, rfl⟩ k1 k2
      obtain ⟨z, hz⟩ : ∃ z, rs[j]? = some z := ⟨_, List.getElem?_eq_getElem (by omega)⟩
      refine ⟨_, rfl, _, rfl, D, _, _, _, rfl, rfl, SqL.of (same_new hD2 _ _ _ (s3 _ _ eD)), (by rw [Int.zero_add]; exact atN hz), _, rfl, rfl, _, rfl, ?_⟩
      refine ite2 (fun _ => ?_) (fun _ => ?_)
      · refine ⟨_, rfl, _, _, rfl, rfl, (by rw [Int.zero_add]; exact pow_small (by omega)), ?_⟩
        exact k1 _ _ upd_same ⟨zs ++ [_], by rw [List.map_append, f1]; rfl, by rw [List.length_append]; exact Nat.succ_le_succ f3, by rw [upd_upd]⟩
      · exact k2 _ ⟨zs, f1, Nat.le_succ_of_le f3, rfl⟩
    rintro D2 ys H3 hD2 ⟨zs, rfl, f3, rfl⟩
    refine ⟨D2, zs, rfl, SqL.of upd_same, tl, _, _, rfl, rfl, same_new hD2 _ _ _ e3, (by rw [List.length_map]; exact small1000 (by omega)), ?_⟩
    refine ⟨_, xs ++ [_], rfl, by rw [upd_same, List.map_append]; rfl, same_upd (s3.trans (same_new hD2 _)) htl, by rw [List.length_append, l3]; rfl⟩
  · rintro σ' H' ⟨v5, xs, rfl, e3, s3, l3⟩
    refine ⟨_, rfl, tl, rfl, ⟨_, SqL.of e3⟩, ?_⟩
    refine comp_list (xs := xs.map V.int) (by rw [List.length_map]; exact small63 (by omega)) (fun D2 j ys H3 => ∃ zs : List Int, ys = zs.map V.int ∧ zs.length ≤ j ∧ H3 = upd H' D2 (.lst ys)) (fun D2 hD2 => ⟨[], rfl, Nat.le_refl _, rfl⟩) (fun D2 j ys H3 ⟨zs, f1, f2, f3⟩ => ⟨by rw [f3]; exact upd_same, by rw [f1, List.length_map]; exact f2⟩) (fun D2 j ys H3 hD2 ⟨zs, _, _, f3⟩ => by rw [f3]; exact SqL.of (same_new hD2 _ _ _ e3)) ?_ ?_
    · rintro D2 j x ys H3 K1 K2 hD2 hx ⟨zs, f1, f3, rfl⟩ k1 k2
      obtain ⟨z, hz, rfl⟩ := int_at hx
      refine ⟨_, rfl, _, _, rfl, rfl, _, rfl, ?_⟩
      refine ite2 (fun _ => ?_) (fun _ => ?_)
      · refine ⟨_, rfl, ?_⟩
        exact k1 _ _ upd_same ⟨zs ++ [z], by rw [List.map_append, f1]; rfl, by rw [List.length_append]; exact Nat.succ_le_succ f3, by rw [upd_upd]⟩
      · exact k2 _ ⟨zs, f1, Nat.le_succ_of_le f3, rfl⟩
    rintro D2 ys H3 hD2 ⟨zs, rfl, f3, rfl⟩
    exact ⟨D2, _, rfl, .inl ⟨SqL.of upd_same, fun t ht => q t zs _ (((s1.trans s3).trans (same_new hD2 _)).trans (same_new ht _)) upd_same⟩⟩
theorem ok_law_lines (T : Tx K mg ad) : FnOk P w K mg base CX0 2 ad.f_law_lines ad.d_law_lines ["_law_script", "_law_start", "_law_most", "_law_pool"] (spLines26 K) := by
  refine T.F_law_lines.ok sc_law_lines (fun vs H Q E h => ?_) (fun cdv A outer s H vs Q E hr h => ?_)
  · obtain ⟨p, ns, k, m, b, ps, rfl, _⟩ := h
    rfl
  obtain ⟨p, ns, k, m, b, ps, rfl, hS, h63, rfl, m0, m1, hb, gp, pl0, pl1, q⟩ := h
  refine ⟨_, (@pss_cons _ _ _ _ _ (ps_setC (j := 4) (fsc := defScope s_law_lines) (N := ["_law_script", "_law_start", "_law_most", "_law_pool", "_law_cells", "_law_lines_here", "_law_k", "_law_number", "_law_many"]) (Nc := ["_law_script", "_law_start", "_law_most", "_law_pool", "_law_cells", "_law_lines_here", ".s6", "_law_number", "_law_many", "_law_k"]) rfl rfl ⟨rfl, by decide +kernel, by decide +kernel, rfl, by decide +kernel, rfl, by decide +kernel, rfl, by decide +kernel⟩ rfl sc_law_lines.nd rfl rfl (pi_range2 rfl T.z_range (@pa_cons _ _ _ _ _ (pv 1) (@pa_cons _ _ _ _ _ (@pe_callB _ _ _ _ _ _ _ _ _ (call_max2 rfl) (by rfl) T.z_max PyProof.Rows.boot_max (@pa_cons _ _ _ _ _ (@pe_op _ _ _ _ _ _ _ _ op_add (pv 1) pe_int) (@pa_cons _ _ _ _ _ (@pe_callB _ _ _ _ _ _ _ _ _ (call_min2 rfl) (by rfl) T.z_min PyProof.Rows.boot_min (@pa_cons _ _ _ _ _ (@pe_callB _ _ _ _ _ _ _ _ _ call_len_seq (by rfl) T.z_len PySem.boot_len (@pa_cons _ _ _ _ _ (pv 0) pa_nil (by rfl)) (by decide) (by decide) (by rfl) (by rfl)) (@pa_cons _ _ _ _ _ (@pe_op _ _ _ _ _ _ _ _ op_add (pv 1) (pv 2)) pa_nil (by rfl)) (by rfl)) (by decide) (by decide) (by rfl) (by rfl)) pa_nil (by rfl)) (by rfl)) (by decide) (by decide) (by rfl) (by rfl)) pa_nil (by rfl)) (by rfl))) (fun _ _ _ _ => pif_nil) (fun _ _ _ _ => (@pe_call _ _ _ _ _ _ _ _ _ _ _ _ _ _ _ _ (ok_law_cell T) (hr.mono (by decide)) rfl T.m_law_cell T.F_law_cell.kp T.b_law_cell .nil pass0 (@pa_cons _ _ _ _ _ (pv 0) (@pa_cons _ _ _ _ _ (pv 9) pa_nil (by rfl)) (by rfl)) (by decide) (by rfl) (by rfl))) rfl) (@pss_cons _ _ _ _ _ (@ps_set _ _ (5) _ _ _ _ sc_law_lines.nd rfl (Or.inl rfl) (@pe_lst _ _ _ _ pa_nil) (by rfl) (by first | exact .inl rfl | exact .inr rfl | assumption)) (@pss_cons _ _ _ _ _ (ps_for PassesOwn.never rfl (pi_range1 rfl T.z_range (@pa_cons _ _ _ _ _ (@pe_callB _ _ _ _ _ _ _ _ _ call_len_seq (by rfl) T.z_len PySem.boot_len (@pa_cons _ _ _ _ _ (pv 4) pa_nil (by rfl)) (by decide) (by decide) (by rfl) (by rfl)) pa_nil (by rfl))) (pg_name (i := 6) sc_law_lines.nd rfl (Or.inl rfl)) (@pss_cons _ _ _ _ _ (@ps_set _ _ (7) _ _ _ _ sc_law_lines.nd rfl (Or.inl rfl) (@pe_call _ _ _ _ _ _ _ _ _ _ _ _ _ _ _ _ (ok_law_mixed T) (hr.mono (by decide)) rfl T.m_law_mixed T.F_law_mixed.kp T.b_law_mixed .nil pass0 (@pa_cons _ _ _ _ _ (@pe_ix _ _ _ _ _ _ _ ix_list (pv 4) (pv 6) (fun _ _ => rfl)) (@pa_cons _ _ _ _ _ (pv 6) pa_nil (by rfl)) (by rfl)) (by decide) (by rfl) (by rfl)) (by rfl) (by first | exact .inl rfl | exact .inr rfl | assumption)) (@pss_cons _ _ _ _ _ (@ps_set _ _ (8) _ _ _ _ sc_law_lines.nd rfl (Or.inl rfl) (@pe_ix _ _ _ _ _ _ _ ix_list (@pe_lst _ _ _ _ (@pa_cons _ _ _ _ _ (@pe_op _ _ _ _ _ _ _ _ op_add pe_int (@pe_op _ _ _ _ _ _ _ _ op_modN (@pe_op _ _ _ _ _ _ _ _ op_fdivB (pv 7) pe_int) pe_int)) (@pa_cons _ _ _ _ _ (@pe_op _ _ _ _ _ _ _ _ op_add pe_int (@pe_op _ _ _ _ _ _ _ _ op_modN (@pe_op _ _ _ _ _ _ _ _ op_fdivB (pv 7) pe_int) (@pe_op _ _ _ _ _ _ _ _ op_pow pe_int pe_int))) (@pa_cons _ _ _ _ _ (@pe_op _ _ _ _ _ _ _ _ op_pow pe_int pe_int) pa_nil (by rfl)) (by rfl)) (by rfl))) (@pe_op _ _ _ _ _ _ _ _ op_modN (@pe_op _ _ _ _ _ _ _ _ op_fdivB (pv 7) pe_int) pe_int) (fun _ _ => rfl)) (by rfl) (by first | exact .inl rfl | exact .inr rfl | assumption)) (@pss_one _ _ _ (@ps_expr _ _ _ _ (pe_bm PySem.F.plainAttrs_list PySem.F.slot_list_append PySem.F.type_list_append mt_append (pv 5) (@pa_cons _ _ _ _ _ (@pe_tup _ _ _ _ _ (@pa_cons _ _ _ _ _ (@pe_ix _ _ _ _ _ _ _ ix_list (pv 3) (@pe_op _ _ _ _ _ _ _ _ op_modN (@pe_op _ _ _ _ _ _ _ _ op_fdivB (pv 7) (@pe_op _ _ _ _ _ _ _ _ op_pow pe_int pe_int)) (@pe_callB _ _ _ _ _ _ _ _ _ call_len_seq (by rfl) T.z_len PySem.boot_len (@pa_cons _ _ _ _ _ (pv 3) pa_nil (by rfl)) (by decide) (by decide) (by rfl) (by rfl))) (fun _ _ => rfl)) (@pa_cons _ _ _ _ _ (pv 8) pa_nil (by rfl)) (by rfl))) pa_nil (by rfl))) (by rfl)))))) (@pss_one _ _ _ (@ps_ret _ _ _ _ (pv 5)))))), ?_⟩
  refine ⟨_, rfl, _, rfl, _, _, rfl, rfl, _, rfl, p, _, rfl, .inl hS, _, rfl, _, rfl, _, _, rfl, rfl, _, _, rfl, _, _, rfl, ?_⟩
  have hl' : (ns.map V.int).length = ns.length := List.length_map _
  have hM : 4 ≤ (if (if 1 + m < ((ns.map V.int).length : Int) then 1 + m else ((ns.map V.int).length : Int)) > 1 + 3 then (if 1 + m < ((ns.map V.int).length : Int) then 1 + m else ((ns.map V.int).length : Int)) else 1 + 3) ∧ (if (if 1 + m < ((ns.map V.int).length : Int) then 1 + m else ((ns.map V.int).length : Int)) > 1 + 3 then (if 1 + m < ((ns.map V.int).length : Int) then 1 + m else ((ns.map V.int).length : Int)) else 1 + 3) ≤ 1 + m := by
    split <;> split at * <;> omega
  refine ⟨1, _, rfl, ⟨by decide, by decide, by omega, by omega⟩, ?_⟩
  refine comp_range (small63 (by omega)) (fun D i ys H' => ∃ cs : List Int, ys = cs.map V.int ∧ cs.length = i ∧ (∀ c ∈ cs, 0 ≤ c ∧ c < 10 ^ 40) ∧ H' = upd H D (.lst ys)) (fun D hD => ⟨[], rfl, rfl, (fun _ m => nomatch m), rfl⟩) (fun D i ys H' ⟨cs, f1, f2, _, f3⟩ => ⟨by rw [f3]; exact upd_same, by rw [f1, List.length_map]; omega⟩) ?_ ?_
  · rintro D i ys H' K1 K2 hD hi ⟨cs, f1, f2, f3, rfl⟩ k1 k2
    refine yes (ifT rfl ?_)
    refine ⟨_, rfl, _, rfl, p, ns, 1 + (i : Int), rfl, (same_new hD _).seq hS, h63, by omega, by omega, fun c c0 c1 => ?_⟩
    refine k1 _ _ upd_same ⟨cs ++ [c], by rw [List.map_append, f1]; rfl, by rw [List.length_append, f2]; rfl, fun x xm => ?_, by rw [upd_upd]⟩
    rcases List.mem_append.mp xm with xm | xm
    · exact f3 x xm
    · rw [List.mem_singleton.mp xm]; exact ⟨c0, c1⟩
  rintro D ys H1 hD ⟨cs, rfl, f2, f3, rfl⟩
  have s1 := same_new hD (.lst (cs.map V.int))
  have eD : (upd H D (.lst (cs.map V.int))) D = some (.lst (cs.map V.int)) := upd_same
  generalize upd H D (.lst (cs.map V.int)) = H1 at s1 eD ⊢
  refine ⟨(by show 0 ≤ sizeLine; decide), fun l hl => ?_⟩
  have s2 := same_new hl (.lst [])
  have e2 : (upd H1 l (.lst [])) l = some (.lst (vls [])) := upd_same
  generalize upd H1 l (.lst []) = H2 at s2 e2 ⊢
  have cl : (cs.map V.int).length = cs.length := List.length_map _
  refine ⟨_, rfl, D, _, rfl, .inl (SqL.of (s2 _ _ eD)), _, rfl, by omega, by omega, for_range (fun i σ' H' => ∃ (v6 v7 v8 : Option V) (ls : Ls), σ' = [some (.ref p), some (.int 1), some (.int m), some (.ref b), some (.ref D), some (.ref l), v6, v7, v8] ∧ Same H1 H' ∧ H' l = some (.lst (vls ls)) ∧ GoodL H' ls ∧ (∀ q ∈ ls, (q.2.1, q.2.2.1) ∈ ps) ∧ (∀ q ∈ dsOf ls, 1 ≤ q.2 ∧ q.2 ≤ 1000000000) ∧ ls.length = i) ⟨none, none, none, [], rfl, s2, e2, (fun _ m => nomatch m), (fun _ m => nomatch m), (fun _ m => nomatch m), rfl⟩ ?_ ?_⟩
  · rintro i σ' H' hi ⟨v6, v7, v8, ls, rfl, s3, e3, g3, in3, n3, l3⟩
    obtain ⟨c, hc⟩ : ∃ c, cs[i]? = some c := ⟨_, List.getElem?_eq_getElem (by omega)⟩
    obtain ⟨c0, c1⟩ := f3 c (List.mem_of_getElem? hc)
    refine ⟨_, rfl, _, rfl, D, _, _, _, rfl, rfl, SqL.of (s3 _ _ eD), (by rw [Int.zero_add]; exact atN hc), _, rfl, c, _, rfl, sz40 c0 c1, sz_of (by omega) (by omega), fun z z0 z1 => ?_⟩
    have szz := sz18 z0 z1
    and_intros
    refine ⟨(by show 3 ≤ sizeLine; decide), fun a ha => ?_⟩
    have a1 := fmod_in (z.fdiv 24) (show (0 : Int) < 3 by decide)
    have a2 := fmod_in (z.fdiv 24) (show (0 : Int) < 10 ^ (9 : Int).toNat by decide)
    have a3 := fmod_in (z.fdiv 8) (show (0 : Int) < 3 by decide)
    have e9 : (10 : Int) ^ (9 : Int).toNat = 1000000000 := by decide
    obtain ⟨v, hv, v0, v1⟩ := pick3 (x0 := 1 + (z.fdiv 24).fmod 3) (x1 := 1 + (z.fdiv 24).fmod (10 ^ (9 : Int).toNat)) (x2 := 10 ^ (9 : Int).toNat) (fun v => 1 ≤ v ∧ v ≤ 1000000000) ((z.fdiv 8).fmod 3) a3.1 a3.2 ⟨by omega, by omega⟩ (by rw [e9] at a2 ⊢; omega) (by rw [e9]; decide)
    and_intros
    refine ⟨a, _, _, _, rfl, rfl, SqL.of upd_same, hv, ?_⟩
    have s4 := same_new ha (.lst [V.int (1 + (z.fdiv 24).fmod 3), V.int (1 + (z.fdiv 24).fmod (10 ^ (9 : Int).toNat)), V.int (10 ^ (9 : Int).toNat)])
    generalize upd H' a (.lst [V.int (1 + (z.fdiv 24).fmod 3), V.int (1 + (z.fdiv 24).fmod (10 ^ (9 : Int).toNat)), V.int (10 ^ (9 : Int).toNat)]) = H4 at s4 ⊢
    have e4 := s4 _ _ e3
    have b4 := ((s1.trans s3).trans s4) _ _ hb
    refine ⟨_, rfl, .inl ⟨rfl, _, SqL.of e4⟩, _, rfl, _, rfl, _, _, rfl, rfl, (by show CPow _ _; exact ⟨by decide, by decide, by decide⟩), _, _, rfl, rfl, ⟨(by show (_ : Int) ≠ 0; decide), szd 9000⟩, _, rfl, b, _, rfl, .inl (SqL.of b4), _, _, rfl, rfl, (by rw [vps_len]; omega), ?_⟩
    have mp := fmod_in (z.fdiv (10 ^ (12 : Int).toNat)) (show (0 : Int) < ((vps ps).length : Nat) by rw [vps_len]; omega)
    obtain ⟨j, ej⟩ : ∃ j : Nat, (z.fdiv (10 ^ (12 : Int).toNat)).fmod ((vps ps).length : Nat) = (j : Int) := ⟨((z.fdiv (10 ^ (12 : Int).toNat)).fmod ((vps ps).length : Nat)).toNat, by omega⟩
    rw [ej, vps_len] at mp
    obtain ⟨r, hr'⟩ : ∃ r, ps[j]? = some r := ⟨_, List.getElem?_eq_getElem (by omega)⟩
    have rm := List.mem_of_getElem? hr'
    have atj : atI (vps ps) (j : Int) = some (.ref r.1) := atI_nat (by unfold vps; rw [List.getElem?_map, hr']; rfl)
    refine ⟨b, _, _, _, rfl, rfl, SqL.of b4, (by rw [ej]; exact atj), _, rfl, (by show 2 ≤ sizeLine; decide), fun t ht => ?_⟩
    have s5 := same_new ht (.tup [V.ref r.1, V.int v])
    have e5 := s5 _ _ e4
    refine ⟨l, _, _, rfl, rfl, e5, (by rw [vls_len]; exact small1000 (by omega)), ?_⟩
    have sA := (s3.trans s4).trans s5
    have gr := (((s1.trans s3).trans s4).trans s5) _ _ (gp r rm)
    refine ⟨_, _, _, ls ++ [(t, r.1, r.2, v)], rfl, same_upd sA hl, by rw [upd_same, vls_append]; rfl, GoodL.upd e5 ((g3.same (s4.trans s5)).append fun q m => ?_), fun q m => ?_, fun q m => ?_, by rw [List.length_append, l3]; rfl⟩
    · rw [List.mem_singleton.mp m]
      exact ⟨upd_same, gr⟩
    · rcases List.mem_append.mp m with m | m
      · exact in3 q m
      · rw [List.mem_singleton.mp m]; exact rm
    · rw [dsOf_append] at m
      rcases List.mem_append.mp m with m | m
      · exact n3 q m
      · rw [List.mem_singleton.mp (show q ∈ [(r.2, v)] from m)]; exact ⟨v0, v1⟩
  · rintro σ' H' ⟨v6, v7, v8, ls, rfl, s3, e3, g3, in3, n3, l3⟩
    exact ⟨_, rfl, q l ls H' (s1.trans s3) e3 g3 in3 n3 (by omega) (by omega)⟩
theorem ok_law_together (T : Tx K mg ad) : FnOk P w K mg base CX0 2 ad.f_law_together ad.d_law_together ["_law_lines_here"] spSheetOf := by
  refine T.F_law_together.ok sc_law_together (fun vs H Q E h => ?_) (fun cdv A outer s H vs Q E hr h => ?_)
  · obtain ⟨l, ls, p, rfl, _⟩ := h
    rfl
  obtain ⟨l, ls, p, rfl, hl, g, hp, p64, hn, q⟩ := h
  refine ⟨_, (@pss_cons _ _ _ _ _ (@ps_set _ _ (1) _ _ _ _ sc_law_together.nd rfl (Or.inl rfl) pe_dnewT (by rfl) (by first | exact .inl rfl | exact .inr rfl | assumption)) (@pss_cons _ _ _ _ _ (ps_for PassesOwn.never rfl (pi_list (pv 0)) (pg_tup rfl (pgs_cons (pg_name (i := 2) sc_law_together.nd rfl (Or.inl rfl)) (pgs_cons (pg_name (i := 3) sc_law_together.nd rfl (Or.inl rfl)) pgs_nil))) (@pss_one _ _ _ (ps_dput (u1 hr.units) (pv 1) (pv 2) (@pe_op _ _ _ _ _ _ _ _ op_add (pe_dget2 (u1 hr.units) (pv 1) (pv 2) pe_int ⟨rfl, rfl, rfl, rfl⟩) (pv 3)) rfl))) (@pss_one _ _ _ (@ps_ret _ _ _ _ (@pe_call _ _ _ _ _ _ _ _ _ _ _ _ _ _ _ _ (ok_law_sheet T) (hr.mono (by decide)) rfl T.m_law_sheet T.F_law_sheet.kp T.b_law_sheet .nil pass0 (@pa_cons _ _ _ _ _ (pv 1) pa_nil (by rfl)) (by decide) (by rfl) (by rfl)))))), ?_⟩
  intro d hd
  have s0 := same_new hd (.dT [])
  have e0 : (upd H d (.dT [])) d = some (.dT []) := upd_same
  generalize upd H d (.dT []) = H0 at s0 e0 ⊢
  refine ⟨_, rfl, l, rfl, ⟨_, SqL.of (s0 _ _ hl)⟩, for_list (xs := vls ls) (fun i σ' H' => ∃ (v2 v3 : Option V) (kvs : List (List Key × V)), σ' = [some (.ref l), some (.ref d), v2, v3] ∧ Same H H' ∧ H' d = some (.dT kvs) ∧ DictOf (dsOf (ls.take i)) kvs) ⟨none, none, [], rfl, s0, e0, DictOf.nil⟩ (fun i σ' H' _ ⟨_, _, _, _, e, _⟩ => SqL.of (e _ _ hl)) ?_ ?_⟩
  · rintro i x σ' H' hx ⟨v2, v3, kvs, rfl, s1, e1, dk⟩
    obtain ⟨f, hf, rfl, fm, et⟩ := vls_get hx
    obtain ⟨g1, g2⟩ := g f fm
    have sub : ∀ q ∈ dsOf (ls.take i), q.1 ∈ p := fun q m => by
      obtain ⟨r, rm, rfl⟩ := List.mem_map.mp m
      exact hp _ (List.mem_map.mpr ⟨r, List.mem_of_mem_take rm, rfl⟩)
    have lim := dk.len sub
    have kt : H' f.2.1 = some (.tup ((f.2.2.1.map Sum.inl : List Key).map kV)) := by rw [kv_map]; exact s1 _ _ g2
    refine ⟨f.1, _, rfl, SqT.of (s1 _ _ g1), rfl, _, _, rfl, _, _, rfl, rfl, ?_⟩
    refine ⟨_, rfl, d, rfl, .inr ⟨_, .inl e1⟩, _, rfl, _, DGet.t e1 kt, ?_⟩
    rw [old_val dk]
    refine ⟨_, rfl, _, _, rfl, rfl, _, rfl, _, rfl, d, _, rfl, DPut.t e1 kt (small1000 (by omega)), ?_⟩
    refine ⟨_, _, _, rfl, same_upd s1 hd, upd_same, ?_⟩
    rw [et, dsOf_append]
    exact dk.put f.2.2.1 f.2.2.2
  · rintro σ' H' ⟨v2, v3, kvs, rfl, s1, e1, dk⟩
    rw [vls_len, List.take_of_length_le (Nat.le_refl _)] at dk
    refine ⟨_, rfl, d, kvs, rfl, e1, dk.vd, Nat.lt_of_le_of_lt (dk.len hp) p64, fun l' ls' H2 hl' s2 e2 g2 srt mem l64 => ?_⟩
    exact q l' ls' H2 (none_of s1 hl') (s1.trans s2) e2 g2 (dk.sheet (fun q m => (hn q m).1) srt mem) l64
theorem ok_law_same (T : Tx K mg ad) : FnOk P w K mg base CX0 2 ad.f_law_same ad.d_law_same ["_law_found", "_law_due_here"] spSame26 := by
  refine T.F_law_same.ok sc_law_same (fun vs H Q E h => ?_) (fun cdv A outer s H vs Q E hr h => ?_)
  · obtain ⟨a, b, ls, ms, rfl, _⟩ := h
    rfl
  obtain ⟨a, b, ls, ms, rfl, ha, hb, g1, g2, e, q⟩ := h
  refine ⟨_, (@pss_cons _ _ _ _ _ (@ps_if _ _ _ _ _ _ _ _ (PW.pt (@pw_or _ _ _ _ _ _ _ (@pt_not _ _ _ _ (@pt_val _ _ _ (@pe_callB _ _ _ _ _ _ _ _ _ call_isi (by rfl) T.z_isinstance PyProof.Rows.boot_isinstance (@pa_cons _ _ _ _ _ (pv 0) (@pa_cons _ _ _ _ _ (pe_bltn (v := .ty "list") rfl T.z_list PyProof.Rows.boot_list rfl) pa_nil (by rfl)) (by rfl)) (by decide) (by decide) (by rfl) (by rfl)) (by intro _; rfl))) (@pw_or1 _ _ _ _ (@pt_cmpR _ _ _ _ _ _ _ _ (op_neD (K := K) hr.units) (pv 0) (pv 1) (nomark _))))) (@pss_one _ _ _ (@ps_ret _ _ _ _ pe_bl)) pss_nil) (@pss_cons _ _ _ _ _ (ps_for PassesOwn.never rfl (pi_list (pv 0)) (pg_name (i := 2) sc_law_same.nd rfl (Or.inl rfl)) (@pss_cons _ _ _ _ _ (@ps_if _ _ _ _ _ _ _ _ (PW.pt (@pw_or _ _ _ _ _ _ _ (@pt_not _ _ _ _ (@pt_val _ _ _ (@pe_callB _ _ _ _ _ _ _ _ _ call_isi (by rfl) T.z_isinstance PyProof.Rows.boot_isinstance (@pa_cons _ _ _ _ _ (pv 2) (@pa_cons _ _ _ _ _ (pe_bltn (v := .ty "tuple") rfl T.z_tuple PyProof.Rows.boot_tuple rfl) pa_nil (by rfl)) (by rfl)) (by decide) (by decide) (by rfl) (by rfl)) (by intro _; rfl))) (@pw_or _ _ _ _ _ _ _ (@pt_not _ _ _ _ (@pt_val _ _ _ (@pe_callB _ _ _ _ _ _ _ _ _ call_isi (by rfl) T.z_isinstance PyProof.Rows.boot_isinstance (@pa_cons _ _ _ _ _ (@pe_ix _ _ _ _ _ _ _ ix_tup (pv 2) pe_int (fun _ _ => rfl)) (@pa_cons _ _ _ _ _ (pe_bltn (v := .ty "tuple") rfl T.z_tuple PyProof.Rows.boot_tuple rfl) pa_nil (by rfl)) (by rfl)) (by decide) (by decide) (by rfl) (by rfl)) (by intro _; rfl))) (@pw_or1 _ _ _ _ (@pt_not _ _ _ _ (@pt_val _ _ _ (@pe_call _ _ _ _ _ _ _ _ _ _ _ _ _ _ _ _ (ok_law_whole T) (hr.mono (by decide)) rfl T.m_law_whole T.F_law_whole.kp T.b_law_whole .nil pass0 (@pa_cons _ _ _ _ _ (@pe_ix _ _ _ _ _ _ _ ix_tup (pv 2) pe_int (fun _ _ => rfl)) pa_nil (by rfl)) (by decide) (by rfl) (by rfl)) (by intro _; rfl))))))) (@pss_one _ _ _ (@ps_ret _ _ _ _ pe_bl)) pss_nil) (@pss_one _ _ _ (ps_for PassesOwn.never rfl (pi_tup (@pe_ix _ _ _ _ _ _ _ ix_tup (pv 2) pe_int (fun _ _ => rfl))) (pg_name (i := 3) sc_law_same.nd rfl (Or.inl rfl)) (@pss_one _ _ _ (@ps_if _ _ _ _ _ _ _ _ (@pt_not _ _ _ _ (@pt_val _ _ _ (@pe_call _ _ _ _ _ _ _ _ _ _ _ _ _ _ _ _ (ok_law_whole T) (hr.mono (by decide)) rfl T.m_law_whole T.F_law_whole.kp T.b_law_whole .nil pass0 (@pa_cons _ _ _ _ _ (pv 3) pa_nil (by rfl)) (by decide) (by rfl) (by rfl)) (by intro _; rfl))) (@pss_one _ _ _ (@ps_ret _ _ _ _ pe_bl)) pss_nil)))))) (@pss_one _ _ _ (@ps_ret _ _ _ _ pe_bl)))), ?_⟩
  refine ⟨_, rfl, _, _, _, _, rfl, TyOf.lst ha, kit_list_list, ?_⟩
  and_intros
  refine ⟨.list ((dsOf ls).map ld), .list ((dsOf ms).map ld), .lst (SqL.of ha) (reps_ls g1), .lst (SqL.of hb) (reps_ls g2), shape_ls _, shape_ls _, ?_⟩
  rw [← e, show PyData.eqv (.list ((dsOf ls).map ld)) (.list ((dsOf ls).map ld)) = true from eqv_ls _]
  and_intros
  refine ⟨⟨_, SqL.of ha⟩, for_list (xs := vls ls) (fun i σ' H' => ∃ v2 v3, σ' = [some (.ref a), some (.ref b), v2, v3] ∧ H' = H) ⟨none, none, rfl, rfl⟩ (fun i σ' H' _ ⟨_, _, _, e⟩ => by rw [e]; exact SqL.of ha) ?_ ?_⟩
  · rintro i x σ' H' hx ⟨v2, v3, rfl, rfl⟩
    obtain ⟨f, hf, rfl, fm, et⟩ := vls_get hx
    obtain ⟨k1, k2⟩ := g1 f fm
    refine ⟨_, rfl, _, _, _, _, rfl, TyOf.tup k1, kit_tuple_tuple, ?_⟩
    and_intros
    refine ⟨_, _, _, _, rfl, TyOf.tup k2, kit_tuple_tuple, ?_⟩
    and_intros
    refine ⟨⟨_, SqT.of k2⟩, for_tup (xs := f.2.2.1.map V.int) (fun j σ' H2 => ∃ v3, σ' = [some (.ref a), some (.ref b), some (.ref f.1), v3] ∧ H2 = H') ⟨_, rfl, rfl⟩ (fun j σ' H2 _ ⟨_, _, e⟩ => by rw [e]; exact SqT.of k2) ?_ ?_⟩
    · rintro j y σ' H2 hy ⟨w3, rfl, rfl⟩
      obtain ⟨z, hz, rfl⟩ := int_at hy
      refine ⟨_, rfl, z, rfl, ?_⟩
      and_intros
      rfl
    · rintro σ' H2 ⟨w3, rfl, rfl⟩
      exact ⟨_, _, rfl, rfl⟩
  · rintro σ' H' ⟨v2, v3, rfl, rfl⟩
    exact q
theorem ok_law_bad_rows (T : Tx K mg ad) : FnOk P w K mg base CX0 2 ad.f_law_bad_rows ad.d_law_bad_rows ["_law_sheet_here", "_law_rows", "_law_cell_here"] (spBadRows K) := by
  refine T.F_law_bad_rows.ok sc_law_bad_rows (fun vs H Q E h => ?_) (fun cdv A outer s H vs Q E hr h => ?_)
  · obtain ⟨s0, c, x, ms, rs, p, rfl, _⟩ := h
    rfl
  obtain ⟨s0, c, x, ms, rs, p, rfl, x0, x1, hs, gm, m1, m8, hc, gr, r8, ok, kl, kr, p30, nn, q⟩ := h
  refine ⟨_, (@pss_cons _ _ _ _ _ (@ps_set _ _ (3) _ _ _ _ sc_law_bad_rows.nd rfl (Or.inr rfl) (@pe_ix _ _ _ _ _ _ _ ix_tup (@pe_ix _ _ _ _ _ _ _ ix_list (pv 0) (@pe_op _ _ _ _ _ _ _ _ op_modN (pv 2) (@pe_callB _ _ _ _ _ _ _ _ _ call_len_seq (by rfl) T.z_len PySem.boot_len (@pa_cons _ _ _ _ _ (pv 0) pa_nil (by rfl)) (by decide) (by decide) (by rfl) (by rfl))) (fun _ _ => rfl)) pe_int (fun _ _ => rfl)) (by rfl) (by first | exact .inl rfl | exact .inr rfl | assumption)) (@pss_cons _ _ _ _ _ (@ps_set _ _ (4) _ _ _ _ sc_law_bad_rows.nd rfl (Or.inr rfl) (@pe_ix _ _ _ _ _ _ _ ix_list (pe_comp (fsc := defScope s_law_bad_rows) (N := ["_law_sheet_here", "_law_rows", "_law_cell_here", "_law_old", "_law_new", "_law_there", "_law_absent", "_law_some", "_law_many", "_law_at"]) (Nc := ["_law_sheet_here", "_law_rows", "_law_cell_here", "_law_old", "_law_new", "_law_there", "_law_absent", "_law_some", "_law_many", "_law_at", "_law_slip_here"]) rfl rfl ⟨rfl, by decide +kernel, by decide +kernel, rfl, by decide +kernel, rfl, by decide +kernel, rfl, by decide +kernel⟩ rfl (pi_list (@pe_lst _ _ _ _ (@pa_cons _ _ _ _ _ (@pe_tup _ _ _ _ _ pa_nil) (@pa_cons _ _ _ _ _ (@pe_tup _ _ _ _ _ (@pa_cons _ _ _ _ _ pe_int pa_nil (by rfl))) pa_nil (by rfl)) (by rfl)))) (fun _ _ _ _ => (pif_one (@pt_cmpR _ _ _ _ _ _ _ _ (op_neD (K := K) hr.units) (pv 10) (pv 3) (nomark _)))) (fun _ _ _ _ => (pv 10))) pe_int (fun _ _ => rfl)) (by rfl) (by first | exact .inl rfl | exact .inr rfl | assumption)) (@pss_cons _ _ _ _ _ (@ps_set _ _ (5) _ _ _ _ sc_law_bad_rows.nd rfl (Or.inr rfl) (pe_comp (fsc := defScope s_law_bad_rows) (N := ["_law_sheet_here", "_law_rows", "_law_cell_here", "_law_old", "_law_new", "_law_there", "_law_absent", "_law_some", "_law_many", "_law_at"]) (Nc := ["_law_sheet_here", "_law_rows", "_law_cell_here", "_law_old", "_law_new", "_law_there", "_law_absent", "_law_some", "_law_many", "_law_at", "_law_line"]) rfl rfl ⟨rfl, by decide +kernel, by decide +kernel, rfl, by decide +kernel, rfl, by decide +kernel, rfl, by decide +kernel⟩ rfl (pi_list (pv 0)) (fun _ _ _ _ => pif_nil) (fun _ _ _ _ => (@pe_ix _ _ _ _ _ _ _ (ix_tupK K) (pv 10) pe_int (fun _ _ => rfl)))) (by rfl) (by first | exact .inl rfl | exact .inr rfl | assumption)) (@pss_cons _ _ _ _ _ (@ps_set _ _ (6) _ _ _ _ sc_law_bad_rows.nd rfl (Or.inl rfl) (@pe_ix _ _ _ _ _ _ _ ix_list (pe_comp (fsc := defScope s_law_bad_rows) (N := ["_law_sheet_here", "_law_rows", "_law_cell_here", "_law_old", "_law_new", "_law_there", "_law_absent", "_law_some", "_law_many", "_law_at"]) (Nc := ["_law_sheet_here", "_law_rows", "_law_cell_here", "_law_old", "_law_new", "_law_there", "_law_absent", "_law_some", "_law_many", "_law_at", "_law_k"]) rfl rfl ⟨rfl, by decide +kernel, by decide +kernel, rfl, by decide +kernel, rfl, by decide +kernel, rfl, by decide +kernel⟩ rfl (pi_range1 rfl T.z_range (@pa_cons _ _ _ _ _ pe_int pa_nil (by rfl))) (fun _ _ _ _ => (pif_one (@pt_cmpR _ _ _ _ _ _ _ _ (op_notInT (K := K) hr.units) (@pe_tup _ _ _ _ _ (@pa_cons _ _ _ _ _ (@pe_op _ _ _ _ _ _ _ _ op_shl pe_int (pv 10)) pa_nil (by rfl))) (pv 5) (by with_unfolding_all rfl)))) (fun _ _ _ _ => (@pe_tup _ _ _ _ _ (@pa_cons _ _ _ _ _ (@pe_op _ _ _ _ _ _ _ _ op_shl pe_int (pv 10)) pa_nil (by rfl))))) pe_int (fun _ _ => rfl)) (by rfl) (by first | exact .inl rfl | exact .inr rfl | assumption)) (@pss_cons _ _ _ _ _ (ps_setC (j := 7) (fsc := defScope s_law_bad_rows) (N := ["_law_sheet_here", "_law_rows", "_law_cell_here", "_law_old", "_law_new", "_law_there", "_law_absent", "_law_some", "_law_many", "_law_at"]) (Nc := ["_law_sheet_here", "_law_rows", "_law_cell_here", "_law_old", "_law_new", "_law_there", "_law_absent", "_law_some", "_law_many", "_law_at", "_law_number"]) rfl rfl ⟨rfl, by decide +kernel, by decide +kernel, rfl, by decide +kernel, rfl, by decide +kernel, rfl, by decide +kernel⟩ rfl sc_law_bad_rows.nd rfl rfl (pi_list (@pe_call _ _ _ _ _ _ _ _ _ _ _ _ _ _ _ _ (ok_law_bad_numbers T) (hr.mono (by decide)) rfl T.m_law_bad_numbers T.F_law_bad_numbers.kp T.b_law_bad_numbers .nil pass0 (@pa_cons _ _ _ _ _ (@pe_op _ _ _ _ _ _ _ _ op_fdivB (pv 2) pe_int) pa_nil (by rfl)) (by decide) (by rfl) (by rfl))) (fun _ _ _ _ => pif_nil) (fun _ _ _ _ => (@pe_lst _ _ _ _ (@pa_cons _ _ _ _ _ (@pe_tup _ _ _ _ _ (@pa_cons _ _ _ _ _ (pv 3) (@pa_cons _ _ _ _ _ (pv 4) (@pa_cons _ _ _ _ _ (pv 10) pa_nil (by rfl)) (by rfl)) (by rfl))) pa_nil (by rfl)))) rfl) (@pss_cons _ _ _ _ _ (@ps_set _ _ (8) _ _ _ _ sc_law_bad_rows.nd rfl (Or.inl rfl) (@pe_op _ _ _ _ _ _ _ _ op_sub (@pe_callB _ _ _ _ _ _ _ _ _ (call_sum rfl) (by rfl) T.z_sum PyProof.Rows.boot_sum (@pa_cons _ _ _ _ _ (pe_comp (fsc := defScope s_law_bad_rows) (N := ["_law_sheet_here", "_law_rows", "_law_cell_here", "_law_old", "_law_new", "_law_there", "_law_absent", "_law_some", "_law_many", "_law_at"]) (Nc := ["_law_sheet_here", "_law_rows", "_law_cell_here", "_law_old", "_law_new", "_law_there", "_law_absent", "_law_some", "_law_many", "_law_at", "_law_line"]) rfl rfl ⟨rfl, by decide +kernel, by decide +kernel, rfl, by decide +kernel, rfl, by decide +kernel, rfl, by decide +kernel⟩ rfl (pi_list (pv 0)) (fun _ _ _ _ => (pif_one (@pt_cmpR _ _ _ _ _ _ _ _ (op_eqD (K := K) hr.units) (@pe_ix _ _ _ _ _ _ _ (ix_tupK K) (pv 10) pe_int (fun _ _ => rfl)) (pv 3) (nomark _)))) (fun _ _ _ _ => (@pe_ix _ _ _ _ _ _ _ (ix_tupK K) (pv 10) pe_int (fun _ _ => rfl)))) pa_nil (by rfl)) (by decide) (by decide) (by rfl) (by rfl)) (@pe_callB _ _ _ _ _ _ _ _ _ (call_sum rfl) (by rfl) T.z_sum PyProof.Rows.boot_sum (@pa_cons _ _ _ _ _ (pe_comp (fsc := defScope s_law_bad_rows) (N := ["_law_sheet_here", "_law_rows", "_law_cell_here", "_law_old", "_law_new", "_law_there", "_law_absent", "_law_some", "_law_many", "_law_at"]) (Nc := ["_law_sheet_here", "_law_rows", "_law_cell_here", "_law_old", "_law_new", "_law_there", "_law_absent", "_law_some", "_law_many", "_law_at", "_law_row"]) rfl rfl ⟨rfl, by decide +kernel, by decide +kernel, rfl, by decide +kernel, rfl, by decide +kernel, rfl, by decide +kernel⟩ rfl (pi_list (pv 1)) (fun _ _ _ _ => (pif_one (@pt_cmpR _ _ _ _ _ _ _ _ (op_eqD (K := K) hr.units) (@pe_ix _ _ _ _ _ _ _ (ix_tupK K) (pv 10) pe_int (fun _ _ => rfl)) (pv 3) (nomark _)))) (fun _ _ _ _ => (@pe_ix _ _ _ _ _ _ _ (ix_tupK K) (pv 10) pe_int (fun _ _ => rfl)))) pa_nil (by rfl)) (by decide) (by decide) (by rfl) (by rfl))) (by rfl) (by first | exact .inl rfl | exact .inr rfl | assumption)) (@pss_cons _ _ _ _ _ (@ps_expr _ _ _ _ (pe_bm PySem.F.plainAttrs_list PySem.F.slot_list_append PySem.F.type_list_append mt_append (pv 7) (@pa_cons _ _ _ _ _ (@pe_lst _ _ _ _ (@pa_cons _ _ _ _ _ (@pe_tup _ _ _ _ _ (@pa_cons _ _ _ _ _ (pv 3) (@pa_cons _ _ _ _ _ (pv 3) (@pa_cons _ _ _ _ _ pe_int pa_nil (by rfl)) (by rfl)) (by rfl))) pa_nil (by rfl))) pa_nil (by rfl))) (by rfl)) (@pss_cons _ _ _ _ _ (@ps_expr _ _ _ _ (pe_bm PySem.F.plainAttrs_list PySem.F.slot_list_append PySem.F.type_list_append mt_append (pv 7) (@pa_cons _ _ _ _ _ (@pe_lst _ _ _ _ (@pa_cons _ _ _ _ _ (@pe_tup _ _ _ _ _ (@pa_cons _ _ _ _ _ (pv 6) (@pa_cons _ _ _ _ _ (@pe_ix _ _ _ _ _ _ _ ix_list (@pe_lst _ _ _ _ (@pa_cons _ _ _ _ _ (@pe_tup _ _ _ _ _ pa_nil) (@pa_cons _ _ _ _ _ (@pe_tup _ _ _ _ _ (@pa_cons _ _ _ _ _ pe_int pa_nil (by rfl))) pa_nil (by rfl)) (by rfl))) (@pe_callTy _ _ _ _ _ _ _ _ _ call_int1 (by rfl) T.z_int PyProof.Rows.boot_int (@pa_cons _ _ _ _ _ (@pe_cmpR _ _ _ _ _ _ _ _ (op_eqD (K := K) hr.units) (pv 6) (@pe_tup _ _ _ _ _ pa_nil) (nomark _)) pa_nil (by rfl)) (by decide) (by decide) (by rfl) (by rfl)) (fun _ _ => rfl)) (@pa_cons _ _ _ _ _ pe_int pa_nil (by rfl)) (by rfl)) (by rfl))) pa_nil (by rfl))) pa_nil (by rfl))) (by rfl)) (@pss_cons _ _ _ _ _ (@ps_expr _ _ _ _ (pe_bm PySem.F.plainAttrs_list PySem.F.slot_list_append PySem.F.type_list_append mt_append (pv 7) (@pa_cons _ _ _ _ _ (@pe_lst _ _ _ _ (@pa_cons _ _ _ _ _ (@pe_tup _ _ _ _ _ (@pa_cons _ _ _ _ _ (pv 3) (@pa_cons _ _ _ _ _ (pv 4) (@pa_cons _ _ _ _ _ (@pe_op _ _ _ _ _ _ _ _ op_add (pv 8) pe_int) pa_nil (by rfl)) (by rfl)) (by rfl))) pa_nil (by rfl))) pa_nil (by rfl))) (by rfl)) (@pss_cons _ _ _ _ _ (@ps_expr _ _ _ _ (pe_bm PySem.F.plainAttrs_list PySem.F.slot_list_append PySem.F.type_list_append mt_append (pv 7) (@pa_cons _ _ _ _ _ (@pe_lst _ _ _ _ (@pa_cons _ _ _ _ _ (@pe_tup _ _ _ _ _ (@pa_cons _ _ _ _ _ (pv 3) (@pa_cons _ _ _ _ _ (pv 4) (@pa_cons _ _ _ _ _ (@pe_op _ _ _ _ _ _ _ _ op_add (@pe_op _ _ _ _ _ _ _ _ op_add (pv 8) pe_int) (@pe_op _ _ _ _ _ _ _ _ op_modN (pv 2) (@pe_op _ _ _ _ _ _ _ _ op_pow pe_int pe_int))) pa_nil (by rfl)) (by rfl)) (by rfl))) pa_nil (by rfl))) pa_nil (by rfl))) (by rfl)) (@pss_cons _ _ _ _ _ (@ps_ifJ _ _ _ _ _ _ _ _ (@pt_cmpR _ _ _ _ _ _ _ _ op_gt (pv 8) pe_int (nomark _)) (@pss_one _ _ _ (@ps_expr _ _ _ _ (pe_bm PySem.F.plainAttrs_list PySem.F.slot_list_append PySem.F.type_list_append mt_append (pv 7) (@pa_cons _ _ _ _ _ (@pe_lst _ _ _ _ (@pa_cons _ _ _ _ _ (@pe_tup _ _ _ _ _ (@pa_cons _ _ _ _ _ (pv 3) (@pa_cons _ _ _ _ _ (pv 6) (@pa_cons _ _ _ _ _ pe_int pa_nil (by rfl)) (by rfl)) (by rfl))) (@pa_cons _ _ _ _ _ (@pe_tup _ _ _ _ _ (@pa_cons _ _ _ _ _ (pv 6) (@pa_cons _ _ _ _ _ (@pe_tup _ _ _ _ _ pa_nil) (@pa_cons _ _ _ _ _ pe_int pa_nil (by rfl)) (by rfl)) (by rfl))) pa_nil (by rfl)) (by rfl))) pa_nil (by rfl))) (by rfl))) pss_nil) (@pss_cons _ _ _ _ _ (@ps_set _ _ (9) _ _ _ _ sc_law_bad_rows.nd rfl (Or.inr rfl) (@pe_op _ _ _ _ _ _ _ _ op_modN (@pe_op _ _ _ _ _ _ _ _ op_fdivB (pv 2) pe_int) (@pe_op _ _ _ _ _ _ _ _ op_add (@pe_callB _ _ _ _ _ _ _ _ _ call_len_seq (by rfl) T.z_len PySem.boot_len (@pa_cons _ _ _ _ _ (pv 1) pa_nil (by rfl)) (by decide) (by decide) (by rfl) (by rfl)) pe_int)) (by rfl) (by first | exact .inl rfl | exact .inr rfl | assumption)) (@pss_one _ _ _ (@ps_ret _ _ _ _ (pe_comp (fsc := defScope s_law_bad_rows) (N := ["_law_sheet_here", "_law_rows", "_law_cell_here", "_law_old", "_law_new", "_law_there", "_law_absent", "_law_some", "_law_many", "_law_at"]) (Nc := ["_law_sheet_here", "_law_rows", "_law_cell_here", "_law_old", "_law_new", "_law_there", "_law_absent", "_law_some", "_law_many", "_law_at", "_law_one"]) rfl rfl ⟨rfl, by decide +kernel, by decide +kernel, rfl, by decide +kernel, rfl, by decide +kernel, rfl, by decide +kernel⟩ rfl (pi_list (pv 7)) (fun _ _ _ _ => pif_nil) (fun _ _ _ _ => (@pe_op _ _ _ _ _ _ _ _ op_cat (@pe_op _ _ _ _ _ _ _ _ op_cat (pe_slice (sl_listK K) (pv 1) po_none (po_some (pv 9))) (pv 10)) (pe_slice (sl_listK K) (pv 1) (po_some (pv 9)) po_none)))))))))))))))))), ?_⟩
  have szx := sz40 x0 x1
  have vl : (vls ms).length = ms.length := vls_len ms
  have mj := fmod_in x (show (0 : Int) < ((vls ms).length : Nat) by omega)
  obtain ⟨j, ej⟩ : ∃ j : Nat, x.fmod ((vls ms).length : Nat) = (j : Int) := ⟨(x.fmod ((vls ms).length : Nat)).toNat, by omega⟩
  obtain ⟨f, hf⟩ : ∃ f, ms[j]? = some f := ⟨_, List.getElem?_eq_getElem (by omega)⟩
  have fm := List.mem_of_getElem? hf
  have ha : atI (vls ms) (x.fmod ((vls ms).length : Nat)) = some (.ref f.1) := by rw [ej]; exact atI_nat (by unfold vls; rw [List.getElem?_map, hf]; rfl)
  have g1 := (gm f fm).1
  have g2 := (gm f fm).2
  have fk : f.2.2.1 ∈ (dsOf ms).map (·.1) := List.mem_map.mpr ⟨(f.2.2.1, f.2.2.2), List.mem_map.mpr ⟨f, fm, rfl⟩, rfl⟩
  and_intros
  refine ⟨(by show (_ : Int) ≠ 0; omega), ?_⟩
  refine ⟨s0, _, _, _, rfl, rfl, SqL.of hs, ha, ?_⟩
  refine ⟨f.1, _, _, _, rfl, rfl, SqT.of g1, rfl, ?_⟩
  refine ⟨(by show 0 ≤ sizeLine; decide), fun t1 h1 => ?_⟩
  have u1 := same_new h1 (.tup [])
  have k1 : (upd H t1 (.tup [])) t1 = some (.tup (([] : List Int).map V.int)) := upd_same
  generalize upd H t1 (.tup []) = J1 at u1 k1 ⊢
  refine ⟨(by show 1 ≤ sizeLine; decide), fun t2 h2 => ?_⟩
  have u2 := same_new h2 (.tup [V.int 1])
  have k2 : (upd J1 t2 (.tup [V.int 1])) t2 = some (.tup (([1] : List Int).map V.int)) := upd_same
  generalize upd J1 t2 (.tup [V.int 1]) = J2 at u2 k2 ⊢
  refine ⟨(by show 2 ≤ sizeLine; decide), fun ya hya => ?_⟩
  have u3 := same_new hya (.lst [V.ref t1, V.ref t2])
  have k3 : (upd J2 ya (.lst [V.ref t1, V.ref t2])) ya = some (.lst (vps [(t1, ([] : List Int)), (t2, ([1] : List Int))])) := upd_same
  generalize upd J2 ya (.lst [V.ref t1, V.ref t2]) = J3 at u3 k3 ⊢
  have uA := (u1.trans u2).trans u3
  have gp : GoodP J3 [(t1, ([] : List Int)), (t2, ([1] : List Int))] := fun r rm => by
    rcases List.mem_cons.mp rm with rm | rm
    · rw [rm]; exact (u2.trans u3) _ _ k1
    · rw [List.mem_singleton.mp rm]; exact u3 _ _ k2
  have two : ∃ r ∈ ([(t1, ([] : List Int)), (t2, ([1] : List Int))] : Ps), r.2 ≠ f.2.2.1 := by
    by_cases z : ([] : List Int) = f.2.2.1
    · exact ⟨(t2, ([1] : List Int)), by simp, by rw [← z]; exact (by decide : ([1] : List Int) ≠ ([] : List Int))⟩
    · exact ⟨(t1, ([] : List Int)), by simp, z⟩
  have onlyT : ∀ r ∈ ([(t1, ([] : List Int)), (t2, ([1] : List Int))] : Ps), r.2 = [] ∨ r.2 = [1] := fun r rm => by
    rcases List.mem_cons.mp rm with rm | rm
    · rw [rm]; simp
    · rw [List.mem_singleton.mp rm]; simp
  have len2 : ([(t1, ([] : List Int)), (t2, ([1] : List Int))] : Ps).length = 2 := rfl
  generalize ([(t1, ([] : List Int)), (t2, ([1] : List Int))] : Ps) = os at k3 gp two onlyT len2 ⊢
  have g2J := uA _ _ g2
  clear k1 k2 u1 u2 u3 h1 h2 hya
  refine ⟨_, rfl, ⟨_, SqL.of k3⟩, ?_⟩
  refine comp_list (xs := vps os) (by unfold vps; rw [List.length_map]; exact small63 (by omega)) (fun D j ys J => ys = vps ((os.take j).filter fun r => !decide (r.2 = f.2.2.1)) ∧ J = upd J3 D (.lst ys)) (fun D hD => ⟨rfl, rfl⟩) (fun D j ys J ⟨f1, f2⟩ => ⟨by rw [f2]; exact upd_same, by rw [f1]; unfold vps; rw [List.length_map]; exact Nat.le_trans (List.length_filter_le _ _) (List.length_take_le _ _)⟩) (fun D j ys J hD ⟨_, f2⟩ => by rw [f2]; exact SqL.of (same_new hD _ _ _ k3)) ?_ ?_
  · rintro D j x ys J K1 K2 hD hx ⟨f1, rfl⟩ k1 k2
    unfold vps at hx
    rw [List.getElem?_map] at hx
    obtain ⟨r, hr', rfl⟩ := Option.map_eq_some_iff.mp hx
    have rm := List.mem_of_getElem? hr'
    have et : os.take (j + 1) = os.take j ++ [r] := by rw [List.take_succ, hr']; rfl
    have sD := same_new hD (.lst ys)
    refine ⟨_, rfl, _, rfl, .tuple (r.2.map .int), .tuple (f.2.2.1.map .int), .tup (SqT.of (sD _ _ (gp r rm))) (.ints _), .tup (SqT.of (sD _ _ g2J)) (.ints _), (shape_ints _).1, (shape_ints _).1, ?_⟩
    rw [show PyData.eqv (.tuple (r.2.map .int)) (.tuple (f.2.2.1.map .int)) = decide (r.2 = f.2.2.1) from eqv_ints _ _]
    refine ⟨_, rfl, ?_⟩
    by_cases c : r.2 = f.2.2.1
    · refine ifF (by rw [decide_eq_true c]; rfl) ?_
      refine k2 _ ⟨?_, rfl⟩
      rw [f1, et, List.filter_append]
      simp [c]
    · refine ifT (by rw [decide_eq_false c]; rfl) ?_
      refine ⟨_, rfl, ?_⟩
      refine k1 _ _ upd_same ⟨?_, by rw [upd_upd]⟩
      rw [f1, et, List.filter_append]
      simp [c, vps]
  rintro D ys J hD ⟨rfl, rfl⟩
  rw [show (vps os).length = os.length from List.length_map .., List.take_of_length_le (Nat.le_refl _)]
  obtain ⟨rz, rzm, rzn⟩ := two
  have npos : 0 < (os.filter fun r => !decide (r.2 = f.2.2.1)).length := List.length_pos_of_mem (List.mem_filter.mpr ⟨rzm, by rw [decide_eq_false rzn]; rfl⟩)
  have nin : ∀ r ∈ os.filter (fun r => !decide (r.2 = f.2.2.1)), r ∈ os ∧ r.2 ≠ f.2.2.1 := fun r m => by
    obtain ⟨m1, m2⟩ := List.mem_filter.mp m
    exact ⟨m1, fun e => by rw [decide_eq_true e] at m2; cases m2⟩
  generalize (os.filter fun r => !decide (r.2 = f.2.2.1)) = nsl at npos nin ⊢
  obtain ⟨gN, hgN⟩ : ∃ g, nsl[0]? = some g := ⟨_, List.getElem?_eq_getElem npos⟩
  have gmN := nin gN (List.mem_of_getElem? hgN)
  have orN := onlyT gN gmN.1
  have sD := uA.trans (same_new hD (.lst (vps nsl)))
  have eN := same_new hD (.lst (vps nsl)) _ _ (gp gN gmN.1)
  have eD : (upd J3 D (.lst (vps nsl))) D = some (.lst (vps nsl)) := upd_same
  generalize upd J3 D (.lst (vps nsl)) = J4 at sD eN eD ⊢
  have aN : atI (vps nsl) 0 = some (.ref gN.1) := atI_nat (j := 0) (by unfold vps; rw [List.getElem?_map, hgN]; rfl)
  refine ⟨D, _, _, _, rfl, rfl, SqL.of eD, aN, ?_⟩
  have hs4 := sD _ _ hs
  have gm4 := gm.same sD
  and_intros
  refine ⟨⟨_, SqL.of hs4⟩, ?_⟩
  refine comp_list (xs := vls ms) (by rw [vls_len]; exact small63 (by omega)) (fun D2 i ys J => ys = vps (thOf (ms.take i)) ∧ J = upd J4 D2 (.lst ys)) (fun D2 hD2 => ⟨rfl, rfl⟩) (fun D2 i ys J ⟨f1, f2⟩ => ⟨by rw [f2]; exact upd_same, by rw [f1]; unfold vps thOf; rw [List.length_map, List.length_map]; exact List.length_take_le _ _⟩) (fun D2 i ys J hD2 ⟨_, f2⟩ => by rw [f2]; exact SqL.of (same_new hD2 _ _ _ hs4)) ?_ ?_
  · rintro D2 i y ys J K1 K2 hD2 hx ⟨f1, rfl⟩ k1 k2
    obtain ⟨r, hr', rfl, rm, et⟩ := vls_get hx
    refine yes (ifT rfl ?_)
    refine ⟨_, rfl, r.1, _, _, _, rfl, rfl, SqT.of (same_new hD2 _ _ _ (gm4 r rm).1), rfl, ?_⟩
    refine k1 _ _ upd_same ⟨?_, by rw [upd_upd]⟩
    rw [f1, et]
    unfold thOf vps
    rw [List.map_append, List.map_append]
    rfl
  rintro D2 ys J5 hD2 ⟨rfl, rfl⟩
  rw [vls_len, List.take_of_length_le (Nat.le_refl _)]
  have s5 := same_new hD2 (.lst (vps (thOf ms)))
  have e5 : (upd J4 D2 (.lst (vps (thOf ms)))) D2 = some (.lst (vps (thOf ms))) := upd_same
  generalize upd J4 D2 (.lst (vps (thOf ms))) = J5 at s5 e5 ⊢
  have s05 := sD.trans s5
  have gth : ∀ r ∈ thOf ms, J5 r.1 = some (.tup (r.2.map V.int)) := fun r rm => by
    obtain ⟨z, zm, rfl⟩ := List.mem_map.mp rm
    exact s5 _ _ (gm4 z zm).2
  and_intros
  refine ⟨by decide, by decide, ?_⟩
  refine comp_range (by decide) (fun D3 i ys J => ∃ as : Ps, ys = vps as ∧ as.length ≤ i ∧ J D3 = some (.lst ys) ∧ Same J5 J ∧ (∀ r ∈ as, J r.1 = some (.tup (r.2.map V.int)) ∧ r.2 ∉ (dsOf ms).map (·.1) ∧ ∃ k : Nat, k < 11 ∧ r.2 = [(2 : Int) ^ k]) ∧ (as = [] → ∀ k < i, [(2 : Int) ^ k] ∈ (dsOf ms).map (·.1))) (fun D3 hD3 => ⟨[], rfl, Nat.le_refl _, upd_same, same_new hD3 _, (fun _ m => nomatch m), (fun _ k hk => by omega)⟩) (fun D3 i ys J ⟨as, f1, f2, f3, _⟩ => ⟨f3, by rw [f1]; unfold vps; rw [List.length_map]; exact f2⟩) ?_ ?_
  · rintro D3 i ys J K1 K2 hD3 hi ⟨as, rfl, f2, f3, f4, f5, f6⟩ k1 k2
    have hi' : i < 11 := hi
    have ep : (1 : Int) * 2 ^ ((0 : Int) + (i : Int)).toNat = 2 ^ i := by rw [Int.one_mul, Int.zero_add, Int.toNat_natCast]
    and_intros
    refine ⟨⟨by omega, by omega, by decide⟩, ?_⟩
    refine ⟨(by show 1 ≤ sizeLine; decide), fun t ht => ?_⟩
    have u1 := same_new ht (.tup [V.int (1 * 2 ^ ((0 : Int) + (i : Int)).toNat)])
    have w1 : (upd J t (.tup [V.int (1 * 2 ^ ((0 : Int) + (i : Int)).toNat)])) t = some (.tup (([(2 : Int) ^ i] : List Int).map V.int)) := by rw [upd_same, ep]; rfl
    show (fun (x : V) (H1 : Hp) => _) (V.ref t) (upd J t (.tup [V.int (1 * 2 ^ ((0 : Int) + (i : Int)).toNat)]))
    generalize upd J t (.tup [V.int (1 * 2 ^ ((0 : Int) + (i : Int)).toNat)]) = J' at u1 w1 ⊢
    have f4' := f4.trans u1
    refine ⟨_, rfl, D2, t, thOf ms, [(2 : Int) ^ i], rfl, rfl, SqT.of w1, SqL.of (f4' _ _ e5), (fun r rm => SqT.of (f4' _ _ (gth r rm))), ?_⟩
    rw [th_keys]
    refine ⟨_, rfl, ?_⟩
    by_cases c : [(2 : Int) ^ i] ∈ (dsOf ms).map (·.1)
    · refine ifF (by rw [if_pos rfl, decide_eq_true c]; rfl) ?_
      refine k2 _ ⟨as, rfl, by omega, u1 _ _ f3, f4', (fun r rm => ⟨u1 _ _ (f5 r rm).1, (f5 r rm).2⟩), fun e k hk => ?_⟩
      rcases (by omega : k < i ∨ k = i) with z | z
      · exact f6 e k z
      · rw [z]; exact c
    · refine ifT (by rw [if_pos rfl, decide_eq_false c]; rfl) ?_
      and_intros
      refine ⟨⟨by omega, by omega, by decide⟩, ?_⟩
      refine ⟨(by show 1 ≤ sizeLine; decide), fun t2 ht2 => ?_⟩
      have u2 := same_new ht2 (.tup [V.int (1 * 2 ^ ((0 : Int) + (i : Int)).toNat)])
      have w2 : (upd J' t2 (.tup [V.int (1 * 2 ^ ((0 : Int) + (i : Int)).toNat)])) t2 = some (.tup (([(2 : Int) ^ i] : List Int).map V.int)) := by rw [upd_same, ep]; rfl
      have f3' := (u1.trans u2) _ _ f3
      have keep : ∀ b u, (upd J' t2 (.tup [V.int (1 * 2 ^ ((0 : Int) + (i : Int)).toNat)])) b = some (.tup u) → (upd (upd J' t2 (.tup [V.int (1 * 2 ^ ((0 : Int) + (i : Int)).toNat)])) D3 (.lst (vps as ++ [V.ref t2]))) b = some (.tup u) := fun b u e => by
        rw [upd_ne (ne_of e f3' (fun z => nomatch z))]
        exact e
      refine k1 _ _ f3' ⟨as ++ [(t2, [(2 : Int) ^ i])], by unfold vps; rw [List.map_append]; rfl, by rw [List.length_append]; exact Nat.succ_le_succ f2, upd_same, same_upd (f4'.trans u2) hD3, fun r rm => ?_, fun z => by simp at z⟩
      rcases List.mem_append.mp rm with rm | rm
      · exact ⟨keep _ _ ((u1.trans u2) _ _ (f5 r rm).1), (f5 r rm).2⟩
      · rw [List.mem_singleton.mp rm]
        exact ⟨keep _ _ w2, c, i, hi', rfl⟩
  rintro D3 ys J6 hD3 ⟨as, rfl, f2, f3, s6, f5, f6⟩
  obtain ⟨gA, hgA⟩ : ∃ g, as[0]? = some g := by
    cases as with
    | nil => exact (some_out (th := (dsOf ms).map fun q => q.1) (by rw [List.length_map]; unfold dsOf; rw [List.length_map]; exact m8) fun k hk => f6 rfl k hk).elim
    | cons a r => exact ⟨a, rfl⟩
  obtain ⟨eA, outA, kA, kA11, tA⟩ := f5 gA (List.mem_of_getElem? hgA)
  have aA : atI (vps as) 0 = some (.ref gA.1) := atI_nat (j := 0) (by unfold vps; rw [List.getElem?_map, hgA]; rfl)
  refine ⟨D3, _, _, _, rfl, rfl, SqL.of f3, aA, ?_⟩
  have s06 := s05.trans s6
  have eN6 := (s5.trans s6) _ _ eN
  have g26 := s06 _ _ g2
  clear f5 f6 f2 f3 e5 gth
  have x8 : x.fdiv 8 = x / 8 := Int.fdiv_eq_ediv_of_nonneg x (by decide)
  and_intros
  refine ⟨by omega, by omega, fun lb tb ab n7 J7 hlb s7 n7n et7 ea7 el7 => ?_⟩
  have bad := nine (K := K) n7n et7 ea7
  have s07 := s06.trans s7
  have eN7 := s7 _ _ eN6
  have g27 := s7 _ _ g26
  have eA7 := s7 _ _ eA
  refine ⟨lb, rfl, ⟨_, SqL.of el7⟩, ?_⟩
  have nlen : ([V.int 0, V.int (-1), V.int n7, V.bl true, V.bl false, V.non, V.str (Str.ofString "1"), V.ref tb, V.ref ab] : List V).length = 9 := rfl
  generalize ([V.int 0, V.int (-1), V.int n7, V.bl true, V.bl false, V.non, V.str (Str.ofString "1"), V.ref tb, V.ref ab] : List V) = nl at el7 bad nlen ⊢
  refine comp_list (xs := nl) (by rw [nlen]; decide) (fun D4 i ys J => ∃ os : List (Addr × Rv), ys = (os.map fun o => V.ref o.1) ∧ os.length = i ∧ Stk K J7 D4 (OneC ms (rdOf rs) (p ++ [[], [1], gA.2])) J os) (fun D4 hD4 => ⟨[], rfl, rfl, upd_same, off_of (same_new hD4 _) hD4, (fun _ m => nomatch m)⟩) (fun D4 i ys J ⟨os, f1, f2, f3⟩ => ⟨by rw [f1]; exact f3.lies, by rw [f1, List.length_map]; omega⟩) (fun D4 i ys J hD4 ⟨os, f1, f2, f3⟩ => SqL.of (f3.up _ _ el7)) ?_ ?_
  · rintro D4 i y ys J K1 K2 hD4 hx ⟨os, rfl, f2, f3⟩ k1 k2
    obtain ⟨od, ok1, ok2⟩ := bad y (List.mem_of_getElem? hx)
    refine yes (ifT rfl ?_)
    and_intros
    refine ⟨(by show 3 ≤ sizeLine; decide), fun t ht => ?_⟩
    have u1 := same_new ht (.tup [V.ref f.2.1, V.ref gN.1, y])
    have w1 : (upd J t (.tup [V.ref f.2.1, V.ref gN.1, y])) t = some (.tup [V.ref f.2.1, V.ref gN.1, y]) := upd_same
    generalize upd J t (.tup [V.ref f.2.1, V.ref gN.1, y]) = J' at u1 w1 ⊢
    refine ⟨(by show 1 ≤ sizeLine; decide), fun o ho => ?_⟩
    have u2 := same_new ho (.lst [V.ref t])
    have w2 : (upd J' o (.lst [V.ref t])) o = some (.lst (vrv [(t, (f.2.1, f.2.2.1), gN, y)])) := upd_same
    generalize upd J' o (.lst [V.ref t]) = J'' at u2 w2 ⊢
    have tD := f3.ne ht
    have f3' := f3.grow u1
    have oD := f3'.ne ho
    have f3'' := f3'.grow u2
    refine k1 _ _ f3''.lies ⟨os ++ [(o, [(t, (f.2.1, f.2.2.1), gN, y)])], by rw [List.map_append]; rfl, by rw [List.length_append, f2]; rfl, ?_⟩
    exact f3''.push (off_at w2 oD) (.one (off_at (u2 _ _ w1) tD) (f3''.same _ _ g27) (f3''.same _ _ eN7) (od.same f3''.same)) ⟨by show 1 ≤ 2; decide, .inl ⟨_, List.mem_singleton_self _, ok2 _ _⟩⟩
  rintro D4 ys J8 hD4 ⟨os, rfl, ol, k8⟩
  rw [nlen] at ol
  have s08 := s07.trans k8.up
  have hs8 := s08 _ _ hs
  have gm8 := gm.same s08
  have g28 := k8.up _ _ g27
  and_intros
  refine ⟨⟨_, SqL.of hs8⟩, ?_⟩
  refine comp_list (xs := vls ms) (by rw [vls_len]; exact small63 (by omega)) (fun D5 i ys J => ys = (((dsOf (ms.take i)).filter fun q => decide (q.1 = f.2.2.1)).map (·.2)).map V.int ∧ J = upd J8 D5 (.lst ys)) (fun D5 hD5 => ⟨rfl, rfl⟩) (fun D5 i ys J ⟨f1, f2⟩ => ⟨by rw [f2]; exact upd_same, by rw [f1, List.length_map, List.length_map]; refine Nat.le_trans (List.length_filter_le _ _) ?_; unfold dsOf; rw [List.length_map]; exact List.length_take_le _ _⟩) (fun D5 i ys J hD5 ⟨_, f2⟩ => by rw [f2]; exact SqL.of (same_new hD5 _ _ _ hs8)) ?_ ?_
  · rintro D5 i y ys J K1 K2 hD5 hx ⟨f1, rfl⟩ k1 k2
    obtain ⟨r, hr', rfl, rm, et⟩ := vls_get hx
    have r1 := same_new hD5 (.lst ys) _ _ (gm8 r rm).1
    have r2 := same_new hD5 (.lst ys) _ _ (gm8 r rm).2
    have t2 := same_new hD5 (.lst ys) _ _ g28
    refine ⟨_, rfl, r.1, _, _, _, rfl, rfl, SqT.of r1, rfl, _, rfl, .tuple (r.2.2.1.map .int), .tuple (f.2.2.1.map .int), .tup (SqT.of r2) (.ints _), .tup (SqT.of t2) (.ints _), (shape_ints _).1, (shape_ints _).1, _, rfl, ?_⟩
    rw [show PyData.eqv (.tuple (r.2.2.1.map .int)) (.tuple (f.2.2.1.map .int)) = decide (r.2.2.1 = f.2.2.1) from eqv_ints _ _]
    by_cases c : r.2.2.1 = f.2.2.1
    · refine ifT (decide_eq_true c) ?_
      refine ⟨_, rfl, r.1, _, _, _, rfl, rfl, SqT.of r1, rfl, ?_⟩
      refine k1 _ _ upd_same ⟨?_, by rw [upd_upd]⟩
      rw [et, dsOf_append, List.filter_append, List.map_append, List.map_append, f1]
      simp [dsOf, c]
    · refine ifF (decide_eq_false c) ?_
      refine k2 _ ⟨?_, rfl⟩
      rw [et, dsOf_append, List.filter_append, List.map_append, List.map_append, f1]
      simp [dsOf, c]
  rintro D5 ys J9 hD5 ⟨rfl, rfl⟩
  rw [vls_len, List.take_of_length_le (Nat.le_refl _)]
  refine ⟨D5, _, rfl, SqL.of upd_same, ?_⟩
  rw [tot_sum]
  have s9 := same_new hD5 (.lst ((((dsOf ms).filter fun q => decide (q.1 = f.2.2.1)).map (·.2)).map V.int))
  generalize upd J8 D5 (.lst ((((dsOf ms).filter fun q => decide (q.1 = f.2.2.1)).map (·.2)).map V.int)) = J9 at s9 ⊢
  have k9 := k8.grow s9
  have hc9 := (s08.trans s9) _ _ hc
  have gr9 := gr.same (s08.trans s9)
  have g29 := s9 _ _ g28
  and_intros
  refine ⟨⟨_, SqL.of hc9⟩, ?_⟩
  refine comp_list (xs := vrs rs) (by rw [vrs_len]; exact small63 (by omega)) (fun D6 i ys J => ys = (((olds (rdOf (rs.take i))).filter fun q => decide (q.1 = f.2.2.1)).map (·.2)).map V.int ∧ J = upd J9 D6 (.lst ys)) (fun D6 hD6 => ⟨rfl, rfl⟩) (fun D6 i ys J ⟨f1, f2⟩ => ⟨by rw [f2]; exact upd_same, by rw [f1, List.length_map, List.length_map]; refine Nat.le_trans (List.length_filter_le _ _) ?_; unfold olds rdOf; rw [List.length_map, List.length_map]; exact List.length_take_le _ _⟩) (fun D6 i ys J hD6 ⟨_, f2⟩ => by rw [f2]; exact SqL.of (same_new hD6 _ _ _ hc9)) ?_ ?_
  · rintro D6 i y ys J K1 K2 hD6 hx ⟨f1, rfl⟩ k1 k2
    obtain ⟨r, hr', rfl, rm, et⟩ := vrs_get hx
    have r1 := same_new hD6 (.lst ys) _ _ (gr9 r rm).1
    have r2 := same_new hD6 (.lst ys) _ _ (gr9 r rm).2.1
    have t2 := same_new hD6 (.lst ys) _ _ g29
    refine ⟨_, rfl, r.1, _, _, _, rfl, rfl, SqT.of r1, rfl, _, rfl, .tuple (r.2.1.2.map .int), .tuple (f.2.2.1.map .int), .tup (SqT.of r2) (.ints _), .tup (SqT.of t2) (.ints _), (shape_ints _).1, (shape_ints _).1, _, rfl, ?_⟩
    rw [show PyData.eqv (.tuple (r.2.1.2.map .int)) (.tuple (f.2.2.1.map .int)) = decide (r.2.1.2 = f.2.2.1) from eqv_ints _ _]
    have eo : olds (rdOf (rs.take (i + 1))) = olds (rdOf (rs.take i)) ++ [(r.2.1.2, r.2.2.2)] := by rw [et, rdOf_append]; exact List.map_append ..
    by_cases c : r.2.1.2 = f.2.2.1
    · refine ifT (decide_eq_true c) ?_
      refine ⟨_, rfl, r.1, _, _, _, rfl, rfl, SqT.of r1, rfl, ?_⟩
      refine k1 _ _ upd_same ⟨?_, by rw [upd_upd]⟩
      rw [eo, List.filter_append, List.map_append, List.map_append, f1]
      simp [c]
    · refine ifF (decide_eq_false c) ?_
      refine k2 _ ⟨?_, rfl⟩
      rw [eo, List.filter_append, List.map_append, List.map_append, f1]
      simp [c]
  rintro D6 ys J10 hD6 ⟨rfl, rfl⟩
  rw [vrs_len, List.take_of_length_le (Nat.le_refl _)]
  refine ⟨D6, _, rfl, SqL.of upd_same, ?_⟩
  rw [tot_sum]
  have s10 := same_new hD6 (.lst ((((olds (rdOf rs)).filter fun q => decide (q.1 = f.2.2.1)).map (·.2)).map V.int))
  generalize upd J9 D6 (.lst ((((olds (rdOf rs)).filter fun q => decide (q.1 = f.2.2.1)).map (·.2)).map V.int)) = J10 at s10 ⊢
  have k10 := k9.grow s10
  have Mn : tot (dsOf ms) f.2.2.1 + tot (negs (rdOf rs)) f.2.2.1 = tot (dsOf ms) f.2.2.1 - tot (olds (rdOf rs)) f.2.2.1 := by rw [tot_negs]; omega
  have M0 := nn f.2.2.1
  rw [tot_append, Mn] at M0
  and_intros
  dsimp only
  generalize tot (dsOf ms) f.2.2.1 - tot (olds (rdOf rs)) f.2.2.1 = M at Mn M0 ⊢
  and_intros
  refine ⟨.inl ⟨rfl, _, SqL.of k10.lies⟩, _, rfl, _, rfl, (by show 3 ≤ sizeLine; decide), fun t ht => ?_⟩
  have u1 := same_new ht (.tup [V.ref (f.2.1, f.2.2.1).1, V.ref (f.2.1, f.2.2.1).1, V.int 1])
  have w1 : (upd J10 t (.tup [V.ref (f.2.1, f.2.2.1).1, V.ref (f.2.1, f.2.2.1).1, V.int 1])) t = some (.tup [V.ref (f.2.1, f.2.2.1).1, V.ref (f.2.1, f.2.2.1).1, V.int 1]) := upd_same
  have tD := k10.ne ht
  have q1 := k10.grow u1
  generalize upd J10 t (.tup [V.ref (f.2.1, f.2.2.1).1, V.ref (f.2.1, f.2.2.1).1, V.int 1]) = Ja at u1 w1 q1 ⊢
  refine ⟨(by show 1 ≤ sizeLine; decide), fun o ho => ?_⟩
  have u2 := same_new ho (.lst [V.ref t])
  have w2 : (upd Ja o (.lst [V.ref t])) o = some (.lst (vrv [(t, (f.2.1, f.2.2.1), (f.2.1, f.2.2.1), V.int 1)])) := upd_same
  have oD := q1.ne ho
  have q2 := q1.grow u2
  generalize upd Ja o (.lst [V.ref t]) = Jb at u2 w2 q2 ⊢
  refine ⟨D4, _, _, rfl, rfl, q2.lies, (by rw [List.length_map]; exact small1000 (by simp only [List.length_append, List.length_cons, List.length_nil] at *; omega)), ?_⟩
  have k11 := q2.push (off_at w2 oD) (.one (off_at (u2 _ _ w1) tD) (q2.same _ _ g27) (q2.same _ _ g27) (.int _)) (⟨by show 1 ≤ 2; decide, .inl ⟨_, List.mem_singleton_self _, okRow_same _ _⟩⟩)
  have ol11 : (os ++ [(o, [(t, (f.2.1, f.2.2.1), (f.2.1, f.2.2.1), V.int 1)])]).length = 10 := by rw [List.length_append, ol]; rfl
  generalize upd Jb D4 (.lst ((os.map fun o => V.ref o.1) ++ [V.ref o])) = J11 at k11 ⊢
  generalize os ++ [(o, [(t, (f.2.1, f.2.2.1), (f.2.1, f.2.2.1), V.int 1)])] = os11 at k11 ol11 ⊢
  clear u1 w1 tD q1 u2 w2 oD q2 ht ho
  have pin : ∀ ts ∈ p, ts ∈ p ++ [[], [1], gA.2] := fun ts m => List.mem_append_left _ m
  have pnil : ([] : List Int) ∈ p ++ [[], [1], gA.2] := List.mem_append_right _ (by simp)
  have pA : gA.2 ∈ p ++ [[], [1], gA.2] := List.mem_append_right _ (by simp)
  have pN : gN.2 ∈ p ++ [[], [1], gA.2] := List.mem_append_right _ (by rcases orN with e | e <;> rw [e] <;> simp)
  have pO : f.2.2.1 ∈ p ++ [[], [1], gA.2] := pin _ (by
    obtain ⟨z, zm, ze⟩ := List.mem_map.mp fk
    exact ze ▸ kl z zm)
  have negA : tot (dsOf ms) gA.2 + tot (negs (rdOf rs)) gA.2 - 1 < 0 := by
    rw [tot_out outA, tot_negs]
    have := tot_low (ds := olds (rdOf rs)) (ts := gA.2) fun q m => by
      obtain ⟨z, zm, rfl⟩ := List.mem_map.mp m
      have := (ok z zm).2
      show 0 ≤ z.2.2
      omega
    omega
  have neA : gA.2 ≠ [] := by rw [tA]; exact pw_ne
  have neO : f.2.2.1 ≠ gA.2 := fun e => outA (e ▸ fk)
  and_intros
  refine ⟨.inl ⟨rfl, _, SqL.of k11.lies⟩, _, rfl, (by show 0 ≤ sizeLine; decide), fun y1 hy1 => ?_⟩
  have y1D := k11.ne hy1
  have v1 := same_new hy1 (.tup [])
  have z1 : (upd J11 y1 (.tup [])) y1 = some (.tup (([] : List Int).map V.int)) := upd_same
  generalize upd J11 y1 (.tup []) = Y1 at v1 z1 ⊢
  refine ⟨(by show 1 ≤ sizeLine; decide), fun y2 hy2 => ?_⟩
  have v2 := same_new hy2 (.tup [V.int 1])
  have z2 : (upd Y1 y2 (.tup [V.int 1])) y2 = some (.tup [V.int 1]) := upd_same
  generalize upd Y1 y2 (.tup [V.int 1]) = Y2 at v2 z2 ⊢
  refine ⟨(by show 2 ≤ sizeLine; decide), fun y3 hy3 => ?_⟩
  have v3 := same_new hy3 (.lst [V.ref y1, V.ref y2])
  have z3 : (upd Y2 y3 (.lst [V.ref y1, V.ref y2])) y3 = some (.lst [V.ref y1, V.ref y2]) := upd_same
  generalize upd Y2 y3 (.lst [V.ref y1, V.ref y2]) = Y3 at v3 z3 ⊢
  refine ⟨_, rfl, (by show 0 ≤ sizeLine; decide), fun y4 hy4 => ?_⟩
  have v4 := same_new hy4 (.tup [])
  have z4 : (upd Y3 y4 (.tup [])) y4 = some (.tup (([] : List Int).map V.int)) := upd_same
  generalize upd Y3 y4 (.tup []) = Y4 at v4 z4 ⊢
  have v14 := ((v1.trans v2).trans v3).trans v4
  have kx := k11.grow v14
  have ey := ((v2.trans v3).trans v4) _ _ z1
  refine ⟨.tuple (gA.2.map .int), .tuple (([] : List Int).map .int), .tup (SqT.of (kx.up _ _ eA7)) (.ints _), .tup (SqT.of z4) (.ints _), (shape_ints _).1, (shape_ints _).1, ?_⟩
  rw [show PyData.eqv (.tuple (gA.2.map .int)) (.tuple (([] : List Int).map .int)) = false from (eqv_ints _ _).trans (decide_eq_false (by rw [tA]; exact pw_ne))]
  refine .inr ⟨_, rfl, y3, _, _, _, rfl, rfl, SqL.of (v4 _ _ z3), rfl, ?_⟩
  refine ⟨(by show 3 ≤ sizeLine; decide), fun t ht => ?_⟩
  have u1 := same_new ht (.tup [V.ref gA.1, V.ref (y1, ([] : List Int)).1, V.int 1])
  have w1 : (upd Y4 t (.tup [V.ref gA.1, V.ref (y1, ([] : List Int)).1, V.int 1])) t = some (.tup [V.ref gA.1, V.ref (y1, ([] : List Int)).1, V.int 1]) := upd_same
  have tD := kx.ne ht
  have q1 := kx.grow u1
  generalize upd Y4 t (.tup [V.ref gA.1, V.ref (y1, ([] : List Int)).1, V.int 1]) = Ja at u1 w1 q1 ⊢
  refine ⟨(by show 1 ≤ sizeLine; decide), fun o ho => ?_⟩
  have u2 := same_new ho (.lst [V.ref t])
  have w2 : (upd Ja o (.lst [V.ref t])) o = some (.lst (vrv [(t, gA, (y1, ([] : List Int)), V.int 1)])) := upd_same
  have oD := q1.ne ho
  have q2 := q1.grow u2
  generalize upd Ja o (.lst [V.ref t]) = Jb at u2 w2 q2 ⊢
  refine ⟨D4, _, _, rfl, rfl, q2.lies, (by rw [List.length_map]; exact small1000 (by simp only [List.length_append, List.length_cons, List.length_nil] at *; omega)), ?_⟩
  have k12 := q2.push (off_at w2 oD) (.one (off_at (u2 _ _ w1) tD) (q2.same _ _ eA7) (off_at ((u1.trans u2) _ _ ey) y1D) (.int _)) (oneC_row neA (Int.le_refl _) pA pnil negA)
  have ol12 : (os11 ++ [(o, [(t, gA, (y1, ([] : List Int)), V.int 1)])]).length = 11 := by rw [List.length_append, ol11]; rfl
  generalize upd Jb D4 (.lst ((os11.map fun o => V.ref o.1) ++ [V.ref o])) = J12 at k12 ⊢
  generalize os11 ++ [(o, [(t, gA, (y1, ([] : List Int)), V.int 1)])] = os12 at k12 ol12 ⊢
  clear u1 w1 tD q1 u2 w2 oD q2 ht ho
  clear v1 v2 v3 v4 z1 z2 z3 z4 v14 kx ey y1D hy1 hy2 hy3 hy4
  and_intros
  refine ⟨.inl ⟨rfl, _, SqL.of k12.lies⟩, _, rfl, _, rfl, _, rfl, _, _, rfl, rfl, (by show 3 ≤ sizeLine; decide), fun t ht => ?_⟩
  dsimp only
  have u1 := same_new ht (.tup [V.ref (f.2.1, f.2.2.1).1, V.ref gN.1, V.int (M + 1)])
  have w1 : (upd J12 t (.tup [V.ref (f.2.1, f.2.2.1).1, V.ref gN.1, V.int (M + 1)])) t = some (.tup [V.ref (f.2.1, f.2.2.1).1, V.ref gN.1, V.int (M + 1)]) := upd_same
  have tD := k12.ne ht
  have q1 := k12.grow u1
  generalize upd J12 t (.tup [V.ref (f.2.1, f.2.2.1).1, V.ref gN.1, V.int (M + 1)]) = Ja at u1 w1 q1 ⊢
  refine ⟨(by show 1 ≤ sizeLine; decide), fun o ho => ?_⟩
  have u2 := same_new ho (.lst [V.ref t])
  have w2 : (upd Ja o (.lst [V.ref t])) o = some (.lst (vrv [(t, (f.2.1, f.2.2.1), gN, V.int (M + 1))])) := upd_same
  have oD := q1.ne ho
  have q2 := q1.grow u2
  generalize upd Ja o (.lst [V.ref t]) = Jb at u2 w2 q2 ⊢
  refine ⟨D4, _, _, rfl, rfl, q2.lies, (by rw [List.length_map]; exact small1000 (by simp only [List.length_append, List.length_cons, List.length_nil] at *; omega)), ?_⟩
  have k13 := q2.push (off_at w2 oD) (.one (off_at (u2 _ _ w1) tD) (q2.same _ _ g27) (q2.same _ _ eN7) (.int _)) (oneC_row (Ne.symm gmN.2) (by omega) pO pN (by show tot (dsOf ms) f.2.2.1 + tot (negs (rdOf rs)) f.2.2.1 - (M + 1) < 0; omega))
  have ol13 : (os12 ++ [(o, [(t, (f.2.1, f.2.2.1), gN, V.int (M + 1))])]).length = 12 := by rw [List.length_append, ol12]; rfl
  generalize upd Jb D4 (.lst ((os12.map fun o => V.ref o.1) ++ [V.ref o])) = J13 at k13 ⊢
  generalize os12 ++ [(o, [(t, (f.2.1, f.2.2.1), gN, V.int (M + 1))])] = os13 at k13 ol13 ⊢
  clear u1 w1 tD q1 u2 w2 oD q2 ht ho
  have m20 := fmod_in x (show (0 : Int) < 10 ^ (20 : Int).toNat by decide)
  and_intros
  refine ⟨.inl ⟨rfl, _, SqL.of k13.lies⟩, _, rfl, _, rfl, ?_⟩
  and_intros
  refine ⟨(by show 3 ≤ sizeLine; decide), fun t ht => ?_⟩
  dsimp only
  have u1 := same_new ht (.tup [V.ref (f.2.1, f.2.2.1).1, V.ref gN.1, V.int (M + 1 + x.fmod (10 ^ (20 : Int).toNat))])
  have w1 : (upd J13 t (.tup [V.ref (f.2.1, f.2.2.1).1, V.ref gN.1, V.int (M + 1 + x.fmod (10 ^ (20 : Int).toNat))])) t = some (.tup [V.ref (f.2.1, f.2.2.1).1, V.ref gN.1, V.int (M + 1 + x.fmod (10 ^ (20 : Int).toNat))]) := upd_same
  have tD := k13.ne ht
  have q1 := k13.grow u1
  generalize upd J13 t (.tup [V.ref (f.2.1, f.2.2.1).1, V.ref gN.1, V.int (M + 1 + x.fmod (10 ^ (20 : Int).toNat))]) = Ja at u1 w1 q1 ⊢
  refine ⟨(by show 1 ≤ sizeLine; decide), fun o ho => ?_⟩
  have u2 := same_new ho (.lst [V.ref t])
  have w2 : (upd Ja o (.lst [V.ref t])) o = some (.lst (vrv [(t, (f.2.1, f.2.2.1), gN, V.int (M + 1 + x.fmod (10 ^ (20 : Int).toNat)))])) := upd_same
  have oD := q1.ne ho
  have q2 := q1.grow u2
  generalize upd Ja o (.lst [V.ref t]) = Jb at u2 w2 q2 ⊢
  refine ⟨D4, _, _, rfl, rfl, q2.lies, (by rw [List.length_map]; exact small1000 (by simp only [List.length_append, List.length_cons, List.length_nil] at *; omega)), ?_⟩
  have k14 := q2.push (off_at w2 oD) (.one (off_at (u2 _ _ w1) tD) (q2.same _ _ g27) (q2.same _ _ eN7) (.int _)) (oneC_row (Ne.symm gmN.2) (by omega) pO pN (by show tot (dsOf ms) f.2.2.1 + tot (negs (rdOf rs)) f.2.2.1 - (M + 1 + x.fmod (10 ^ (20 : Int).toNat)) < 0; omega))
  have ol14 : (os13 ++ [(o, [(t, (f.2.1, f.2.2.1), gN, V.int (M + 1 + x.fmod (10 ^ (20 : Int).toNat)))])]).length = 13 := by rw [List.length_append, ol13]; rfl
  generalize upd Jb D4 (.lst ((os13.map fun o => V.ref o.1) ++ [V.ref o])) = J14 at k14 ⊢
  generalize os13 ++ [(o, [(t, (f.2.1, f.2.2.1), gN, V.int (M + 1 + x.fmod (10 ^ (20 : Int).toNat)))])] = os14 at k14 ol14 ⊢
  clear u1 w1 tD q1 u2 w2 oD q2 ht ho
  refine ⟨fun σ' J => ∃ os : List (Addr × Rv), σ' = [some (.ref s0), some (.ref c), some (.int x), some (.ref f.2.1), some (.ref gN.1), some (.ref D2), some (.ref gA.1), some (.ref D4), some (.int M), none] ∧ os.length ≤ 14 ∧ Stk K J7 D4 (OneC ms (rdOf rs) (p ++ [[], [1], gA.2])) J os, ?_, ?_⟩
  · and_intros
    refine ite2 (fun _ => ?_) (fun _ => ?_)
    · and_intros
      refine ⟨.inl ⟨rfl, _, SqL.of k14.lies⟩, _, rfl, _, rfl, (by show 3 ≤ sizeLine; decide), fun t ht => ?_⟩
      have u1 := same_new ht (.tup [V.ref f.2.1, V.ref gA.1, V.int 1])
      have w1 : (upd J14 t (.tup [V.ref f.2.1, V.ref gA.1, V.int 1])) t = some (.tup [V.ref f.2.1, V.ref gA.1, V.int 1]) := upd_same
      have tD := k14.ne ht
      have q1 := k14.grow u1
      generalize upd J14 t (.tup [V.ref f.2.1, V.ref gA.1, V.int 1]) = Ja at u1 w1 q1 ⊢
      and_intros
      refine ⟨(by show 0 ≤ sizeLine; decide), fun y1 hy1 => ?_⟩
      have u2 := same_new hy1 (.tup [])
      have w2 : (upd Ja y1 (.tup [])) y1 = some (.tup (([] : List Int).map V.int)) := upd_same
      have y1D := q1.ne hy1
      have q2 := q1.grow u2
      generalize upd Ja y1 (.tup []) = Jb at u2 w2 q2 ⊢
      refine ⟨(by show 3 ≤ sizeLine; decide), fun t' ht' => ?_⟩
      have u3 := same_new ht' (.tup [V.ref gA.1, V.ref y1, V.int 1])
      have w3 : (upd Jb t' (.tup [V.ref gA.1, V.ref y1, V.int 1])) t' = some (.tup [V.ref gA.1, V.ref y1, V.int 1]) := upd_same
      have t'D := q2.ne ht'
      have q3 := q2.grow u3
      generalize upd Jb t' (.tup [V.ref gA.1, V.ref y1, V.int 1]) = Jc at u3 w3 q3 ⊢
      refine ⟨(by show 2 ≤ sizeLine; decide), fun o ho => ?_⟩
      have u4 := same_new ho (.lst [V.ref t, V.ref t'])
      have w4 : (upd Jc o (.lst [V.ref t, V.ref t'])) o = some (.lst (vrv [(t, (f.2.1, f.2.2.1), gA, .int 1), (t', gA, (y1, ([] : List Int)), .int 1)])) := upd_same
      have oD := q3.ne ho
      have q4 := q3.grow u4
      generalize upd Jc o (.lst [V.ref t, V.ref t']) = Jd at u4 w4 q4 ⊢
      refine ⟨D4, _, _, rfl, rfl, q4.lies, (by rw [List.length_map]; exact small1000 (by omega)), ?_⟩
      have gx : GoodX K (off Jd D4) [(t, (f.2.1, f.2.2.1), gA, .int 1), (t', gA, (y1, ([] : List Int)), .int 1)] := fun q m => by
        rcases List.mem_cons.mp m with m | m
        · rw [m]; exact ⟨off_at (((u2.trans u3).trans u4) _ _ w1) tD, q4.same _ _ g27, q4.same _ _ eA7, .int _⟩
        · rw [List.mem_singleton.mp m]; exact ⟨off_at (u4 _ _ w3) t'D, q4.same _ _ eA7, off_at ((u3.trans u4) _ _ w2) y1D, .int _⟩
      exact ⟨_, rfl, by rw [List.length_append, ol14]; exact Nat.le_refl _, q4.push (off_at w4 oD) gx (oneC_two neO neA pO pA pnil negA)⟩
    · exact ⟨os14, rfl, by omega, k14⟩
  clear k14 k13 k12 k11 k10 k9 k8 ol14 ol13 ol12 ol11 ol
  rintro σ' J15 ⟨os, rfl, o14, k15⟩
  have s15 := s07.trans k15.up
  have hc15 := s15 _ _ hc
  have gr15 := gr.same s15
  have x64 := fmod_in (x.fdiv 64) (show (0 : Int) < ((vrs rs).length : Nat) + 1 by omega)
  and_intros
  refine ⟨(by show (_ : Int) ≠ 0; omega), ?_⟩
  obtain ⟨at0, eat⟩ : ∃ k : Nat, (x.fdiv 64).fmod (((vrs rs).length : Nat) + 1) = (k : Int) := ⟨((x.fdiv 64).fmod (((vrs rs).length : Nat) + 1)).toNat, by omega⟩
  dsimp only
  rw [eat]
  and_intros
  refine ⟨⟨_, SqL.of k15.lies⟩, ?_⟩
  refine comp_list (xs := os.map fun o => V.ref o.1) (by rw [List.length_map]; exact small63 (by omega)) (fun D7 i ys J => ∃ as : List Addr, ys = as.map V.ref ∧ as.length = i ∧ J D7 = some (.lst ys) ∧ Same J15 (off J D7) ∧ ∀ a ∈ as, BadC K (off J D7) ms a) (fun D7 hD7 => ⟨[], rfl, rfl, upd_same, off_of (same_new hD7 _) hD7, (fun _ m => nomatch m)⟩) (fun D7 i ys J ⟨as, f1, f2, f3, _⟩ => ⟨f3, by rw [f1, List.length_map]; omega⟩) (fun D7 i ys J hD7 ⟨as, _, _, _, f4, _⟩ => SqL.of ((f4.trans (off_le _ _)) _ _ k15.lies)) ?_ ?_
  · rintro D7 i y ys J K1 K2 hD7 hx ⟨as, rfl, f2, f3, f4, f5⟩ k1 k2
    rw [List.getElem?_map] at hx
    obtain ⟨o, ho, rfl⟩ := Option.map_eq_some_iff.mp hx
    obtain ⟨lo, go, co⟩ := k15.all o (List.mem_of_getElem? ho)
    have sJ := f4.trans (off_le _ _)
    refine yes (ifT rfl ?_)
    have jo := sJ _ _ (off_le _ _ _ _ lo)
    have jg := (go.same (off_le _ _)).same f4
    and_intros
    refine ⟨c, _, rfl, SqL.of (sJ _ _ hc15), fun b1 hb1 => ?_⟩
    rw [cut_take, vrs_take]
    have u1 := same_new hb1 (.lst (vrs (rs.take at0)))
    have w1 : (upd J b1 (.lst (vrs (rs.take at0)))) b1 = some (.lst (vrs (rs.take at0))) := upd_same
    generalize upd J b1 (.lst (vrs (rs.take at0))) = Ja at u1 w1 ⊢
    have t8 : (rs.take at0).length ≤ 8 := by rw [List.length_take]; omega
    have d8 : (rs.drop at0).length ≤ 8 := by rw [List.length_drop]; omega
    have c2 := co.1
    refine ⟨_, rfl, b1, o.1, _, _, rfl, rfl, w1, u1 _ _ jo, (by rw [vrs_len]; unfold vrv; rw [List.length_map]; exact small63 (by omega)), fun b2 hb2 => ?_⟩
    rw [show vrs (rs.take at0) ++ vrv o.2 = vrv (rvOf (rs.take at0) ++ o.2) from (by rw [vrv_append, vrv_of])]
    have u2 := same_new hb2 (.lst (vrv (rvOf (rs.take at0) ++ o.2)))
    have w2 : (upd Ja b2 (.lst (vrv (rvOf (rs.take at0) ++ o.2)))) b2 = some (.lst (vrv (rvOf (rs.take at0) ++ o.2))) := upd_same
    generalize upd Ja b2 (.lst (vrv (rvOf (rs.take at0) ++ o.2))) = Jb at u2 w2 ⊢
    and_intros
    refine ⟨c, _, rfl, SqL.of ((u1.trans u2) _ _ (sJ _ _ hc15)), fun b3 hb3 => ?_⟩
    rw [cut_drop, vrs_drop]
    have u3 := same_new hb3 (.lst (vrs (rs.drop at0)))
    have w3 : (upd Jb b3 (.lst (vrs (rs.drop at0)))) b3 = some (.lst (vrs (rs.drop at0))) := upd_same
    generalize upd Jb b3 (.lst (vrs (rs.drop at0))) = Jc at u3 w3 ⊢
    refine ⟨b2, b3, _, _, rfl, rfl, u3 _ _ w2, w3, (by rw [vrs_len]; unfold vrv rvOf; rw [List.length_map, List.length_append, List.length_map]; exact small63 (by omega)), fun b4 hb4 => ?_⟩
    rw [show vrv (rvOf (rs.take at0) ++ o.2) ++ vrs (rs.drop at0) = vrv (rvOf (rs.take at0) ++ o.2 ++ rvOf (rs.drop at0)) from (by rw [vrv_append _ (rvOf (rs.drop at0)), vrv_of])]
    have u4 := same_new hb4 (.lst (vrv (rvOf (rs.take at0) ++ o.2 ++ rvOf (rs.drop at0))))
    have w4 : (upd Jc b4 (.lst (vrv (rvOf (rs.take at0) ++ o.2 ++ rvOf (rs.drop at0))))) b4 = some (.lst (vrv (rvOf (rs.take at0) ++ o.2 ++ rvOf (rs.drop at0)))) := upd_same
    have u13 := (u1.trans u2).trans u3
    have b4D : b4 ≠ D7 := fun z => by rw [z, u13 _ _ f3] at hb4; cases hb4
    generalize upd Jc b4 (.lst (vrv (rvOf (rs.take at0) ++ o.2 ++ rvOf (rs.drop at0)))) = Jd at u4 w4 ⊢
    have u14 := u13.trans u4
    have sd := off_same (D := D7) u14
    refine k1 _ _ (u14 _ _ f3) ⟨as ++ [b4], by rw [List.map_append]; rfl, by rw [List.length_append, f2]; rfl, upd_same, by rw [off_upd]; exact f4.trans sd, fun a m => ?_⟩
    rw [off_upd]
    rcases List.mem_append.mp m with m | m
    · exact (f5 a m).same sd
    · rw [List.mem_singleton.mp m]
      exact bad_of co (fun q m => pin _ (kl q m)) ok (fun q m => ⟨pin _ (kr q m).1, pin _ (kr q m).2⟩) (by rw [List.length_append]; show p.length + 3 < 64; omega) (off_at w4 b4D) (gr15.same (f4.trans sd)) (jg.same sd)
  rintro D7 ys J16 hD7 ⟨as, rfl, f2, f3, f4, f5⟩
  rw [List.length_map] at f2
  exact q D7 as J16 (s15.trans (f4.trans (off_le _ _))) f3 (by omega) fun a m => (f5 a m).same (off_le _ _)
theorem ok_law_due (T : Tx K mg ad) : FnOk P w K mg base CX0 2 ad.f_law_due ad.d_law_due ["_law_sheet_here", "_law_rows"] spBehind := by
  refine T.F_law_due.ok sc_law_due (fun vs H Q E h => ?_) (fun cdv A outer s H vs Q E hr h => ?_)
  · obtain ⟨s0, c, ms, rs, p, rfl, _⟩ := h
    rfl
  obtain ⟨s0, c, ms, rs, p, rfl, hs, gm, m64, nd, hc, gr, ko, kl, kr, p64, q⟩ := h
  refine ⟨_, (@pss_cons _ _ _ _ _ (@ps_set _ _ (2) _ _ _ _ sc_law_due.nd rfl (Or.inl rfl) (@pe_callTy _ _ _ _ _ _ _ _ _ (call_dictP rfl hr.units) (by rfl) T.z_dict PyProof.Rows.boot_dict (@pa_cons _ _ _ _ _ (pv 0) pa_nil (by rfl)) (by decide) (by decide) (by rfl) (by rfl)) (by rfl) (by first | exact .inl rfl | exact .inr rfl | assumption)) (@pss_cons _ _ _ _ _ (ps_for PassesOwn.never rfl (pi_list (pv 1)) (pg_tup rfl (pgs_cons (pg_name (i := 3) sc_law_due.nd rfl (Or.inl rfl)) (pgs_cons (pg_name (i := 4) sc_law_due.nd rfl (Or.inl rfl)) (pgs_cons (pg_name (i := 5) sc_law_due.nd rfl (Or.inl rfl)) pgs_nil)))) (@pss_cons _ _ _ _ _ (ps_dput (u1 hr.units) (pv 2) (pv 3) (@pe_op _ _ _ _ _ _ _ _ op_sub (pe_dget (u1 hr.units) (pv 2) (pv 3) (fun _ _ => rfl)) (pv 5)) rfl) (@pss_one _ _ _ (ps_dput (u1 hr.units) (pv 2) (pv 4) (@pe_op _ _ _ _ _ _ _ _ op_add (pe_dget2 (u1 hr.units) (pv 2) (pv 4) pe_int ⟨rfl, rfl, rfl, rfl⟩) (pv 5)) rfl)))) (@pss_one _ _ _ (@ps_ret _ _ _ _ (@pe_call _ _ _ _ _ _ _ _ _ _ _ _ _ _ _ _ (ok_law_sheet T) (hr.mono (by decide)) rfl T.m_law_sheet T.F_law_sheet.kp T.b_law_sheet .nil pass0 (@pa_cons _ _ _ _ _ (pv 2) pa_nil (by rfl)) (by decide) (by rfl) (by rfl)))))), ?_⟩
  refine ⟨_, rfl, s0, prOf ms, rfl, by rw [prs_of]; exact hs, prOk_of gm, by unfold prOf; rw [List.length_map]; exact small1000 (by omega), fun d hd => ?_⟩
  have s1 := same_new hd (.dT (putAll [] (prOf ms)))
  have e1 : (upd H d (.dT (putAll [] (prOf ms)))) d = some (.dT (putAll [] (prOf ms))) := upd_same
  generalize upd H d (.dT (putAll [] (prOf ms))) = H1 at s1 e1 ⊢
  have dk := dict_of_sheet nd
  have hc1 := s1 _ _ hc
  refine ⟨_, rfl, c, rfl, ⟨_, SqL.of hc1⟩, for_list (xs := vrs rs) (fun i σ' H' => ∃ (v3 v4 v5 : Option V) (kvs : List (List Key × V)), σ' = [some (.ref s0), some (.ref c), some (.ref d), v3, v4, v5] ∧ Same H H' ∧ H' d = some (.dT kvs) ∧ DictOf (dsOf ms ++ mixR (rdOf (rs.take i))) kvs) ⟨none, none, none, _, rfl, s1, e1, by rw [List.take_zero]; show DictOf (dsOf ms ++ []) _; rw [List.append_nil]; exact dk⟩ (fun i σ' H' _ ⟨_, _, _, _, _, e, _⟩ => SqL.of (e _ _ hc)) ?_ ?_⟩
  · rintro i x σ' H' hx ⟨v3, v4, v5, kvs, rfl, s2, e2, dk⟩
    obtain ⟨f, hf, rfl, fm, et⟩ := vrs_get hx
    obtain ⟨g1, g2, g3⟩ := gr f fm
    have lim := dk.len (p := p) fun q m => (List.mem_append.mp m).elim (kl q) (keys_mix (keys_take kr i) q)
    have kt : H' f.2.1.1 = some (.tup ((f.2.1.2.map Sum.inl : List Key).map kV)) := by rw [kv_map]; exact s2 _ _ g2
    have dg := DGet.t e2 kt
    have fo : f.2.1.2 ∈ (dsOf ms).map (·.1) := ko (f.2.1.2, f.2.2.1.2, f.2.2.2) (List.mem_map.mpr ⟨f, fm, rfl⟩)
    rw [dk.val, if_pos (by rw [List.map_append]; exact List.mem_append_left _ fo)] at dg
    refine ⟨f.1, _, rfl, SqT.of (s2 _ _ g1), rfl, _, _, rfl, _, _, rfl, _, _, rfl, rfl, ?_⟩
    refine ⟨_, rfl, _, rfl, d, _, rfl, dg, _, rfl, _, _, rfl, rfl, _, rfl, _, rfl, d, _, rfl, DPut.t e2 kt (small1000 (by omega)), ?_⟩
    have dk2 := dk.put f.2.1.2 (-f.2.2.2)
    rw [← Int.sub_eq_add_neg] at dk2
    show (fun (σ' : St) (H' : Hp) => _) _ (upd H' d (.dT (putK kvs (f.2.1.2.map Sum.inl) (.int (tot (dsOf ms ++ mixR (rdOf (rs.take i))) f.2.1.2 - f.2.2.2)))))
    generalize (putK kvs (f.2.1.2.map Sum.inl : List Key) (.int (tot (dsOf ms ++ mixR (rdOf (rs.take i))) f.2.1.2 - f.2.2.2))) = kvs2 at dk2 ⊢
    have s3 : Same H (upd H' d (.dT kvs2)) := same_upd s2 hd
    have e3 : (upd H' d (.dT kvs2)) d = some (.dT kvs2) := upd_same
    generalize upd H' d (.dT kvs2) = J2 at s3 e3 ⊢
    have kt3 : J2 f.2.2.1.1 = some (.tup ((f.2.2.1.2.map Sum.inl : List Key).map kV)) := by rw [kv_map]; exact s3 _ _ g3
    have kf : f.2.1.2 ∈ p ∧ f.2.2.1.2 ∈ p := kr (f.2.1.2, f.2.2.1.2, f.2.2.2) (List.mem_map.mpr ⟨f, fm, rfl⟩)
    have lim2 := dk2.len (p := p) fun q m => (List.mem_append.mp m).elim (fun m => (List.mem_append.mp m).elim (kl q) (keys_mix (keys_take kr i) q)) fun m => by rw [List.mem_singleton.mp m]; exact kf.1
    refine ⟨_, rfl, d, rfl, .inr ⟨_, .inl e3⟩, _, rfl, _, DGet.t e3 kt3, ?_⟩
    rw [old_val dk2]
    refine ⟨_, rfl, _, _, rfl, rfl, _, rfl, _, rfl, d, _, rfl, DPut.t e3 kt3 (small1000 (by omega)), ?_⟩
    refine ⟨_, _, _, _, rfl, same_upd s3 hd, upd_same, ?_⟩
    rw [et, rdOf_append, mixR_app, ← List.append_assoc]
    have dk3 := dk2.put f.2.2.1.2 f.2.2.2
    rw [List.append_assoc] at dk3
    exact dk3
  rintro σ' H5 ⟨v3, v4, v5, kvs, rfl, s5, e5, dk⟩
  rw [vrs_len, List.take_of_length_le (Nat.le_refl _)] at dk
  have lim := dk.len (p := p) fun q m => (List.mem_append.mp m).elim (kl q) (keys_mix kr q)
  refine ⟨_, rfl, d, kvs, rfl, e5, dk.vd, by omega, fun l' ls' H6 hl' s6 e6 g6 srt mem l64 => ?_⟩
  exact q l' ls' H6 (none_of s5 hl') (s5.trans s6) e6 g6 ((dk.sheet' srt mem).of_tot fun ts => by rw [tot_append, tot_append, tot_append, tot_mix]; omega) l64
theorem ok_sheet_of (T : Tx K mg ad) : FnOk P w K mg base (CX1 P w) 3 ad.f_sheet_of ad.d_sheet_of ["lines"] (spSheetX K ad.c_NoSheet) := by
  refine T.F_sheet_of.okX sc_sheet_of (fun vs H Q E h => ?_) (fun cdv A outer s H vs Q E hr h => ?_)
  · rcases h with ⟨l, ls, p, rfl, _⟩ | ⟨l, ws, rfl, _⟩
    · rfl
    · rfl
  have say : 1 ≤ sizeLine := by decide
  rcases h with ⟨l, ls, p, rfl, hl, g, hp, p64, hn, q⟩ | ⟨l, ws, rfl, hl, g, bad, he⟩
  · refine ⟨_, (@pss_cons _ _ _ _ _ (ps_for (passW ⟨rfl, rfl, rfl⟩) rfl (pi_list (pv 0)) (pg_name (i := 1) sc_sheet_of.nd rfl (Or.inl rfl)) (@pss_one _ _ _ (@ps_if _ _ _ _ _ _ _ _ (@pt_not _ _ _ _ (@pt_val _ _ _ (@pe_call _ _ _ _ _ _ _ _ _ _ _ _ _ _ _ _ (ok_is_number T) (hr.mono (by decide)) rfl T.m_is_number T.F_is_number.kp T.b_is_number .nil pass0 (@pa_cons _ _ _ _ _ (@pe_ix _ _ _ _ _ _ _ ix_tup (pv 1) pe_int (fun _ _ => rfl)) pa_nil (by rfl)) (by decide) (by rfl) (by rfl)) (by intro _; rfl))) (@pss_one _ _ _ (ps_raise ⟨rfl, rfl, rfl⟩ rfl rfl T.m_NoSheet T.x_NoSheet (@pa_cons _ _ _ _ _ pe_str pa_nil (by rfl)))) pss_nil))) (@pss_one _ _ _ (@ps_ret _ _ _ _ (@pe_call _ _ _ _ _ _ _ _ _ _ _ _ _ _ _ _ (ok_sheet_from T) (hr.mono (by decide)) rfl T.m_sheet_from T.F_sheet_from.kp T.b_sheet_from .nil pass0 (@pa_cons _ _ _ _ _ (@pe_call _ _ _ _ _ _ _ _ _ _ _ _ _ _ _ _ (ok_numbers_by_slip T) (hr.mono (by decide)) rfl T.m_numbers_by_slip T.F_numbers_by_slip.kp T.b_numbers_by_slip .nil pass0 (@pa_cons _ _ _ _ _ (pv 0) pa_nil (by rfl)) (by decide) (by rfl) (by rfl)) pa_nil (by rfl)) (by decide) (by rfl) (by rfl))))), ?_⟩
    refine ⟨_, rfl, l, rfl, ⟨_, SqL.of hl⟩, for_list (xs := vls ls) (fun i σ' H' => ∃ v, σ' = [some (.ref l), v] ∧ H = H') ⟨none, rfl, rfl⟩ (fun i σ' H' _ ⟨_, _, e⟩ => by rw [← e]; exact SqL.of hl) ?_ ?_⟩
    · rintro i x σ' H' hx ⟨v, rfl, rfl⟩
      obtain ⟨f, hf, rfl, fm, et⟩ := vls_get hx
      obtain ⟨n0, n1⟩ := hn (f.2.2.1, f.2.2.2) (List.mem_map.mpr ⟨f, fm, rfl⟩)
      refine ⟨_, rfl, f.1, _, _, _, rfl, rfl, SqT.of (g f fm).1, rfl, _, rfl, .inr ⟨_, rfl⟩, ?_⟩
      rw [show okNum (.int f.2.2.2) = true from (by show (decide (1 ≤ f.2.2.2) && decide (f.2.2.2 ≤ 1000000000)) = true; rw [decide_eq_true n0, decide_eq_true n1]; rfl)]
      refine ⟨_, rfl, ?_⟩
      exact iteF ⟨_, rfl, rfl⟩
    · rintro σ' H' ⟨v, rfl, rfl⟩
      refine ⟨_, rfl, l, ls, p, rfl, hl, g, hp, p64, fun d kvs H1 hd s1 e1 dk => ?_⟩
      refine ⟨d, kvs, rfl, e1, dk.vd, Nat.lt_of_le_of_lt (dk.len hp) p64, fun l' ls' H2 hl' s2 e2 g2 srt mem l64 => ?_⟩
      exact q l' ls' H2 (none_of s1 hl') (s1.trans s2) e2 g2 (dk.sheet (fun q m => (hn q m).1) srt mem) l64
  · refine ⟨_, (@pss_cons _ _ _ _ _ (ps_for (passW ⟨rfl, rfl, rfl⟩) rfl (pi_list (pv 0)) (pg_name (i := 1) sc_sheet_of.nd rfl (Or.inl rfl)) (@pss_one _ _ _ (@ps_if _ _ _ _ _ _ _ _ (@pt_not _ _ _ _ (@pt_val _ _ _ (@pe_call _ _ _ _ _ _ _ _ _ _ _ _ _ _ _ _ (ok_is_number T) (hr.mono (by decide)) rfl T.m_is_number T.F_is_number.kp T.b_is_number .nil pass0 (@pa_cons _ _ _ _ _ (@pe_ix _ _ _ _ _ _ _ ix_tup (pv 1) pe_int (fun _ _ => rfl)) pa_nil (by rfl)) (by decide) (by rfl) (by rfl)) (by intro _; rfl))) (@pss_one _ _ _ (ps_raise ⟨rfl, rfl, rfl⟩ rfl rfl T.m_NoSheet T.x_NoSheet (@pa_cons _ _ _ _ _ pe_str pa_nil (by rfl)))) pss_nil))) (@pss_one _ _ _ (@ps_ret _ _ _ _ (@pe_call _ _ _ _ _ _ _ _ _ _ _ _ _ _ _ _ (ok_sheet_from T) (hr.mono (by decide)) rfl T.m_sheet_from T.F_sheet_from.kp T.b_sheet_from .nil pass0 (@pa_cons _ _ _ _ _ (@pe_call _ _ _ _ _ _ _ _ _ _ _ _ _ _ _ _ (ok_numbers_by_slip T) (hr.mono (by decide)) rfl T.m_numbers_by_slip T.F_numbers_by_slip.kp T.b_numbers_by_slip .nil pass0 (@pa_cons _ _ _ _ _ (pv 0) pa_nil (by rfl)) (by decide) (by rfl) (by rfl)) pa_nil (by rfl)) (by decide) (by rfl) (by rfl))))), ?_⟩
    refine ⟨_, rfl, l, rfl, ⟨_, SqL.of hl⟩, for_list (xs := vws ws) (fun i σ' H' => ∃ v, σ' = [some (.ref l), v] ∧ H = H' ∧ ∀ q ∈ ws.take i, okNum q.2.2.2 = true) ⟨none, rfl, rfl, (fun q m => nomatch m)⟩ (fun i σ' H' _ ⟨_, _, e, _⟩ => by rw [← e]; exact SqL.of hl) ?_ ?_⟩
    · rintro i x σ' H' hx ⟨v, rfl, rfl, all⟩
      obtain ⟨f, rfl, fm, et⟩ := vws_get hx
      obtain ⟨g1, g2, g3⟩ := g f fm
      refine ⟨_, rfl, f.1, _, _, _, rfl, rfl, SqT.of g1, rfl, _, rfl, g3, ?_⟩
      refine ⟨_, rfl, ?_⟩
      cases c : okNum f.2.2.2 with
      | true =>
        refine iteF ⟨_, rfl, rfl, fun q m => ?_⟩
        rw [et] at m
        rcases List.mem_append.mp m with m | m
        · exact all q m
        · rw [List.mem_singleton.mp m]; exact c
      | false => exact iteT ⟨say, he H fun _ _ e => e⟩
    · rintro σ' H' ⟨v, rfl, rfl, all⟩
      obtain ⟨q0, qm, qf⟩ := bad
      rw [show (vws ws).length = ws.length from List.length_map .., List.take_of_length_le (Nat.le_refl _)] at all
      rw [all q0 qm] at qf
      cases qf
theorem ok_changed (T : Tx K mg ad) : FnOk P w K mg base (CX1 P w) 3 ad.f_changed ad.d_changed ["sheet", "change"] (spChangedX K ad.c_NoChange) := by
  refine T.F_changed.okX sc_changed (fun vs H Q E h => ?_) (fun cdv A outer s H vs Q E hr h => ?_)
  · obtain ⟨l, c, ls, rfl, _⟩ := h
    rfl
  obtain ⟨l, c, ls, rfl, hl, gl, hh⟩ := h
  have say : 1 ≤ sizeLine := by decide
  have me : Same H H := fun _ _ e => e
  refine ⟨_, (@pss_cons _ _ _ _ _ (ps_for (passW ⟨rfl, rfl, rfl⟩) rfl (pi_list (pv 1)) (pg_tup rfl (pgs_cons (pg_name (i := 2) sc_changed.nd rfl (Or.inl rfl)) (pgs_cons (pg_name (i := 3) sc_changed.nd rfl (Or.inl rfl)) (pgs_cons (pg_name (i := 4) sc_changed.nd rfl (Or.inl rfl)) pgs_nil)))) (@pss_one _ _ _ (@ps_expr _ _ _ _ (@pe_callW _ _ _ _ _ _ _ _ _ _ _ _ _ _ _ ⟨rfl, rfl, rfl⟩ (ok_check_row T) (hr.mono (by decide)) rfl T.m_check_row T.F_check_row.kp T.b_check_row .nil (@pa_cons _ _ _ _ _ (pv 2) (@pa_cons _ _ _ _ _ (pv 3) (@pa_cons _ _ _ _ _ (pv 4) pa_nil (by rfl)) (by rfl)) (by rfl)) (by decide) (by rfl) (by rfl)) (by rfl)))) (@pss_cons _ _ _ _ _ (@ps_set _ _ (5) _ _ _ _ sc_changed.nd rfl (Or.inl rfl) (@pe_call _ _ _ _ _ _ _ _ _ _ _ _ _ _ _ _ (ok_numbers_by_slip T) (hr.mono (by decide)) rfl T.m_numbers_by_slip T.F_numbers_by_slip.kp T.b_numbers_by_slip .nil pass0 (@pa_cons _ _ _ _ _ (pv 0) pa_nil (by rfl)) (by decide) (by rfl) (by rfl)) (by rfl) (by first | exact .inl rfl | exact .inr rfl | assumption)) (@pss_cons _ _ _ _ _ (ps_for (passW ⟨rfl, rfl, rfl⟩) rfl (pi_list (pv 1)) (pg_tup rfl (pgs_cons (pg_name (i := 2) sc_changed.nd rfl (Or.inl rfl)) (pgs_cons (pg_name (i := 3) sc_changed.nd rfl (Or.inl rfl)) (pgs_cons (pg_name (i := 4) sc_changed.nd rfl (Or.inl rfl)) pgs_nil)))) (@pss_one _ _ _ (ps_dput (u1 hr.units) (pv 5) (pv 2) (@pe_op _ _ _ _ _ _ _ _ op_sub (pe_dget2 (u1 hr.units) (pv 5) (pv 2) pe_int ⟨rfl, rfl, rfl, rfl⟩) (pv 4)) rfl))) (@pss_cons _ _ _ _ _ (@ps_if _ _ _ _ _ _ _ _ (@pt_val _ _ _ (@pe_callB _ _ _ _ _ _ _ _ _ (call_any rfl) (by rfl) T.z_any PyProof.Rows.boot_any (@pa_cons _ _ _ _ _ (pe_thaw (pe_comp (fsc := defScope s_changed) (N := ["sheet", "change", "old", "new", "number", "left"]) (Nc := ["sheet", "change", "old", "new", ".s4", "left", "number"]) rfl rfl ⟨rfl, by decide +kernel, by decide +kernel, rfl, by decide +kernel, rfl, by decide +kernel, rfl, by decide +kernel⟩ rfl (pi_vals (pe_bm0 PySem.F.plainAttrs_dict PySem.F.slot_dict_values PySem.F.type_dict_values mt_values (pv 5))) (fun _ _ _ _ => pif_nil) (fun _ _ _ _ => (@pe_cmpR _ _ _ _ _ _ _ _ op_lt (pv 6) pe_int (nomark _))))) pa_nil (by rfl)) (by decide) (by decide) (by rfl) (by rfl)) (by intro _; rfl)) (@pss_one _ _ _ (ps_raise ⟨rfl, rfl, rfl⟩ rfl rfl T.m_NoChange T.x_NoChange (@pa_cons _ _ _ _ _ pe_str pa_nil (by rfl)))) pss_nil) (@pss_cons _ _ _ _ _ (ps_for (passW ⟨rfl, rfl, rfl⟩) rfl (pi_list (pv 1)) (pg_tup rfl (pgs_cons (pg_name (i := 2) sc_changed.nd rfl (Or.inl rfl)) (pgs_cons (pg_name (i := 3) sc_changed.nd rfl (Or.inl rfl)) (pgs_cons (pg_name (i := 4) sc_changed.nd rfl (Or.inl rfl)) pgs_nil)))) (@pss_one _ _ _ (ps_dput (u1 hr.units) (pv 5) (pv 3) (@pe_op _ _ _ _ _ _ _ _ op_add (pe_dget2 (u1 hr.units) (pv 5) (pv 3) pe_int ⟨rfl, rfl, rfl, rfl⟩) (pv 4)) rfl))) (@pss_one _ _ _ (@ps_ret _ _ _ _ (@pe_call _ _ _ _ _ _ _ _ _ _ _ _ _ _ _ _ (ok_sheet_from T) (hr.mono (by decide)) rfl T.m_sheet_from T.F_sheet_from.kp T.b_sheet_from .nil pass0 (@pa_cons _ _ _ _ _ (pv 5) pa_nil (by rfl)) (by decide) (by rfl) (by rfl))))))))), ?_⟩
  rcases hh with ⟨rs, p, hc, gr, ok, kl, kr, p64, nn, q⟩ | ⟨rv, hc, gv, bad, he⟩ | ⟨rs, p, hc, gr, ok, kl, kr, p64, ng, he⟩
  · refine ⟨_, rfl, c, rfl, ⟨_, SqL.of hc⟩, for_list (xs := vrs rs) (fun i σ' H' => ∃ v2 v3 v4, σ' = [some (.ref l), some (.ref c), v2, v3, v4, none] ∧ H = H') ⟨none, none, none, rfl, rfl⟩ (fun i σ' H' _ ⟨_, _, _, _, e⟩ => by rw [← e]; exact SqL.of hc) ?_ ?_⟩
    · rintro i x σ' H' hx ⟨v2, v3, v4, rfl, rfl⟩
      obtain ⟨f, hf, rfl, fm, et⟩ := vrs_get hx
      obtain ⟨g1, g2, g3⟩ := gr f fm
      obtain ⟨o1, o2⟩ := ok _ (mem_rd fm)
      refine ⟨f.1, _, rfl, SqT.of g1, rfl, _, _, rfl, _, _, rfl, _, _, rfl, rfl, ?_⟩
      have okr : okRow f.2.1.2 f.2.2.1.2 (.int f.2.2.2) = true := by show (decide (1 ≤ f.2.2.2) && !decide (f.2.1.2 = f.2.2.1.2)) = true; rw [decide_eq_true (show 1 ≤ f.2.2.2 from o2), decide_eq_false (show ¬ f.2.1.2 = f.2.2.1.2 from o1)]; rfl
      refine ⟨_, rfl, _, rfl, _, rfl, f.2.1.1, f.2.2.1.1, f.2.1.2, f.2.2.1.2, .int f.2.2.2, rfl, g2, g3, .inr ⟨_, rfl⟩, (fun _ => ?_), (fun z => by rw [okr] at z; cases z)⟩
      exact ⟨_, _, _, rfl, rfl⟩
    rintro σ' H' ⟨v2, v3, v4, rfl, rfl⟩
    refine ⟨_, rfl, l, ls, p, rfl, hl, gl, kl, p64, fun d kvs H1 hd s1 e1 dk => ?_⟩
    have hc1 := s1 _ _ hc
    refine ⟨_, rfl, c, rfl, ⟨_, SqL.of hc1⟩, for_list (xs := vrs rs) (fun i σ' H' => ∃ (v2 v3 v4 : Option V) (kvs : List (List Key × V)), σ' = [some (.ref l), some (.ref c), v2, v3, v4, some (.ref d)] ∧ Same H H' ∧ H' d = some (.dT kvs) ∧ DictOf (dsOf ls ++ negs (rdOf (rs.take i))) kvs) ⟨_, _, _, kvs, rfl, s1, e1, by rw [List.take_zero]; show DictOf (dsOf ls ++ []) kvs; rw [List.append_nil]; exact dk⟩ (fun i σ' H' _ ⟨_, _, _, _, _, e, _⟩ => SqL.of (e _ _ hc)) ?_ ?_⟩
    · rintro i x σ' H' hx ⟨v2, v3, v4, kvs, rfl, s2, e2, dk⟩
      obtain ⟨f, hf, rfl, fm, et⟩ := vrs_get hx
      obtain ⟨g1, g2, g3⟩ := gr f fm
      have lim := dk.len (p := p) fun q m => (List.mem_append.mp m).elim (kl q) (keys_negs (keys_take kr i) q)
      have kt : H' f.2.1.1 = some (.tup ((f.2.1.2.map Sum.inl : List Key).map kV)) := by rw [kv_map]; exact s2 _ _ g2
      refine ⟨f.1, _, rfl, SqT.of (s2 _ _ g1), rfl, _, _, rfl, _, _, rfl, _, _, rfl, rfl, ?_⟩
      refine ⟨_, rfl, d, rfl, .inr ⟨_, .inl e2⟩, _, rfl, _, DGet.t e2 kt, ?_⟩
      rw [old_val dk]
      refine ⟨_, rfl, _, _, rfl, rfl, _, rfl, _, rfl, d, _, rfl, DPut.t e2 kt (small1000 (by omega)), ?_⟩
      refine ⟨_, _, _, _, rfl, same_upd s2 hd, upd_same, ?_⟩
      rw [et, rdOf_append, negs_append, ← List.append_assoc]
      have := dk.put f.2.1.2 (-f.2.2.2)
      rw [← Int.sub_eq_add_neg] at this
      exact this
    rintro σ' H2 ⟨v2, v3, v4, kvs, rfl, s2, e2, dk⟩
    rw [vrs_len, List.take_of_length_le (Nat.le_refl _)] at dk
    have lim := dk.len (p := p) fun q m => (List.mem_append.mp m).elim (kl q) (keys_negs kr q)
    refine ⟨_, rfl, .inr (.inr (.inl ⟨rfl, .inr ⟨_, e2⟩⟩)), d, kvs, rfl, rfl, e2, fun v hv => ?_⟩
    have s3 := same_new hv (hoW v d)
    have ev : (upd H2 v (hoW v d)) v = some (hoW v d) := upd_same
    generalize upd H2 v (hoW v d) = H3 at s3 ev ⊢
    have e3 := s3 _ _ e2
    refine ⟨v, d, kvs, rfl, ev, e3, fun ob fr => ?_⟩
    refine comp_vals (d := d) (ob := ob) (kvs := kvs) (small63 (by omega)) (fun D i ys H' => ys = (List.replicate i false).map V.bl ∧ H' = upd (upd H3 d (hoF d ob)) D (.lst ys)) (fun D hD => ⟨rfl, rfl⟩) (fun D i ys H' ⟨f1, f2⟩ => ⟨by rw [f2]; exact upd_same, by rw [f1, List.length_map, List.length_replicate]; exact Nat.le_refl _⟩) (fun D i ys H' hD ⟨_, f2⟩ => by
      rw [f2, upd_ne (fun z => by rw [z, upd_same] at hD; cases hD), upd_same]) ?_ ?_
    · rintro D i x ys H' K1 K2 hD hx ⟨f1, rfl⟩ k1 k2
      obtain ⟨ts, rfl⟩ := dk.at hx
      have n0 := nn ts
      refine yes (ifT rfl ?_)
      and_intros
      refine k1 _ _ upd_same ⟨?_, by rw [upd_upd]⟩
      have dn : decide (tot (dsOf ls ++ negs (rdOf rs)) ts < 0) = false := decide_eq_false (by omega)
      rw [f1, List.replicate_succ', List.map_append]
      show _ ++ [V.bl (decide (tot (dsOf ls ++ negs (rdOf rs)) ts < 0))] = _ ++ [V.bl false]
      rw [dn]
    rintro D ys H' hD ⟨rfl, rfl⟩
    have dD : d ≠ D := fun z => by rw [z, upd_same] at hD; cases hD
    refine ⟨d, ob, kvs, H3, by rw [upd_ne dD, upd_same], fr, fun b xs e => ?_, ?_⟩
    · have bd : b ≠ d := fun z => by rw [z, e3] at e; cases e
      have bD : b ≠ D := fun z => by
        rw [upd_ne (Ne.symm dD)] at hD
        rw [z, hD] at e
        cases e
      rw [upd_ne bD, upd_ne bd]
      exact e
    have hDH : H D = none := none_of (s2.trans s3) (by rw [upd_ne (Ne.symm dD)] at hD; exact hD)
    have s4 : Same H (upd (upd (upd H3 d (hoF d ob)) D (.lst ((List.replicate kvs.length false).map V.bl))) d (.dT kvs)) := same_upd (same_upd (same_upd (s2.trans s3) hd) hDH) hd
    have e4 : (upd (upd (upd H3 d (hoF d ob)) D (.lst ((List.replicate kvs.length false).map V.bl))) d (.dT kvs)) d = some (.dT kvs) := upd_same
    have eD : (upd (upd (upd H3 d (hoF d ob)) D (.lst ((List.replicate kvs.length false).map V.bl))) d (.dT kvs)) D = some (.lst ((List.replicate kvs.length false).map V.bl)) := by rw [upd_ne (Ne.symm dD), upd_same]
    generalize upd (upd (upd H3 d (hoF d ob)) D (.lst ((List.replicate kvs.length false).map V.bl))) d (.dT kvs) = H4 at s4 e4 eD ⊢
    refine ⟨D, _, rfl, SqL.of eD, ?_⟩
    rw [show (List.replicate kvs.length false).any id = false from Bool.eq_false_iff.mpr fun z => by
      obtain ⟨b, bm, e⟩ := List.any_eq_true.mp z
      rw [(List.mem_replicate.mp bm).2] at e
      cases e]
    refine ⟨_, rfl, ?_⟩
    refine iteF ?_
    refine ⟨_, rfl, c, rfl, ⟨_, SqL.of (s4 _ _ hc)⟩, for_list (xs := vrs rs) (fun i σ' H' => ∃ (v2 v3 v4 : Option V) (kvs : List (List Key × V)), σ' = [some (.ref l), some (.ref c), v2, v3, v4, some (.ref d)] ∧ Same H H' ∧ H' d = some (.dT kvs) ∧ DictOf (dsOf ls ++ negs (rdOf rs) ++ poss (rdOf (rs.take i))) kvs) ⟨_, _, _, kvs, rfl, s4, e4, by rw [List.take_zero]; show DictOf (dsOf ls ++ negs (rdOf rs) ++ []) kvs; rw [List.append_nil]; exact dk⟩ (fun i σ' H' _ ⟨_, _, _, _, _, e, _⟩ => SqL.of (e _ _ hc)) ?_ ?_⟩
    · rintro i x σ' H' hx ⟨v2, v3, v4, kvs, rfl, s2, e2, dk⟩
      obtain ⟨f, hf, rfl, fm, et⟩ := vrs_get hx
      obtain ⟨g1, g2, g3⟩ := gr f fm
      have lim := dk.len (p := p) fun q m => (List.mem_append.mp m).elim (fun m => (List.mem_append.mp m).elim (kl q) (keys_negs kr q)) (keys_poss (keys_take kr i) q)
      have kt : H' f.2.2.1.1 = some (.tup ((f.2.2.1.2.map Sum.inl : List Key).map kV)) := by rw [kv_map]; exact s2 _ _ g3
      refine ⟨f.1, _, rfl, SqT.of (s2 _ _ g1), rfl, _, _, rfl, _, _, rfl, _, _, rfl, rfl, ?_⟩
      refine ⟨_, rfl, d, rfl, .inr ⟨_, .inl e2⟩, _, rfl, _, DGet.t e2 kt, ?_⟩
      rw [old_val dk]
      refine ⟨_, rfl, _, _, rfl, rfl, _, rfl, _, rfl, d, _, rfl, DPut.t e2 kt (small1000 (by omega)), ?_⟩
      refine ⟨_, _, _, _, rfl, same_upd s2 hd, upd_same, ?_⟩
      rw [et, rdOf_append, poss_append, ← List.append_assoc]
      exact dk.put f.2.2.1.2 f.2.2.2
    rintro σ' H5 ⟨v2, v3, v4, kvs, rfl, s5, e5, dk⟩
    rw [vrs_len, List.take_of_length_le (Nat.le_refl _)] at dk
    have lim := dk.len (p := p) fun q m => (List.mem_append.mp m).elim (fun m => (List.mem_append.mp m).elim (kl q) (keys_negs kr q)) (keys_poss kr q)
    refine ⟨_, rfl, d, kvs, rfl, e5, dk.vd, by omega, fun l' ls' H6 hl' s6 e6 g6 srt mem l64 => ?_⟩
    exact q l' ls' H6 (none_of s5 hl') (s5.trans s6) e6 g6 (dk.sheet' srt mem) l64
  · refine ⟨_, rfl, c, rfl, ⟨_, SqL.of hc⟩, for_list (xs := vrv rv) (fun i σ' H' => ∃ v2 v3 v4, σ' = [some (.ref l), some (.ref c), v2, v3, v4, none] ∧ H = H' ∧ ∀ q ∈ rv.take i, okRow q.2.1.2 q.2.2.1.2 q.2.2.2 = true) ⟨none, none, none, rfl, rfl, (fun _ m => nomatch m)⟩ (fun i σ' H' _ ⟨_, _, _, _, e, _⟩ => by rw [← e]; exact SqL.of hc) ?_ ?_⟩
    · rintro i x σ' H' hx ⟨v2, v3, v4, rfl, rfl, all⟩
      obtain ⟨f, rfl, fm, et⟩ := vrv_get hx
      obtain ⟨g1, g2, g3, g4⟩ := gv f fm
      refine ⟨f.1, _, rfl, SqT.of g1, rfl, _, _, rfl, _, _, rfl, _, _, rfl, rfl, ?_⟩
      refine ⟨_, rfl, _, rfl, _, rfl, f.2.1.1, f.2.2.1.1, f.2.1.2, f.2.2.1.2, f.2.2.2, rfl, g2, g3, g4, (fun z => ?_), fun _ => he⟩
      refine ⟨_, _, _, rfl, rfl, fun q m => ?_⟩
      rw [et] at m
      rcases List.mem_append.mp m with m | m
      · exact all q m
      · rw [List.mem_singleton.mp m]; exact z
    · rintro σ' H' ⟨v2, v3, v4, rfl, rfl, all⟩
      obtain ⟨q0, qm, qf⟩ := bad
      rw [show (vrv rv).length = rv.length from List.length_map .., List.take_of_length_le (Nat.le_refl _)] at all
      rw [all q0 qm] at qf
      cases qf
  · refine ⟨_, rfl, c, rfl, ⟨_, SqL.of hc⟩, for_list (xs := vrs rs) (fun i σ' H' => ∃ v2 v3 v4, σ' = [some (.ref l), some (.ref c), v2, v3, v4, none] ∧ H = H') ⟨none, none, none, rfl, rfl⟩ (fun i σ' H' _ ⟨_, _, _, _, e⟩ => by rw [← e]; exact SqL.of hc) ?_ ?_⟩
    · rintro i x σ' H' hx ⟨v2, v3, v4, rfl, rfl⟩
      obtain ⟨f, hf, rfl, fm, et⟩ := vrs_get hx
      obtain ⟨g1, g2, g3⟩ := gr f fm
      obtain ⟨o1, o2⟩ := ok _ (mem_rd fm)
      refine ⟨f.1, _, rfl, SqT.of g1, rfl, _, _, rfl, _, _, rfl, _, _, rfl, rfl, ?_⟩
      have okr : okRow f.2.1.2 f.2.2.1.2 (.int f.2.2.2) = true := by show (decide (1 ≤ f.2.2.2) && !decide (f.2.1.2 = f.2.2.1.2)) = true; rw [decide_eq_true (show 1 ≤ f.2.2.2 from o2), decide_eq_false (show ¬ f.2.1.2 = f.2.2.1.2 from o1)]; rfl
      refine ⟨_, rfl, _, rfl, _, rfl, f.2.1.1, f.2.2.1.1, f.2.1.2, f.2.2.1.2, .int f.2.2.2, rfl, g2, g3, .inr ⟨_, rfl⟩, (fun _ => ?_), (fun z => by rw [okr] at z; cases z)⟩
      exact ⟨_, _, _, rfl, rfl⟩
    rintro σ' H' ⟨v2, v3, v4, rfl, rfl⟩
    refine ⟨_, rfl, l, ls, p, rfl, hl, gl, kl, p64, fun d kvs H1 hd s1 e1 dk => ?_⟩
    have hc1 := s1 _ _ hc
    refine ⟨_, rfl, c, rfl, ⟨_, SqL.of hc1⟩, for_list (xs := vrs rs) (fun i σ' H' => ∃ (v2 v3 v4 : Option V) (kvs : List (List Key × V)), σ' = [some (.ref l), some (.ref c), v2, v3, v4, some (.ref d)] ∧ Same H H' ∧ H' d = some (.dT kvs) ∧ DictOf (dsOf ls ++ negs (rdOf (rs.take i))) kvs) ⟨_, _, _, kvs, rfl, s1, e1, by rw [List.take_zero]; show DictOf (dsOf ls ++ []) kvs; rw [List.append_nil]; exact dk⟩ (fun i σ' H' _ ⟨_, _, _, _, _, e, _⟩ => SqL.of (e _ _ hc)) ?_ ?_⟩
    · rintro i x σ' H' hx ⟨v2, v3, v4, kvs, rfl, s2, e2, dk⟩
      obtain ⟨f, hf, rfl, fm, et⟩ := vrs_get hx
      obtain ⟨g1, g2, g3⟩ := gr f fm
      have lim := dk.len (p := p) fun q m => (List.mem_append.mp m).elim (kl q) (keys_negs (keys_take kr i) q)
      have kt : H' f.2.1.1 = some (.tup ((f.2.1.2.map Sum.inl : List Key).map kV)) := by rw [kv_map]; exact s2 _ _ g2
      refine ⟨f.1, _, rfl, SqT.of (s2 _ _ g1), rfl, _, _, rfl, _, _, rfl, _, _, rfl, rfl, ?_⟩
      refine ⟨_, rfl, d, rfl, .inr ⟨_, .inl e2⟩, _, rfl, _, DGet.t e2 kt, ?_⟩
      rw [old_val dk]
      refine ⟨_, rfl, _, _, rfl, rfl, _, rfl, _, rfl, d, _, rfl, DPut.t e2 kt (small1000 (by omega)), ?_⟩
      refine ⟨_, _, _, _, rfl, same_upd s2 hd, upd_same, ?_⟩
      rw [et, rdOf_append, negs_append, ← List.append_assoc]
      have := dk.put f.2.1.2 (-f.2.2.2)
      rw [← Int.sub_eq_add_neg] at this
      exact this
    rintro σ' H2 ⟨v2, v3, v4, kvs, rfl, s2, e2, dk⟩
    rw [vrs_len, List.take_of_length_le (Nat.le_refl _)] at dk
    have lim := dk.len (p := p) fun q m => (List.mem_append.mp m).elim (kl q) (keys_negs kr q)
    refine ⟨_, rfl, .inr (.inr (.inl ⟨rfl, .inr ⟨_, e2⟩⟩)), d, kvs, rfl, rfl, e2, fun v hv => ?_⟩
    have s3 := same_new hv (hoW v d)
    have ev : (upd H2 v (hoW v d)) v = some (hoW v d) := upd_same
    generalize upd H2 v (hoW v d) = H3 at s3 ev ⊢
    have e3 := s3 _ _ e2
    refine ⟨v, d, kvs, rfl, ev, e3, fun ob fr => ?_⟩
    refine comp_vals (d := d) (ob := ob) (kvs := kvs) (small63 (by omega)) (fun D i ys H' => ys = ((kvs.take i).map fun kv => negV kv.2).map V.bl ∧ H' = upd (upd H3 d (hoF d ob)) D (.lst ys)) (fun D hD => ⟨rfl, rfl⟩) (fun D i ys H' ⟨f1, f2⟩ => ⟨by rw [f2]; exact upd_same, by rw [f1, List.length_map, List.length_map]; exact List.length_take_le _ _⟩) (fun D i ys H' hD ⟨_, f2⟩ => by
      rw [f2, upd_ne (fun z => by rw [z, upd_same] at hD; cases hD), upd_same]) ?_ ?_
    · rintro D i x ys H' K1 K2 hD hx ⟨f1, rfl⟩ k1 k2
      obtain ⟨kv, hkv, ekv⟩ := Option.map_eq_some_iff.mp hx
      obtain ⟨ts, rfl⟩ := dk.at hx
      have et : kvs.take (i + 1) = kvs.take i ++ [kv] := by rw [List.take_succ, hkv]; rfl
      refine yes (ifT rfl ?_)
      and_intros
      refine k1 _ _ upd_same ⟨?_, by rw [upd_upd]⟩
      rw [f1, et, List.map_append, List.map_append]
      refine congrArg _ ?_
      show _ = [V.bl (negV kv.2)]
      rw [ekv]
      rfl
    rintro D ys H' hD ⟨rfl, rfl⟩
    rw [List.take_of_length_le (Nat.le_refl _)]
    have dD : d ≠ D := fun z => by rw [z, upd_same] at hD; cases hD
    refine ⟨d, ob, kvs, H3, by rw [upd_ne dD, upd_same], fr, fun b xs e => ?_, ?_⟩
    · have bd : b ≠ d := fun z => by rw [z, e3] at e; cases e
      have bD : b ≠ D := fun z => by
        rw [upd_ne (Ne.symm dD)] at hD
        rw [z, hD] at e
        cases e
      rw [upd_ne bD, upd_ne bd]
      exact e
    have hDH : H D = none := none_of (s2.trans s3) (by rw [upd_ne (Ne.symm dD)] at hD; exact hD)
    have s4 : Same H (upd (upd (upd H3 d (hoF d ob)) D (.lst ((kvs.map fun kv => negV kv.2).map V.bl))) d (.dT kvs)) := same_upd (same_upd (same_upd (s2.trans s3) hd) hDH) hd
    have eD : (upd (upd (upd H3 d (hoF d ob)) D (.lst ((kvs.map fun kv => negV kv.2).map V.bl))) d (.dT kvs)) D = some (.lst ((kvs.map fun kv => negV kv.2).map V.bl)) := by rw [upd_ne (Ne.symm dD), upd_same]
    generalize upd (upd (upd H3 d (hoF d ob)) D (.lst ((kvs.map fun kv => negV kv.2).map V.bl))) d (.dT kvs) = H4 at s4 eD ⊢
    refine ⟨D, _, rfl, SqL.of eD, ?_⟩
    rw [show (kvs.map fun kv => negV kv.2).any id = true from by
      obtain ⟨ts, neg⟩ := ng
      have tin : ts ∈ (dsOf ls ++ negs (rdOf rs)).map (·.1) := Classical.byContradiction fun z => by rw [tot_out z] at neg; omega
      have v := dk.val ts
      rw [if_pos tin] at v
      obtain ⟨kv, km, ke⟩ := valV_mem v
      exact List.any_eq_true.mpr ⟨negV kv.2, List.mem_map.mpr ⟨kv, km, rfl⟩, by rw [ke]; exact decide_eq_true neg⟩]
    refine ⟨_, rfl, ?_⟩
    exact iteT ⟨say, he _ s4⟩
theorem ok_law_no_sheet (T : Tx K mg ad) : FnOk P w K mg base CX0 4 ad.f_law_no_sheet ad.d_law_no_sheet ["_law_lines_here"] (spNoSheet K) := by
  refine T.F_law_no_sheet.ok sc_law_no_sheet (fun vs H Q E h => ?_) (fun cdv A outer s H vs Q E hr h => ?_)
  · obtain ⟨l, ws, rfl, _⟩ := h
    rfl
  obtain ⟨l, ws, rfl, hl, g, bad, q⟩ := h
  refine ⟨_, (@pss_cons _ _ _ _ _ (@ps_set _ _ (1) _ _ _ _ sc_law_no_sheet.nd rfl (Or.inl rfl) pe_bl (by rfl) (by first | exact .inl rfl | exact .inr rfl | assumption)) (@pss_cons _ _ _ _ _ (ps_try ⟨rfl, rfl, rfl⟩ (fun _ _ => (@pss_one _ _ _ (@ps_expr _ _ _ _ (@pe_callW _ _ _ _ _ _ _ _ _ _ _ _ _ _ _ ⟨rfl, rfl, rfl⟩ (ok_sheet_of T) (hr.mono (by decide)) rfl T.m_sheet_of T.F_sheet_of.kp T.b_sheet_of .nil (@pa_cons _ _ _ _ _ (pv 0) pa_nil (by rfl)) (by decide) (by rfl) (by rfl)) (by rfl)))) (ph_as (i := 2) ⟨rfl, rfl, rfl⟩ T.h_PollError rfl T.m_PollError sc_law_no_sheet.nd rfl rfl (fun _ => (@pss_cons _ _ _ _ _ (@ps_set _ _ (1) _ _ _ _ sc_law_no_sheet.nd rfl (Or.inl rfl) (@pe_and _ _ _ _ _ _ _ (@pe_callB _ _ _ _ _ _ _ _ _ (call_isx (K := K)) (by rfl) T.z_isinstance PyProof.Rows.boot_isinstance (@pa_cons _ _ _ _ _ (pv 2) (@pa_cons _ _ _ _ _ (pe_glob (v := .ref ad.c_NoSheet) rfl T.m_NoSheet rfl) pa_nil (by rfl)) (by rfl)) (by decide) (by decide) (by rfl) (by rfl)) (@pe_and _ _ _ _ _ _ _ (@pe_callB _ _ _ _ _ _ _ _ _ (call_isx (K := K)) (by rfl) T.z_isinstance PyProof.Rows.boot_isinstance (@pa_cons _ _ _ _ _ (pv 2) (@pa_cons _ _ _ _ _ (pe_bltn (v := .ty "ValueError") rfl T.z_ValueError PyProof.Rows.Boot.«ValueError» rfl) pa_nil (by rfl)) (by rfl)) (by decide) (by decide) (by rfl) (by rfl)) (@pe_one _ _ _ _ _ (@pe_not _ _ _ _ (@pe_callB _ _ _ _ _ _ _ _ _ (call_isx (K := K)) (by rfl) T.z_isinstance PyProof.Rows.boot_isinstance (@pa_cons _ _ _ _ _ (pv 2) (@pa_cons _ _ _ _ _ (pe_glob (v := .ref ad.c_NoChange) rfl T.m_NoChange rfl) pa_nil (by rfl)) (by rfl)) (by decide) (by decide) (by rfl) (by rfl)))))) (by rfl) (by first | exact .inl rfl | exact .inr rfl | assumption)) (@pss_one _ _ _ (@ps_set _ _ (1) _ _ _ _ sc_law_no_sheet.nd rfl (Or.inl rfl) (@pe_and _ _ _ _ _ _ _ (pv 1) (@pe_one _ _ _ _ _ (@pe_not _ _ _ _ (pe_callH (ok_law_other T) (RoomH.mark (hr.toH (by decide)) _) rfl T.m_law_other T.F_law_other.kp T.b_law_other (@pa_cons _ _ _ _ _ (pv 2) pa_nil (by rfl)))))) (by rfl) (by first | exact .inl rfl | exact .inr rfl | assumption))))) ph_never)) (@pss_one _ _ _ (@ps_ret _ _ _ _ (pv 1))))), ?_⟩
  have kit : ∀ {B : Addr} {b : Bool}, HCls K B → PySem.W.subIn K (.ref ad.c_NoSheet) (.ref B) = some b → PySem.W.kitOne K (.ref ad.c_NoSheet) (.ref B) = some b := fun c h => kit_cc c h T.s_NoSheet_NoSheet
  refine ⟨_, rfl, .inr ⟨l, ws, rfl, hl, g, bad, fun H2 s2 => ?_⟩⟩
  refine ⟨true, T.s_NoSheet_PollError, ?_⟩
  rw [if_pos rfl]
  intro e he
  have se : Same H2 (upd H2 e (hoX e (.ref ad.c_NoSheet) none)) := same_new he _
  have ee : (upd H2 e (hoX e (.ref ad.c_NoSheet) none)) e = some (hoX e (.ref ad.c_NoSheet) none) := upd_same
  generalize upd H2 e (hoX e (.ref ad.c_NoSheet) none) = H3 at se ee ⊢
  have s3 := s2.trans se
  refine ⟨_, rfl, e, ad.c_NoSheet, none, _, _, true, rfl, ee, .inl rfl, T.k_NoSheet, rfl, kit T.h_NoSheet T.s_NoSheet_NoSheet, _, rfl, ?_⟩
  refine iteT ?_
  refine ⟨_, rfl, e, ad.c_NoSheet, none, _, _, true, rfl, ee, .inl rfl, T.k_NoSheet, rfl, kit_cv kitMeta_ve T.v_NoSheet, _, rfl, ?_⟩
  refine iteT ?_
  refine ⟨_, rfl, e, ad.c_NoSheet, none, _, _, false, rfl, ee, .inl rfl, T.k_NoSheet, rfl, kit T.h_NoChange T.s_NoSheet_NoChange, _, rfl, ?_⟩
  refine ⟨_, rfl, _, rfl, ?_⟩
  refine iteT ?_
  refine ⟨_, rfl, e, ad.c_NoSheet, rfl, .inl rfl, ee, fun H4 s4 => ?_⟩
  refine ⟨_, rfl, ?_⟩
  exact ⟨_, rfl, q _ (s3.trans s4)⟩
theorem ok_law_no_change (T : Tx K mg ad) : FnOk P w K mg base CX0 4 ad.f_law_no_change ad.d_law_no_change ["_law_sheet_here", "_law_rows"] (spNoChange K) := by
  refine T.F_law_no_change.ok sc_law_no_change (fun vs H Q E h => ?_) (fun cdv A outer s H vs Q E hr h => ?_)
  · obtain ⟨l, c, ls, rfl, _⟩ := h
    rfl
  obtain ⟨l, c, ls, rfl, hl, gl, hh, q⟩ := h
  refine ⟨_, (@pss_cons _ _ _ _ _ (@ps_set _ _ (2) _ _ _ _ sc_law_no_change.nd rfl (Or.inl rfl) pe_bl (by rfl) (by first | exact .inl rfl | exact .inr rfl | assumption)) (@pss_cons _ _ _ _ _ (ps_try ⟨rfl, rfl, rfl⟩ (fun _ _ => (@pss_one _ _ _ (@ps_expr _ _ _ _ (@pe_callW _ _ _ _ _ _ _ _ _ _ _ _ _ _ _ ⟨rfl, rfl, rfl⟩ (ok_changed T) (hr.mono (by decide)) rfl T.m_changed T.F_changed.kp T.b_changed .nil (@pa_cons _ _ _ _ _ (pv 0) (@pa_cons _ _ _ _ _ (pv 1) pa_nil (by rfl)) (by rfl)) (by decide) (by rfl) (by rfl)) (by rfl)))) (ph_as (i := 3) ⟨rfl, rfl, rfl⟩ T.h_PollError rfl T.m_PollError sc_law_no_change.nd rfl rfl (fun _ => (@pss_cons _ _ _ _ _ (@ps_set _ _ (2) _ _ _ _ sc_law_no_change.nd rfl (Or.inl rfl) (@pe_and _ _ _ _ _ _ _ (@pe_callB _ _ _ _ _ _ _ _ _ (call_isx (K := K)) (by rfl) T.z_isinstance PyProof.Rows.boot_isinstance (@pa_cons _ _ _ _ _ (pv 3) (@pa_cons _ _ _ _ _ (pe_glob (v := .ref ad.c_NoChange) rfl T.m_NoChange rfl) pa_nil (by rfl)) (by rfl)) (by decide) (by decide) (by rfl) (by rfl)) (@pe_and _ _ _ _ _ _ _ (@pe_callB _ _ _ _ _ _ _ _ _ (call_isx (K := K)) (by rfl) T.z_isinstance PyProof.Rows.boot_isinstance (@pa_cons _ _ _ _ _ (pv 3) (@pa_cons _ _ _ _ _ (pe_bltn (v := .ty "ValueError") rfl T.z_ValueError PyProof.Rows.Boot.«ValueError» rfl) pa_nil (by rfl)) (by rfl)) (by decide) (by decide) (by rfl) (by rfl)) (@pe_one _ _ _ _ _ (@pe_not _ _ _ _ (@pe_callB _ _ _ _ _ _ _ _ _ (call_isx (K := K)) (by rfl) T.z_isinstance PyProof.Rows.boot_isinstance (@pa_cons _ _ _ _ _ (pv 3) (@pa_cons _ _ _ _ _ (pe_glob (v := .ref ad.c_NoSheet) rfl T.m_NoSheet rfl) pa_nil (by rfl)) (by rfl)) (by decide) (by decide) (by rfl) (by rfl)))))) (by rfl) (by first | exact .inl rfl | exact .inr rfl | assumption)) (@pss_one _ _ _ (@ps_set _ _ (2) _ _ _ _ sc_law_no_change.nd rfl (Or.inl rfl) (@pe_and _ _ _ _ _ _ _ (pv 2) (@pe_one _ _ _ _ _ (@pe_not _ _ _ _ (pe_callH (ok_law_other T) (RoomH.mark (hr.toH (by decide)) _) rfl T.m_law_other T.F_law_other.kp T.b_law_other (@pa_cons _ _ _ _ _ (pv 3) pa_nil (by rfl)))))) (by rfl) (by first | exact .inl rfl | exact .inr rfl | assumption))))) ph_never)) (@pss_one _ _ _ (@ps_ret _ _ _ _ (pv 2))))), ?_⟩
  have kit : ∀ {B : Addr} {b : Bool}, HCls K B → PySem.W.subIn K (.ref ad.c_NoChange) (.ref B) = some b → PySem.W.kitOne K (.ref ad.c_NoChange) (.ref B) = some b := fun c h => kit_cc c h T.s_NoChange_NoChange
  refine ⟨_, rfl, _, rfl, l, c, ls, rfl, hl, gl, .inr ?_⟩
  refine hh.imp (fun ⟨rv, hc, gv, bad⟩ => ⟨rv, hc, gv, bad, fun H2 s2 => ?_⟩) (fun ⟨rs, p, hc, gr, ok, kl, kr, p64, ng⟩ => ⟨rs, p, hc, gr, ok, kl, kr, p64, ng, fun H2 s2 => ?_⟩)
  · skip
    refine ⟨true, T.s_NoChange_PollError, ?_⟩
    rw [if_pos rfl]
    intro e he
    have se : Same H2 (upd H2 e (hoX e (.ref ad.c_NoChange) none)) := same_new he _
    have ee : (upd H2 e (hoX e (.ref ad.c_NoChange) none)) e = some (hoX e (.ref ad.c_NoChange) none) := upd_same
    generalize upd H2 e (hoX e (.ref ad.c_NoChange) none) = H3 at se ee ⊢
    have s3 := s2.trans se
    refine ⟨_, rfl, e, ad.c_NoChange, none, _, _, true, rfl, ee, .inl rfl, T.k_NoChange, rfl, kit T.h_NoChange T.s_NoChange_NoChange, _, rfl, ?_⟩
    refine iteT ?_
    refine ⟨_, rfl, e, ad.c_NoChange, none, _, _, true, rfl, ee, .inl rfl, T.k_NoChange, rfl, kit_cv kitMeta_ve T.v_NoChange, _, rfl, ?_⟩
    refine iteT ?_
    refine ⟨_, rfl, e, ad.c_NoChange, none, _, _, false, rfl, ee, .inl rfl, T.k_NoChange, rfl, kit T.h_NoSheet T.s_NoChange_NoSheet, _, rfl, ?_⟩
    refine ⟨_, rfl, _, rfl, ?_⟩
    refine iteT ?_
    refine ⟨_, rfl, e, ad.c_NoChange, rfl, .inr rfl, ee, fun H4 s4 => ?_⟩
    refine ⟨_, rfl, ?_⟩
    exact ⟨_, rfl, q _ (s3.trans s4)⟩
  · skip
    refine ⟨true, T.s_NoChange_PollError, ?_⟩
    rw [if_pos rfl]
    intro e he
    have se : Same H2 (upd H2 e (hoX e (.ref ad.c_NoChange) none)) := same_new he _
    have ee : (upd H2 e (hoX e (.ref ad.c_NoChange) none)) e = some (hoX e (.ref ad.c_NoChange) none) := upd_same
    generalize upd H2 e (hoX e (.ref ad.c_NoChange) none) = H3 at se ee ⊢
    have s3 := s2.trans se
    refine ⟨_, rfl, e, ad.c_NoChange, none, _, _, true, rfl, ee, .inl rfl, T.k_NoChange, rfl, kit T.h_NoChange T.s_NoChange_NoChange, _, rfl, ?_⟩
    refine iteT ?_
    refine ⟨_, rfl, e, ad.c_NoChange, none, _, _, true, rfl, ee, .inl rfl, T.k_NoChange, rfl, kit_cv kitMeta_ve T.v_NoChange, _, rfl, ?_⟩
    refine iteT ?_
    refine ⟨_, rfl, e, ad.c_NoChange, none, _, _, false, rfl, ee, .inl rfl, T.k_NoChange, rfl, kit T.h_NoSheet T.s_NoChange_NoSheet, _, rfl, ?_⟩
    refine ⟨_, rfl, _, rfl, ?_⟩
    refine iteT ?_
    refine ⟨_, rfl, e, ad.c_NoChange, rfl, .inr rfl, ee, fun H4 s4 => ?_⟩
    refine ⟨_, rfl, ?_⟩
    exact ⟨_, rfl, q _ (s3.trans s4)⟩
theorem ok_law_good (T : Tx K mg ad) : FnOk P w K mg base CX0 4 ad.f_law_good ad.d_law_good ["_law_lines_here", "_law_sheet_here", "_law_rows", "_law_due_here"] spGood := by
  refine T.F_law_good.ok sc_law_good (fun vs H Q E h => ?_) (fun cdv A outer s H vs Q E hr h => ?_)
  · obtain ⟨l, b, c, u, ls, ms, us, rs, p, rfl, _⟩ := h
    rfl
  obtain ⟨l, b, c, u, ls, ms, us, rs, p, rfl, hl, gl, hb, gb, hc, gr, hu, gu, kl, km, p64, hn, sh, ok, kr, nn, shu, q⟩ := h
  refine ⟨_, (@pss_cons _ _ _ _ _ (@ps_if _ _ _ _ _ _ _ _ (@pt_not _ _ _ _ (@pt_val _ _ _ (@pe_call _ _ _ _ _ _ _ _ _ _ _ _ _ _ _ _ (ok_law_same T) (hr.mono (by decide)) rfl T.m_law_same T.F_law_same.kp T.b_law_same .nil pass0 (@pa_cons _ _ _ _ _ (@pe_call _ _ _ _ _ _ _ _ _ _ _ _ _ _ _ _ (ok_sheet_of T) (hr.mono (by decide)) rfl T.m_sheet_of T.F_sheet_of.kp T.b_sheet_of .nil pass1 (@pa_cons _ _ _ _ _ (@pe_callTy _ _ _ _ _ _ _ _ _ call_list_of (by rfl) T.z_list PyProof.Rows.boot_list (@pa_cons _ _ _ _ _ (pv 0) pa_nil (by rfl)) (by decide) (by decide) (by rfl) (by rfl)) pa_nil (by rfl)) (by decide) (by rfl) (by rfl)) (@pa_cons _ _ _ _ _ (pv 1) pa_nil (by rfl)) (by rfl)) (by decide) (by rfl) (by rfl)) (by intro _; rfl))) (@pss_one _ _ _ (@ps_ret _ _ _ _ pe_bl)) pss_nil) (@pss_one _ _ _ (@ps_ret _ _ _ _ (@pe_call _ _ _ _ _ _ _ _ _ _ _ _ _ _ _ _ (ok_law_same T) (hr.mono (by decide)) rfl T.m_law_same T.F_law_same.kp T.b_law_same .nil pass0 (@pa_cons _ _ _ _ _ (@pe_call _ _ _ _ _ _ _ _ _ _ _ _ _ _ _ _ (ok_changed T) (hr.mono (by decide)) rfl T.m_changed T.F_changed.kp T.b_changed .nil pass1 (@pa_cons _ _ _ _ _ (@pe_callTy _ _ _ _ _ _ _ _ _ call_list_of (by rfl) T.z_list PyProof.Rows.boot_list (@pa_cons _ _ _ _ _ (pv 1) pa_nil (by rfl)) (by decide) (by decide) (by rfl) (by rfl)) (@pa_cons _ _ _ _ _ (@pe_callTy _ _ _ _ _ _ _ _ _ call_list_of (by rfl) T.z_list PyProof.Rows.boot_list (@pa_cons _ _ _ _ _ (pv 2) pa_nil (by rfl)) (by decide) (by decide) (by rfl) (by rfl)) pa_nil (by rfl)) (by rfl)) (by decide) (by rfl) (by rfl)) (@pa_cons _ _ _ _ _ (pv 3) pa_nil (by rfl)) (by rfl)) (by decide) (by rfl) (by rfl))))), ?_⟩
  refine ⟨_, rfl, l, _, rfl, .inl (SqL.of hl), fun a ha => ?_⟩
  have s1 := same_new ha (.lst (vls ls))
  have e1 : (upd H a (.lst (vls ls))) a = some (.lst (vls ls)) := upd_same
  generalize upd H a (.lst (vls ls)) = H1 at s1 e1 ⊢
  refine .inl ⟨a, ls, p, rfl, e1, gl.same s1, kl, p64, hn, fun l2 ls2 H2 hl2 s2 e2 g2 sh2 l64 => ?_⟩
  have s12 := s1.trans s2
  refine ⟨_, rfl, l2, b, ls2, ms, rfl, e2, s12 _ _ hb, g2, gb.same s12, sh2.uniq sh (fun _ => rfl), ?_⟩
  and_intros
  refine ⟨b, _, rfl, .inl (SqL.of (s12 _ _ hb)), fun a3 ha3 => ?_⟩
  have s3 := same_new ha3 (.lst (vls ms))
  have e3 : (upd H2 a3 (.lst (vls ms))) a3 = some (.lst (vls ms)) := upd_same
  generalize upd H2 a3 (.lst (vls ms)) = H3 at s3 e3 ⊢
  have s13 := s12.trans s3
  refine ⟨_, rfl, c, _, rfl, .inl (SqL.of (s13 _ _ hc)), fun a4 ha4 => ?_⟩
  have s4 := same_new ha4 (.lst (vrs rs))
  have e4 : (upd H3 a4 (.lst (vrs rs))) a4 = some (.lst (vrs rs)) := upd_same
  generalize upd H3 a4 (.lst (vrs rs)) = H4 at s4 e4 ⊢
  have s14 := s13.trans s4
  refine ⟨a3, a4, ms, rfl, s4 _ _ e3, gb.same s14, .inl ⟨rs, p, e4, gr.same s14, ok, km, kr, p64, nn, fun l5 ls5 H5 hl5 s5 e5 g5 sh5 l564 => ?_⟩⟩
  have s15 := s14.trans s5
  refine ⟨_, rfl, l5, u, ls5, us, rfl, e5, s15 _ _ hu, g5, gu.same s15, sh5.uniq shu (fun _ => rfl), ?_⟩
  exact q _ s15
theorem ok_law (T : Tx K mg ad) : FnOk P w K mg base CX0 5 ad.f_law ad.d_law ["_law_script"] (spLaw K) := by
  refine T.F_law.ok sc_law (fun vs H Q E h => ?_) (fun cdv A outer s H vs Q E hr h => ?_)
  · obtain ⟨p, ns, rfl, _⟩ := h
    rfl
  obtain ⟨p, ns, rfl, hS, h63, q⟩ := h
  refine ⟨_, (@pss_cons _ _ _ _ _ (@ps_set _ _ (1) _ _ _ _ sc_law.nd rfl (Or.inr rfl) (@pe_call _ _ _ _ _ _ _ _ _ _ _ _ _ _ _ _ (ok_law_cell T) (hr.mono (by decide)) rfl T.m_law_cell T.F_law_cell.kp T.b_law_cell .nil pass0 (@pa_cons _ _ _ _ _ (pv 0) (@pa_cons _ _ _ _ _ pe_int pa_nil (by rfl)) (by rfl)) (by decide) (by rfl) (by rfl)) (by rfl) (by first | exact .inl rfl | exact .inr rfl | assumption)) (@pss_cons _ _ _ _ _ (ps_setC (j := 2) (fsc := defScope s_law) (N := ["_law_script", "_law_first", "_law_pool", "_law_lines_here", "_law_sheet_here", "_law_cell_here", "_law_rows", "_law_slip_here", "_law_number", "_law_new", "_law_due_here", "_law_at", "_law_some", "_law_held", "_law_handed"]) (Nc := ["_law_script", "_law_first", "_law_pool", "_law_lines_here", "_law_sheet_here", "_law_cell_here", "_law_rows", "_law_slip_here", "_law_number", "_law_new", "_law_due_here", "_law_at", "_law_some", "_law_held", "_law_handed", "_law_k"]) rfl rfl ⟨rfl, by decide +kernel, by decide +kernel, rfl, by decide +kernel, rfl, by decide +kernel, rfl, by decide +kernel⟩ rfl sc_law.nd rfl rfl (pi_range1 rfl T.z_range (@pa_cons _ _ _ _ _ (@pe_op _ _ _ _ _ _ _ _ op_add pe_int (@pe_op _ _ _ _ _ _ _ _ op_modN (@pe_op _ _ _ _ _ _ _ _ op_fdivB (pv 1) pe_int) pe_int)) pa_nil (by rfl))) (fun _ _ _ _ => pif_nil) (fun _ _ _ _ => (@pe_call _ _ _ _ _ _ _ _ _ _ _ _ _ _ _ _ (ok_law_slip T) (hr.mono (by decide)) rfl T.m_law_slip T.F_law_slip.kp T.b_law_slip .nil pass0 (@pa_cons _ _ _ _ _ (@pe_call _ _ _ _ _ _ _ _ _ _ _ _ _ _ _ _ (ok_law_mixed T) (hr.mono (by decide)) rfl T.m_law_mixed T.F_law_mixed.kp T.b_law_mixed .nil pass0 (@pa_cons _ _ _ _ _ (pv 1) (@pa_cons _ _ _ _ _ (pv 15) pa_nil (by rfl)) (by rfl)) (by decide) (by rfl) (by rfl)) (@pa_cons _ _ _ _ _ (@pe_op _ _ _ _ _ _ _ _ op_add pe_int (@pe_op _ _ _ _ _ _ _ _ op_modN (pv 1) pe_int)) pa_nil (by rfl)) (by rfl)) (by decide) (by rfl) (by rfl))) rfl) (@pss_cons _ _ _ _ _ (@ps_set _ _ (3) _ _ _ _ sc_law.nd rfl (Or.inl rfl) (@pe_call _ _ _ _ _ _ _ _ _ _ _ _ _ _ _ _ (ok_law_lines T) (hr.mono (by decide)) rfl T.m_law_lines T.F_law_lines.kp T.b_law_lines .nil pass0 (@pa_cons _ _ _ _ _ (pv 0) (@pa_cons _ _ _ _ _ pe_int (@pa_cons _ _ _ _ _ pe_int (@pa_cons _ _ _ _ _ (pv 2) pa_nil (by rfl)) (by rfl)) (by rfl)) (by rfl)) (by decide) (by rfl) (by rfl)) (by rfl) (by first | exact .inl rfl | exact .inr rfl | assumption)) (@pss_cons _ _ _ _ _ (@ps_set _ _ (4) _ _ _ _ sc_law.nd rfl (Or.inl rfl) (@pe_call _ _ _ _ _ _ _ _ _ _ _ _ _ _ _ _ (ok_law_together T) (hr.mono (by decide)) rfl T.m_law_together T.F_law_together.kp T.b_law_together .nil pass0 (@pa_cons _ _ _ _ _ (pv 3) pa_nil (by rfl)) (by decide) (by rfl) (by rfl)) (by rfl) (by first | exact .inl rfl | exact .inr rfl | assumption)) (@pss_cons _ _ _ _ _ (@ps_set _ _ (5) _ _ _ _ sc_law.nd rfl (Or.inl rfl) (@pe_call _ _ _ _ _ _ _ _ _ _ _ _ _ _ _ _ (ok_law_mixed T) (hr.mono (by decide)) rfl T.m_law_mixed T.F_law_mixed.kp T.b_law_mixed .nil pass0 (@pa_cons _ _ _ _ _ (pv 1) (@pa_cons _ _ _ _ _ pe_int pa_nil (by rfl)) (by rfl)) (by decide) (by rfl) (by rfl)) (by rfl) (by first | exact .inl rfl | exact .inr rfl | assumption)) (@pss_cons _ _ _ _ _ (@ps_set _ _ (6) _ _ _ _ sc_law.nd rfl (Or.inl rfl) (@pe_lst _ _ _ _ pa_nil) (by rfl) (by first | exact .inl rfl | exact .inr rfl | assumption)) (@pss_cons _ _ _ _ _ (ps_for PassesOwn.never rfl (pi_list (pe_slice sl_list (pv 4) po_none (po_some (@pe_op _ _ _ _ _ _ _ _ op_add pe_int (@pe_op _ _ _ _ _ _ _ _ op_modN (pv 5) pe_int))))) (pg_tup rfl (pgs_cons (pg_name (i := 7) sc_law.nd rfl (Or.inr rfl)) (pgs_cons (pg_name (i := 8) sc_law.nd rfl (Or.inl rfl)) pgs_nil))) (@pss_cons _ _ _ _ _ (@ps_set _ _ (9) _ _ _ _ sc_law.nd rfl (Or.inl rfl) (@pe_ix _ _ _ _ _ _ _ ix_list (pe_comp (fsc := defScope s_law) (N := ["_law_script", "_law_first", "_law_pool", "_law_lines_here", "_law_sheet_here", "_law_cell_here", "_law_rows", "_law_slip_here", "_law_number", "_law_new", "_law_due_here", "_law_at", "_law_some", "_law_held", "_law_handed"]) (Nc := ["_law_script", "_law_first", "_law_pool", "_law_lines_here", "_law_sheet_here", "_law_cell_here", "_law_rows", "_law_slip_here", "_law_number", "_law_new", "_law_due_here", "_law_at", "_law_some", "_law_held", "_law_handed", "_law_other_here"]) rfl rfl ⟨rfl, by decide +kernel, by decide +kernel, rfl, by decide +kernel, rfl, by decide +kernel, rfl, by decide +kernel⟩ rfl (pi_list (@pe_lst _ _ _ _ (@pa_cons _ _ _ _ _ (@pe_tup _ _ _ _ _ (@pa_cons _ _ _ _ _ pe_int pa_nil (by rfl))) (@pa_cons _ _ _ _ _ (@pe_tup _ _ _ _ _ pa_nil) pa_nil (by rfl)) (by rfl)))) (fun _ _ _ _ => (pif_one (@pt_cmpR _ _ _ _ _ _ _ _ (op_neD (K := K) hr.units) (pv 15) (pv 7) (nomark _)))) (fun _ _ _ _ => (pv 15))) pe_int (fun _ _ => rfl)) (by rfl) (by first | exact .inl rfl | exact .inr rfl | assumption)) (@pss_one _ _ _ (@ps_expr _ _ _ _ (pe_bm PySem.F.plainAttrs_list PySem.F.slot_list_append PySem.F.type_list_append mt_append (pv 6) (@pa_cons _ _ _ _ _ (@pe_tup _ _ _ _ _ (@pa_cons _ _ _ _ _ (pv 7) (@pa_cons _ _ _ _ _ (pv 9) (@pa_cons _ _ _ _ _ (@pe_op _ _ _ _ _ _ _ _ op_add pe_int (@pe_op _ _ _ _ _ _ _ _ op_modN (@pe_op _ _ _ _ _ _ _ _ op_fdivB (pv 5) pe_int) (pv 8))) pa_nil (by rfl)) (by rfl)) (by rfl))) pa_nil (by rfl))) (by rfl))))) (@pss_cons _ _ _ _ _ (@ps_set _ _ (10) _ _ _ _ sc_law.nd rfl (Or.inl rfl) (@pe_call _ _ _ _ _ _ _ _ _ _ _ _ _ _ _ _ (ok_law_due T) (hr.mono (by decide)) rfl T.m_law_due T.F_law_due.kp T.b_law_due .nil pass0 (@pa_cons _ _ _ _ _ (pv 4) (@pa_cons _ _ _ _ _ (pv 6) pa_nil (by rfl)) (by rfl)) (by decide) (by rfl) (by rfl)) (by rfl) (by first | exact .inl rfl | exact .inr rfl | assumption)) (@pss_cons _ _ _ _ _ (@ps_if _ _ _ _ _ _ _ _ (@pt_not _ _ _ _ (@pt_val _ _ _ (@pe_call _ _ _ _ _ _ _ _ _ _ _ _ _ _ _ _ (ok_law_good T) (hr.mono (by decide)) rfl T.m_law_good T.F_law_good.kp T.b_law_good .nil pass0 (@pa_cons _ _ _ _ _ (pv 3) (@pa_cons _ _ _ _ _ (pv 4) (@pa_cons _ _ _ _ _ (pv 6) (@pa_cons _ _ _ _ _ (pv 10) pa_nil (by rfl)) (by rfl)) (by rfl)) (by rfl)) (by decide) (by rfl) (by rfl)) (by intro _; rfl))) (@pss_one _ _ _ (@ps_ret _ _ _ _ pe_bl)) pss_nil) (@pss_cons _ _ _ _ _ (@ps_set _ _ (11) _ _ _ _ sc_law.nd rfl (Or.inl rfl) (@pe_op _ _ _ _ _ _ _ _ op_modN (pv 5) (@pe_callB _ _ _ _ _ _ _ _ _ call_len_seq (by rfl) T.z_len PySem.boot_len (@pa_cons _ _ _ _ _ (pv 3) pa_nil (by rfl)) (by decide) (by decide) (by rfl) (by rfl))) (by rfl) (by first | exact .inl rfl | exact .inr rfl | assumption)) (@pss_cons _ _ _ _ _ (ps_for PassesOwn.never rfl (pi_list (@pe_op _ _ _ _ _ _ _ _ op_cat (@pe_call _ _ _ _ _ _ _ _ _ _ _ _ _ _ _ _ (ok_law_bad_numbers T) (hr.mono (by decide)) rfl T.m_law_bad_numbers T.F_law_bad_numbers.kp T.b_law_bad_numbers .nil pass0 (@pa_cons _ _ _ _ _ (pv 5) pa_nil (by rfl)) (by decide) (by rfl) (by rfl)) (@pe_lst _ _ _ _ (@pa_cons _ _ _ _ _ (@pe_op _ _ _ _ _ _ _ _ op_add (@pe_op _ _ _ _ _ _ _ _ op_pow pe_int pe_int) pe_int) (@pa_cons _ _ _ _ _ (@pe_op _ _ _ _ _ _ _ _ op_add (@pe_op _ _ _ _ _ _ _ _ op_add (@pe_op _ _ _ _ _ _ _ _ op_pow pe_int pe_int) pe_int) (pv 5)) pa_nil (by rfl)) (by rfl))))) (pg_name (i := 8) sc_law.nd rfl (Or.inl rfl)) (@pss_cons _ _ _ _ _ (@ps_set _ _ (12) _ _ _ _ sc_law.nd rfl (Or.inl rfl) (@pe_op _ _ _ _ _ _ _ _ op_cat (@pe_op _ _ _ _ _ _ _ _ op_cat (pe_slice sl_list (pv 3) po_none (po_some (pv 11))) (@pe_lst _ _ _ _ (@pa_cons _ _ _ _ _ (@pe_tup _ _ _ _ _ (@pa_cons _ _ _ _ _ (@pe_ix _ _ _ _ _ _ _ ix_tup (@pe_ix _ _ _ _ _ _ _ ix_list (pv 3) (pv 11) (fun _ _ => rfl)) pe_int (fun _ _ => rfl)) (@pa_cons _ _ _ _ _ (pv 8) pa_nil (by rfl)) (by rfl))) pa_nil (by rfl)))) (pe_slice sl_list (pv 3) (po_some (@pe_op _ _ _ _ _ _ _ _ op_add (pv 11) pe_int)) po_none)) (by rfl) (by first | exact .inl rfl | exact .inr rfl | assumption)) (@pss_cons _ _ _ _ _ (@ps_set _ _ (13) _ _ _ _ sc_law.nd rfl (Or.inl rfl) (@pe_callTy _ _ _ _ _ _ _ _ _ call_list_of (by rfl) T.z_list PyProof.Rows.boot_list (@pa_cons _ _ _ _ _ (pv 12) pa_nil (by rfl)) (by decide) (by decide) (by rfl) (by rfl)) (by rfl) (by first | exact .inl rfl | exact .inr rfl | assumption)) (@pss_one _ _ _ (@ps_if _ _ _ _ _ _ _ _ (PW.pt (@pw_or _ _ _ _ _ _ _ (@pt_not _ _ _ _ (@pt_val _ _ _ (@pe_call _ _ _ _ _ _ _ _ _ _ _ _ _ _ _ _ (ok_law_no_sheet T) (hr.mono (by decide)) rfl T.m_law_no_sheet T.F_law_no_sheet.kp T.b_law_no_sheet .nil pass0 (@pa_cons _ _ _ _ _ (pv 12) pa_nil (by rfl)) (by decide) (by rfl) (by rfl)) (by intro _; rfl))) (@pw_or1 _ _ _ _ (@pt_cmpR _ _ _ _ _ _ _ _ (op_neD (K := K) hr.units) (pv 12) (pv 13) (nomark _))))) (@pss_one _ _ _ (@ps_ret _ _ _ _ pe_bl)) pss_nil))))) (@pss_cons _ _ _ _ _ (@ps_if _ _ _ _ _ _ _ _ (@pt_not _ _ _ _ (@pt_val _ _ _ (@pe_call _ _ _ _ _ _ _ _ _ _ _ _ _ _ _ _ (ok_law_good T) (hr.mono (by decide)) rfl T.m_law_good T.F_law_good.kp T.b_law_good .nil pass0 (@pa_cons _ _ _ _ _ (pv 3) (@pa_cons _ _ _ _ _ (pv 4) (@pa_cons _ _ _ _ _ (pv 6) (@pa_cons _ _ _ _ _ (pv 10) pa_nil (by rfl)) (by rfl)) (by rfl)) (by rfl)) (by decide) (by rfl) (by rfl)) (by intro _; rfl))) (@pss_one _ _ _ (@ps_ret _ _ _ _ pe_bl)) pss_nil) (@pss_cons _ _ _ _ _ (ps_for PassesOwn.never rfl (pi_list (@pe_call _ _ _ _ _ _ _ _ _ _ _ _ _ _ _ _ (ok_law_bad_rows T) (hr.mono (by decide)) rfl T.m_law_bad_rows T.F_law_bad_rows.kp T.b_law_bad_rows .nil pass0 (@pa_cons _ _ _ _ _ (pv 4) (@pa_cons _ _ _ _ _ (pv 6) (@pa_cons _ _ _ _ _ (pv 5) pa_nil (by rfl)) (by rfl)) (by rfl)) (by decide) (by rfl) (by rfl))) (pg_name (i := 12) sc_law.nd rfl (Or.inl rfl)) (@pss_cons _ _ _ _ _ (@ps_set _ _ (13) _ _ _ _ sc_law.nd rfl (Or.inl rfl) (@pe_callTy _ _ _ _ _ _ _ _ _ call_list_of (by rfl) T.z_list PyProof.Rows.boot_list (@pa_cons _ _ _ _ _ (pv 12) pa_nil (by rfl)) (by decide) (by decide) (by rfl) (by rfl)) (by rfl) (by first | exact .inl rfl | exact .inr rfl | assumption)) (@pss_cons _ _ _ _ _ (@ps_set _ _ (14) _ _ _ _ sc_law.nd rfl (Or.inl rfl) (@pe_callTy _ _ _ _ _ _ _ _ _ call_list_of (by rfl) T.z_list PyProof.Rows.boot_list (@pa_cons _ _ _ _ _ (pv 4) pa_nil (by rfl)) (by decide) (by decide) (by rfl) (by rfl)) (by rfl) (by first | exact .inl rfl | exact .inr rfl | assumption)) (@pss_one _ _ _ (@ps_if _ _ _ _ _ _ _ _ (PW.pt (@pw_or _ _ _ _ _ _ _ (@pt_not _ _ _ _ (@pt_val _ _ _ (@pe_call _ _ _ _ _ _ _ _ _ _ _ _ _ _ _ _ (ok_law_no_change T) (hr.mono (by decide)) rfl T.m_law_no_change T.F_law_no_change.kp T.b_law_no_change .nil pass0 (@pa_cons _ _ _ _ _ (pv 14) (@pa_cons _ _ _ _ _ (pv 12) pa_nil (by rfl)) (by rfl)) (by decide) (by rfl) (by rfl)) (by intro _; rfl))) (@pw_or _ _ _ _ _ _ _ (@pt_cmpR _ _ _ _ _ _ _ _ (op_neD (K := K) hr.units) (pv 12) (pv 13) (nomark _)) (@pw_or1 _ _ _ _ (@pt_cmpR _ _ _ _ _ _ _ _ (op_neD (K := K) hr.units) (pv 14) (pv 4) (nomark _)))))) (@pss_one _ _ _ (@ps_ret _ _ _ _ pe_bl)) pss_nil))))) (@pss_one _ _ _ (@ps_ret _ _ _ _ (@pe_call _ _ _ _ _ _ _ _ _ _ _ _ _ _ _ _ (ok_law_good T) (hr.mono (by decide)) rfl T.m_law_good T.F_law_good.kp T.b_law_good .nil pass0 (@pa_cons _ _ _ _ _ (pv 3) (@pa_cons _ _ _ _ _ (pv 4) (@pa_cons _ _ _ _ _ (pv 6) (@pa_cons _ _ _ _ _ (pv 10) pa_nil (by rfl)) (by rfl)) (by rfl)) (by rfl)) (by decide) (by rfl) (by rfl))))))))))))))))), ?_⟩
  refine ⟨_, rfl, p, ns, 0, rfl, hS, h63, by decide, by decide, fun c c0 c1 => ?_⟩
  have szc := sz40 c0 c1
  have a8 := fmod_in (c.fdiv 12) (show (0 : Int) < 8 by decide)
  have a12 := fmod_in c (show (0 : Int) < 12 by decide)
  and_intros
  refine ⟨by omega, by omega, ?_⟩
  refine comp_range (small63 (by omega)) (fun D i ys H' => ∃ ps : Ps, ys = vps ps ∧ ps.length = i ∧ H' D = some (.lst ys) ∧ Same H H' ∧ GoodP H' ps) (fun D hD => ⟨[], rfl, rfl, upd_same, same_new hD _, (fun _ m => nomatch m)⟩) (fun D i ys H' ⟨ps, f1, f2, f3, _⟩ => ⟨f3, by rw [f1, vps_len]; omega⟩) ?_ ?_
  · rintro D i ys H' K1 K2 hD hi ⟨ps, rfl, f2, f3, f4, f5⟩ k1 k2
    refine yes (ifT rfl ?_)
    refine ⟨_, rfl, _, rfl, c, _, rfl, szc, sz_of (by omega) (by omega), fun z z0 z1 => ?_⟩
    and_intros
    refine ⟨z, _, rfl, z0, z1, (by show 1 ≤ 1 + c.fmod 12; omega), (by show 1 + c.fmod 12 ≤ 12; omega), fun t ts H2 s2 e2 => ?_⟩
    have f3' := s2 _ _ f3
    refine k1 _ _ f3' ⟨ps ++ [(t, ts)], by unfold vps; rw [List.map_append]; rfl, by rw [List.length_append, f2]; rfl, upd_same, same_upd (f4.trans s2) hD, fun r rm => ?_⟩
    have keep : ∀ b u, H2 b = some (.tup u) → (upd H2 D (.lst (vps ps ++ [V.ref t]))) b = some (.tup u) := fun b u e => by
      rw [upd_ne (ne_of e f3' (fun z => nomatch z))]
      exact e
    rcases List.mem_append.mp rm with rm | rm
    · exact keep _ _ (s2 _ _ (f5 r rm))
    · rw [List.mem_singleton.mp rm]; exact keep _ _ e2
  rintro D ys H2 hD ⟨ps, rfl, f2, f3, s2, f5⟩
  have ps8 : ps.length ≤ 8 := by omega
  have ps1 : 1 ≤ ps.length := by omega
  refine ⟨_, rfl, _, rfl, p, ns, 1, 20, D, ps, rfl, s2.seq hS, h63, rfl, by decide, by decide, f3, f5, by omega, by omega, fun l ls H3 s3 e3 g3 in3 n3 l3 l60 => ?_⟩
  have hp : ∀ q ∈ dsOf ls, q.1 ∈ ps.map (·.2) := fun q m => by
    obtain ⟨r, rm, rfl⟩ := List.mem_map.mp m
    exact List.mem_map.mpr ⟨_, in3 r rm, rfl⟩
  have p8 : (ps.map (·.2)).length ≤ 8 := by rw [List.length_map]; exact ps8
  have pos : Pos (dsOf ls) := fun q m => (n3 q m).1
  refine ⟨_, rfl, l, ls, ps.map (·.2), rfl, e3, g3, hp, by omega, n3, fun b ms H4 hb s4 e4 g4 sh m64 => ?_⟩
  generalize ps.map (·.2) = pool at hp p8
  have self : Sheet (dsOf ms) (dsOf ms) := sh.of_tot fun ts => sh.tot pos ts
  have m8 : ms.length ≤ 8 := by
    have := sh.len hp
    unfold dsOf at this
    rw [List.length_map] at this
    omega
  have mpos : 0 < ms.length := by
    obtain ⟨q0, hq0⟩ : ∃ q0, ls[0]? = some q0 := ⟨_, List.getElem?_eq_getElem (by omega)⟩
    have qm : (q0.2.2.1, q0.2.2.2) ∈ dsOf ls := List.mem_map.mpr ⟨q0, List.mem_of_getElem? hq0, rfl⟩
    have := (sh.mem q0.2.2.1 _).mpr ⟨rfl, tot_in pos (List.mem_map.mpr ⟨_, qm, rfl⟩)⟩
    have := List.length_pos_of_mem this
    unfold dsOf at this
    rw [List.length_map] at this
    exact this
  have mn : ∀ q ∈ dsOf ms, 1 ≤ q.2 := fun q m => by have := (sh.mem q.1 q.2).mp m; omega
  have nd := srt_nd sh.srt
  have km : ∀ q ∈ dsOf ms, q.1 ∈ pool := fun q m => sh.keys hp q m
  have s34 := s3.trans s4
  and_intros
  refine ⟨c, 60, rfl, szc, szd 64, fun x x0 x1 => ?_⟩
  have szx := sz18 x0 x1
  and_intros
  refine ⟨(by show 0 ≤ sizeLine; decide), fun r0 hr0 => ?_⟩
  have sr := same_new hr0 (.lst [])
  have er : (upd H4 r0 (.lst [])) r0 = some (.lst (vrs [])) := upd_same
  generalize upd H4 r0 (.lst []) = H5 at sr er ⊢
  have e45 := sr _ _ e4
  have x3 := fmod_in x (show (0 : Int) < 3 by decide)
  obtain ⟨k0, ek⟩ : ∃ k : Nat, 1 + x.fmod 3 = (k : Int) := ⟨(1 + x.fmod 3).toNat, by omega⟩
  and_intros
  rw [ek]
  refine ⟨b, _, rfl, SqL.of e45, fun a6 ha6 => ?_⟩
  rw [cut_take, vls_take]
  have s6 := same_new ha6 (.lst (vls (ms.take k0)))
  have e6 : (upd H5 a6 (.lst (vls (ms.take k0)))) a6 = some (.lst (vls (ms.take k0))) := upd_same
  have er6 := s6 _ _ er
  have s46 := sr.trans s6
  generalize upd H5 a6 (.lst (vls (ms.take k0))) = H6 at s6 e6 er6 s46 ⊢
  have ar : a6 ≠ r0 := fun z => by rw [z, er] at ha6; cases ha6
  refine ⟨_, rfl, ⟨_, SqL.of e6⟩, for_list (xs := vls (ms.take k0)) (fun i σ' H' => ∃ (v7 v8 v9 : Option V) (rs : Rs), σ' = [some (.ref p), some (.int c), some (.ref D), some (.ref l), some (.ref b), some (.int x), some (.ref r0), v7, v8, v9, none, none, none, none, none] ∧ Same H4 H' ∧ H' a6 = some (.lst (vls (ms.take k0))) ∧ H' r0 = some (.lst (vrs rs)) ∧ GoodR H' rs ∧ rs.length = i ∧ RowsOk (rdOf rs) ∧ (∀ q ∈ rdOf rs, q.1 ∈ (dsOf ms).map (·.1) ∧ (q.2.1 = [] ∨ q.2.1 = [1])) ∧ ∀ ts, tot (olds (rdOf rs)) ts ≤ tot (dsOf ((ms.take k0).take i)) ts) ⟨none, none, none, [], rfl, s46, e6, er6, (fun _ m => nomatch m), rfl, (fun _ m => nomatch m), (fun _ m => nomatch m), (fun ts => by rw [List.take_zero]; exact Int.le_refl _)⟩ (fun i σ' H' _ ⟨_, _, _, _, _, _, e, _⟩ => SqL.of e) ?_ ?_⟩
  · rintro i y σ' H' hx ⟨v7, v8, v9, rs, rfl, t1', t2', t3', t4', t5', t6', t7', t8'⟩
    obtain ⟨f, hf, rfl, fm, et⟩ := vls_get hx
    have fm' := List.mem_of_mem_take fm
    have g1 := t1' _ _ (g4 f fm').1
    have g2 := t1' _ _ (g4 f fm').2
    have fn : 1 ≤ f.2.2.2 := mn (f.2.2.1, f.2.2.2) (List.mem_map.mpr ⟨f, fm', rfl⟩)
    refine ⟨f.1, _, rfl, SqT.of g1, rfl, _, _, rfl, _, _, rfl, rfl, ?_⟩
    refine ⟨(by show 1 ≤ sizeLine; decide), fun t1 h1 => ?_⟩
    have u1 := same_new h1 (.tup [V.int 1])
    have k1 : (upd H' t1 (.tup [V.int 1])) t1 = some (.tup (([1] : List Int).map V.int)) := upd_same
    generalize upd H' t1 (.tup [V.int 1]) = J1 at u1 k1 ⊢
    refine ⟨(by show 0 ≤ sizeLine; decide), fun t2 h2 => ?_⟩
    have u2 := same_new h2 (.tup [])
    have k2 : (upd J1 t2 (.tup [])) t2 = some (.tup (([] : List Int).map V.int)) := upd_same
    generalize upd J1 t2 (.tup []) = J2 at u2 k2 ⊢
    refine ⟨(by show 2 ≤ sizeLine; decide), fun ya hya => ?_⟩
    have u3 := same_new hya (.lst [V.ref t1, V.ref t2])
    have k3 : (upd J2 ya (.lst [V.ref t1, V.ref t2])) ya = some (.lst (vps [(t1, ([1] : List Int)), (t2, ([] : List Int))])) := upd_same
    generalize upd J2 ya (.lst [V.ref t1, V.ref t2]) = J3 at u3 k3 ⊢
    have uA := (u1.trans u2).trans u3
    have gp : GoodP J3 [(t1, ([1] : List Int)), (t2, ([] : List Int))] := fun r rm => by
      rcases List.mem_cons.mp rm with rm | rm
      · rw [rm]; exact (u2.trans u3) _ _ k1
      · rw [List.mem_singleton.mp rm]; exact u3 _ _ k2
    have two : ∃ r ∈ ([(t1, ([1] : List Int)), (t2, ([] : List Int))] : Ps), r.2 ≠ f.2.2.1 := by
      by_cases z : ([1] : List Int) = f.2.2.1
      · exact ⟨(t2, ([] : List Int)), by simp, by rw [← z]; exact (by decide : ([] : List Int) ≠ ([1] : List Int))⟩
      · exact ⟨(t1, ([1] : List Int)), by simp, z⟩
    have onlyT : ∀ r ∈ ([(t1, ([1] : List Int)), (t2, ([] : List Int))] : Ps), r.2 = [] ∨ r.2 = [1] := fun r rm => by
      rcases List.mem_cons.mp rm with rm | rm
      · rw [rm]; simp
      · rw [List.mem_singleton.mp rm]; simp
    have len2 : ([(t1, ([1] : List Int)), (t2, ([] : List Int))] : Ps).length = 2 := rfl
    generalize ([(t1, ([1] : List Int)), (t2, ([] : List Int))] : Ps) = os at k3 gp two onlyT len2 ⊢
    have g2J := uA _ _ g2
    clear k1 k2 u1 u2 u3 h1 h2 hya
    refine ⟨_, rfl, ⟨_, SqL.of k3⟩, ?_⟩
    refine comp_list (xs := vps os) (by unfold vps; rw [List.length_map]; exact small63 (by omega)) (fun D j ys J => ys = vps ((os.take j).filter fun r => !decide (r.2 = f.2.2.1)) ∧ J = upd J3 D (.lst ys)) (fun D hD => ⟨rfl, rfl⟩) (fun D j ys J ⟨f1, f2⟩ => ⟨by rw [f2]; exact upd_same, by rw [f1]; unfold vps; rw [List.length_map]; exact Nat.le_trans (List.length_filter_le _ _) (List.length_take_le _ _)⟩) (fun D j ys J hD ⟨_, f2⟩ => by rw [f2]; exact SqL.of (same_new hD _ _ _ k3)) ?_ ?_
    · rintro D j x ys J K1 K2 hD hx ⟨f1, rfl⟩ k1 k2
      unfold vps at hx
      rw [List.getElem?_map] at hx
      obtain ⟨r, hr', rfl⟩ := Option.map_eq_some_iff.mp hx
      have rm := List.mem_of_getElem? hr'
      have et : os.take (j + 1) = os.take j ++ [r] := by rw [List.take_succ, hr']; rfl
      have sD := same_new hD (.lst ys)
      refine ⟨_, rfl, _, rfl, .tuple (r.2.map .int), .tuple (f.2.2.1.map .int), .tup (SqT.of (sD _ _ (gp r rm))) (.ints _), .tup (SqT.of (sD _ _ g2J)) (.ints _), (shape_ints _).1, (shape_ints _).1, ?_⟩
      rw [show PyData.eqv (.tuple (r.2.map .int)) (.tuple (f.2.2.1.map .int)) = decide (r.2 = f.2.2.1) from eqv_ints _ _]
      refine ⟨_, rfl, ?_⟩
      by_cases c : r.2 = f.2.2.1
      · refine ifF (by rw [decide_eq_true c]; rfl) ?_
        refine k2 _ ⟨?_, rfl⟩
        rw [f1, et, List.filter_append]
        simp [c]
      · refine ifT (by rw [decide_eq_false c]; rfl) ?_
        refine ⟨_, rfl, ?_⟩
        refine k1 _ _ upd_same ⟨?_, by rw [upd_upd]⟩
        rw [f1, et, List.filter_append]
        simp [c, vps]
    rintro D ys J hD ⟨rfl, rfl⟩
    rw [show (vps os).length = os.length from List.length_map .., List.take_of_length_le (Nat.le_refl _)]
    obtain ⟨rz, rzm, rzn⟩ := two
    have npos : 0 < (os.filter fun r => !decide (r.2 = f.2.2.1)).length := List.length_pos_of_mem (List.mem_filter.mpr ⟨rzm, by rw [decide_eq_false rzn]; rfl⟩)
    have nin : ∀ r ∈ os.filter (fun r => !decide (r.2 = f.2.2.1)), r ∈ os ∧ r.2 ≠ f.2.2.1 := fun r m => by
      obtain ⟨m1, m2⟩ := List.mem_filter.mp m
      exact ⟨m1, fun e => by rw [decide_eq_true e] at m2; cases m2⟩
    generalize (os.filter fun r => !decide (r.2 = f.2.2.1)) = nsl at npos nin ⊢
    obtain ⟨gN, hgN⟩ : ∃ g, nsl[0]? = some g := ⟨_, List.getElem?_eq_getElem npos⟩
    have gmN := nin gN (List.mem_of_getElem? hgN)
    have orN := onlyT gN gmN.1
    have sD := uA.trans (same_new hD (.lst (vps nsl)))
    have eN := same_new hD (.lst (vps nsl)) _ _ (gp gN gmN.1)
    have eD : (upd J3 D (.lst (vps nsl))) D = some (.lst (vps nsl)) := upd_same
    generalize upd J3 D (.lst (vps nsl)) = J4 at sD eN eD ⊢
    have aN : atI (vps nsl) 0 = some (.ref gN.1) := atI_nat (j := 0) (by unfold vps; rw [List.getElem?_map, hgN]; rfl)
    refine ⟨D, _, _, _, rfl, rfl, SqL.of eD, aN, ?_⟩
    have my := fmod_in (x.fdiv 3) (show (0 : Int) < f.2.2.2 by omega)
    have t3J := sD _ _ t3'
    and_intros
    refine ⟨.inl ⟨rfl, _, SqL.of t3J⟩, _, rfl, _, rfl, ?_⟩
    and_intros
    refine ⟨(by show (_ : Int) ≠ 0; omega), ?_⟩
    and_intros
    refine ⟨(by show 3 ≤ sizeLine; decide), fun t ht => ?_⟩
    dsimp only
    have hy : 1 ≤ 1 + (x.fdiv 3).fmod f.2.2.2 ∧ 1 + (x.fdiv 3).fmod f.2.2.2 ≤ f.2.2.2 := by omega
    generalize 1 + (x.fdiv 3).fmod f.2.2.2 = yy at hy ⊢
    have v1 := same_new ht (.tup [V.ref f.2.1, V.ref gN.1, V.int yy])
    have z1 : (upd J4 t (.tup [V.ref f.2.1, V.ref gN.1, V.int yy])) t = some (.tup [V.ref f.2.1, V.ref gN.1, V.int yy]) := upd_same
    generalize upd J4 t (.tup [V.ref f.2.1, V.ref gN.1, V.int yy]) = J5 at v1 z1 ⊢
    refine ⟨r0, _, _, rfl, rfl, v1 _ _ t3J, (by rw [vrs_len]; have := (List.getElem?_eq_some_iff.mp hf).1; rw [List.length_take] at this; exact small1000 (by omega)), ?_⟩
    have sv := sD.trans v1
    refine ⟨_, _, _, rs ++ [(t, (f.2.1, f.2.2.1), gN, yy)], rfl, same_upd (t1'.trans sv) hr0, by rw [upd_ne ar]; exact sv _ _ t2', by rw [upd_same]; unfold vrs; rw [List.map_append]; rfl, ?_, by rw [List.length_append, t5']; rfl, ?_, ?_, fun ts => ?_⟩
    · refine GoodR.upd (v1 _ _ t3J) (fun _ z => nomatch z) ((t4'.same sv).append fun q m => ?_)
      rw [List.mem_singleton.mp m]
      exact ⟨z1, v1 _ _ (sD _ _ g2), v1 _ _ eN⟩
    · intro q m
      rw [rdOf_append] at m
      rcases List.mem_append.mp m with m | m
      · exact t6' q m
      · rw [List.mem_singleton.mp m]; exact ⟨Ne.symm gmN.2, hy.1⟩
    · intro q m
      rw [rdOf_append] at m
      rcases List.mem_append.mp m with m | m
      · exact t7' q m
      · rw [List.mem_singleton.mp m]; exact ⟨List.mem_map.mpr ⟨(f.2.2.1, f.2.2.2), List.mem_map.mpr ⟨f, fm', rfl⟩, rfl⟩, orN⟩
    · rw [et, rdOf_append, dsOf_append, tot_append]
      show tot (olds (rdOf rs ++ [(f.2.2.1, gN.2, yy)])) ts ≤ _ + ((if f.2.2.1 = ts then f.2.2.2 else 0) + 0)
      rw [show olds (rdOf rs ++ [(f.2.2.1, gN.2, yy)]) = olds (rdOf rs) ++ [(f.2.2.1, yy)] from List.map_append .., tot_append]
      show _ + ((if f.2.2.1 = ts then yy else 0) + 0) ≤ _
      have := t8' ts
      split <;> omega
  rintro σ' H7 ⟨v7, v8, v9, rs, rfl, s7, _, e7, gr, rl, ok, rk, rt⟩
  rw [vls_len, List.take_of_length_le (Nat.le_refl _)] at rt
  rw [vls_len, List.length_take] at rl
  have r8 : rs.length ≤ 8 := by omega
  have nn : ∀ ts, 0 ≤ tot (dsOf ms ++ negs (rdOf rs)) ts := fun ts => by
    rw [tot_append, tot_negs]
    have a := rt ts
    have b : tot (dsOf ms) ts = tot (dsOf (ms.take k0)) ts + tot (dsOf (ms.drop k0)) ts := by rw [← tot_append, ← dsOf_append, List.take_append_drop]
    have c := tot_nonneg (ts := ts) (ds := dsOf (ms.drop k0)) fun q m => mn q (ds_drop m)
    omega
  have pin : ∀ ts ∈ pool, ts ∈ pool ++ [[], [1]] := fun ts m => List.mem_append_left _ m
  have kr : KeysR (rdOf rs) (pool ++ [[], [1]]) := fun q m => by
    obtain ⟨k1, k2⟩ := rk q m
    obtain ⟨z, zm, ze⟩ := List.mem_map.mp k1
    exact ⟨pin _ (ze ▸ km z zm), List.mem_append_right _ (by rcases k2 with e | e <;> rw [e] <;> simp)⟩
  have kms : ∀ q ∈ dsOf ms, q.1 ∈ pool ++ [[], [1]] := fun q m => pin _ (km q m)
  have kls : ∀ q ∈ dsOf ls, q.1 ∈ pool ++ [[], [1]] := fun q m => pin _ (hp q m)
  have p10 : (pool ++ [[], [1]]).length ≤ 10 := by rw [List.length_append]; show pool.length + 2 ≤ 10; omega
  generalize pool ++ [[], [1]] = pl at kr kms kls p10
  and_intros
  refine ⟨b, r0, ms, rs, pl, rfl, s7 _ _ e4, g4.same s7, m64, nd, e7, gr, (fun q m => (rk q m).1), kms, kr, by omega, fun u us H8 hu s8 e8 g8 shu u64 => ?_⟩
  have s38 := (s4.trans s7).trans s8
  have me8 : Same H8 H8 := fun _ _ e => e
  and_intros
  refine ⟨l, b, r0, u, ls, ms, us, rs, pl, rfl, (s38.trans me8) _ _ e3, g3.same (s38.trans me8), ((s7.trans s8).trans me8) _ _ e4, g4.same ((s7.trans s8).trans me8), (s8.trans me8) _ _ e7, gr.same (s8.trans me8), me8 _ _ e8, g8.same me8, kls, kms, by omega, n3, sh, ok, kr, nn, shu, fun H9 s9 => ?_⟩
  have s39 := s38.trans s9
  have hl9 := s39 _ _ e3
  have vl : (vls ls).length = ls.length := vls_len ls
  have mj := fmod_in x (show (0 : Int) < ((vls ls).length : Nat) by omega)
  obtain ⟨j, ej⟩ : ∃ j : Nat, x.fmod ((vls ls).length : Nat) = (j : Int) := ⟨(x.fmod ((vls ls).length : Nat)).toNat, by omega⟩
  obtain ⟨g0, hg0⟩ : ∃ g, ls[j]? = some g := ⟨_, List.getElem?_eq_getElem (by omega)⟩
  have gm0 := List.mem_of_getElem? hg0
  have hat : atI (vls ls) (j : Int) = some (.ref g0.1) := atI_nat (by unfold vls; rw [List.getElem?_map, hg0]; rfl)
  and_intros
  refine ⟨(by show (_ : Int) ≠ 0; omega), ?_⟩
  and_intros
  refine ⟨x0, by omega, fun lb tb ab n7 H10 hlb s10 n7n et ea el => ?_⟩
  and_intros
  refine ⟨(by show 2 ≤ sizeLine; decide), fun l2 hl2 => ?_⟩
  have s11 := same_new hl2 (.lst [V.int (10 ^ (9 : Int).toNat + 1), V.int (10 ^ (9 : Int).toNat + 1 + x)])
  have e11 : (upd H10 l2 (.lst [V.int (10 ^ (9 : Int).toNat + 1), V.int (10 ^ (9 : Int).toNat + 1 + x)])) l2 = some (.lst [V.int (10 ^ (9 : Int).toNat + 1), V.int (10 ^ (9 : Int).toNat + 1 + x)]) := upd_same
  have el1 := s11 _ _ el
  show (fun (z : V) (H1 : Hp) => _) (V.ref l2) (upd H10 l2 (.lst [V.int (10 ^ (9 : Int).toNat + 1), V.int (10 ^ (9 : Int).toNat + 1 + x)]))
  generalize upd H10 l2 (.lst [V.int (10 ^ (9 : Int).toNat + 1), V.int (10 ^ (9 : Int).toNat + 1 + x)]) = H11 at s11 e11 el1 ⊢
  refine ⟨lb, l2, _, _, rfl, rfl, el1, e11, (by show 11 ≤ sizeLine; decide), fun l3 hl3 => ?_⟩
  have bad : ∀ y ∈ ([V.int 0, V.int (-1), V.int n7, V.bl true, V.bl false, V.non, V.str (Str.ofString "1"), V.ref tb, V.ref ab] ++ [V.int (10 ^ (9 : Int).toNat + 1), V.int (10 ^ (9 : Int).toNat + 1 + x)] : List V), OddV K H11 y ∧ okNum y = false := fun y m => by
    rcases List.mem_append.mp m with m | m
    · have z := nine (K := K) n7n (s11 _ _ et) (s11 _ _ ea) y m
      exact ⟨z.1, z.2.1⟩
    · have big : ∀ k : Int, 1000000000 < k → okNum (.int k) = false := fun k hk => by show (decide (1 ≤ k) && decide (k ≤ 1000000000)) = false; rw [decide_eq_false (show ¬ k ≤ 1000000000 by omega), Bool.and_comm]; rfl
      have e9 : (10 : Int) ^ (9 : Int).toNat = 1000000000 := by decide
      rcases List.mem_cons.mp m with m | m
      · rw [m]; exact ⟨.int _, big _ (by omega)⟩
      · rw [List.mem_singleton.mp m]; exact ⟨.int _, big _ (by omega)⟩
  generalize ([V.int 0, V.int (-1), V.int n7, V.bl true, V.bl false, V.non, V.str (Str.ofString "1"), V.ref tb, V.ref ab] ++ [V.int (10 ^ (9 : Int).toNat + 1), V.int (10 ^ (9 : Int).toNat + 1 + x)] : List V) = nl at bad ⊢
  have s12 := same_new hl3 (.lst nl)
  have e12 : (upd H11 l3 (.lst nl)) l3 = some (.lst nl) := upd_same
  generalize upd H11 l3 (.lst nl) = H12 at s12 e12 ⊢
  have s912 := (s10.trans s11).trans s12
  have s312 := s39.trans s912
  refine ⟨_, rfl, ⟨_, SqL.of e12⟩, for_list (xs := nl) (fun i σ' H' => ∃ (v8' v12 v13 : Option V), σ' = [some (.ref p), some (.int c), some (.ref D), some (.ref l), some (.ref b), some (.int x), some (.ref r0), v7, v8', v9, some (.ref u), some (.int (x.fmod ((vls ls).length : Nat))), v12, v13, none] ∧ Same H12 H') ⟨_, _, _, rfl, fun _ _ e => e⟩ (fun i σ' H' _ ⟨_, _, _, _, e⟩ => SqL.of (e _ _ e12)) ?_ ?_⟩
  · rintro i y σ' H' hx ⟨v8', v12, v13, rfl, t1⟩
    obtain ⟨od, on⟩ := bad y (List.mem_of_getElem? hx)
    have s3H := s312.trans t1
    have hlH := s3H _ _ e3
    have gH := g3.same s3H
    rw [ej]
    and_intros
    refine ⟨l, _, rfl, SqL.of hlH, fun b1 hb1 => ?_⟩
    rw [cut_take, vls_take]
    have u1 := same_new hb1 (.lst (vls (ls.take j)))
    have w1 : (upd H' b1 (.lst (vls (ls.take j)))) b1 = some (.lst (vls (ls.take j))) := upd_same
    generalize upd H' b1 (.lst (vls (ls.take j))) = Ja at u1 w1 ⊢
    have hla := u1 _ _ hlH
    and_intros
    refine ⟨l, _, _, _, rfl, rfl, SqL.of hla, hat, ?_⟩
    refine ⟨g0.1, _, _, _, rfl, rfl, SqT.of (u1 _ _ (gH g0 gm0).1), rfl, ?_⟩
    and_intros
    refine ⟨(by show 2 ≤ sizeLine; decide), fun t ht => ?_⟩
    have u2 := same_new ht (.tup [V.ref g0.2.1, y])
    have w2 : (upd Ja t (.tup [V.ref g0.2.1, y])) t = some (.tup [V.ref g0.2.1, y]) := upd_same
    generalize upd Ja t (.tup [V.ref g0.2.1, y]) = Jb at u2 w2 ⊢
    refine ⟨(by show 1 ≤ sizeLine; decide), fun b2 hb2 => ?_⟩
    have u3 := same_new hb2 (.lst [V.ref t])
    have w3 : (upd Jb b2 (.lst [V.ref t])) b2 = some (.lst [V.ref t]) := upd_same
    generalize upd Jb b2 (.lst [V.ref t]) = Jc at u3 w3 ⊢
    have lt20 : (ls.take j).length ≤ 60 := by rw [List.length_take]; omega
    have ld20 : (ls.drop (j + 1)).length ≤ 60 := by rw [List.length_drop]; omega
    refine ⟨b1, b2, _, _, rfl, rfl, (u2.trans u3) _ _ w1, w3, (by rw [vls_len]; exact small63 (by show _ + 1 ≤ 1000; omega)), fun b3 hb3 => ?_⟩
    rw [show vls (ls.take j) ++ [V.ref t] = vws (wsOf (ls.take j) ++ [(t, g0.2.1, g0.2.2.1, y)]) from (by rw [vws_append, vws_of]; rfl)]
    have u4 := same_new hb3 (.lst (vws (wsOf (ls.take j) ++ [(t, g0.2.1, g0.2.2.1, y)])))
    have w4 : (upd Jc b3 (.lst (vws (wsOf (ls.take j) ++ [(t, g0.2.1, g0.2.2.1, y)])))) b3 = some (.lst (vws (wsOf (ls.take j) ++ [(t, g0.2.1, g0.2.2.1, y)]))) := upd_same
    generalize upd Jc b3 (.lst (vws (wsOf (ls.take j) ++ [(t, g0.2.1, g0.2.2.1, y)]))) = Jd at u4 w4 ⊢
    have u14 := ((u1.trans u2).trans u3).trans u4
    and_intros
    refine ⟨l, _, rfl, SqL.of (u14 _ _ hlH), fun b4 hb4 => ?_⟩
    rw [show ((j : Int) + 1) = ((j + 1 : Nat) : Int) from by push_cast; rfl, cut_drop, vls_drop]
    have u5 := same_new hb4 (.lst (vls (ls.drop (j + 1))))
    have w5 : (upd Jd b4 (.lst (vls (ls.drop (j + 1))))) b4 = some (.lst (vls (ls.drop (j + 1)))) := upd_same
    generalize upd Jd b4 (.lst (vls (ls.drop (j + 1)))) = Je at u5 w5 ⊢
    refine ⟨b3, b4, _, _, rfl, rfl, u5 _ _ w4, w5, (by rw [vls_len]; unfold vws wsOf; rw [List.length_map, List.length_append, List.length_map]; exact small63 (by show _ + 1 + _ ≤ 1000; omega)), fun b5 hb5 => ?_⟩
    rw [show vws (wsOf (ls.take j) ++ [(t, g0.2.1, g0.2.2.1, y)]) ++ vls (ls.drop (j + 1)) = vws (wsOf (ls.take j) ++ [(t, g0.2.1, g0.2.2.1, y)] ++ wsOf (ls.drop (j + 1))) from (by rw [vws_append _ (wsOf (ls.drop (j + 1))), vws_of])]
    have goodY : GoodY K Je (wsOf (ls.take j) ++ [(t, g0.2.1, g0.2.2.1, y)] ++ wsOf (ls.drop (j + 1))) := by
      have sE := u14.trans u5
      refine (GoodY.append (goodY_of ((gH.same sE).sub fun q m => List.mem_of_mem_take m)) fun q m => ?_).append (goodY_of ((gH.same sE).sub fun q m => List.mem_of_mem_drop m))
      rw [List.mem_singleton.mp m]
      exact ⟨((u3.trans u4).trans u5) _ _ w2, sE _ _ (gH g0 gm0).2, (od.same (s12.trans t1)).same sE⟩
    have badY : ∃ q ∈ wsOf (ls.take j) ++ [(t, g0.2.1, g0.2.2.1, y)] ++ wsOf (ls.drop (j + 1)), okNum q.2.2.2 = false := ⟨(t, g0.2.1, g0.2.2.1, y), List.mem_append_left _ (List.mem_append_right _ (List.mem_singleton_self _)), on⟩
    generalize wsOf (ls.take j) ++ [(t, g0.2.1, g0.2.2.1, y)] ++ wsOf (ls.drop (j + 1)) = ws at goodY badY ⊢
    have u6 := same_new hb5 (.lst (vws ws))
    have w6 : (upd Je b5 (.lst (vws ws))) b5 = some (.lst (vws ws)) := upd_same
    generalize upd Je b5 (.lst (vws ws)) = Jf at u6 w6 ⊢
    and_intros
    intro b6 hb6
    have u7 := same_new hb6 (.lst (vws ws))
    have w7 : (upd Jf b6 (.lst (vws ws))) b6 = some (.lst (vws ws)) := upd_same
    generalize upd Jf b6 (.lst (vws ws)) = Jg at u7 w7 ⊢
    have gY := goodY.same (u6.trans u7)
    and_intros
    refine ⟨b5, ws, rfl, u7 _ _ w6, gY.w, badY, fun Jh u8 => ?_⟩
    and_intros
    obtain ⟨ds, d1, d2, d3, d4⟩ := (gY.same u8).reps
    refine ⟨.list ds, .list ds, .lst (SqL.of ((u7.trans u8) _ _ w6)) d1, .lst (SqL.of (u8 _ _ w7)) d1, shape_of d2 d3, shape_of d2 d3, ?_⟩
    rw [show PyData.eqv (.list ds) (.list ds) = true from d4]
    and_intros
    refine ifF rfl ?_
    exact ⟨_, _, _, rfl, t1.trans ((((u14.trans u5).trans u6).trans u7).trans u8)⟩
  rintro σ' H13 ⟨v8', v12, v13, rfl, t13⟩
  have S13 := (s9.trans s912).trans t13
  and_intros
  refine ⟨l, b, r0, u, ls, ms, us, rs, pl, rfl, (s38.trans S13) _ _ e3, g3.same (s38.trans S13), ((s7.trans s8).trans S13) _ _ e4, g4.same ((s7.trans s8).trans S13), (s8.trans S13) _ _ e7, gr.same (s8.trans S13), S13 _ _ e8, g8.same S13, kls, kms, by omega, n3, sh, ok, kr, nn, shu, fun H14 s14 => ?_⟩
  and_intros
  have S14 := S13.trans s14
  have S4 := (s7.trans s8).trans S14
  refine ⟨b, r0, x, ms, rs, pl, rfl, x0, by omega, S4 _ _ e4, g4.same S4, mpos, m8, (s8.trans S14) _ _ e7, gr.same (s8.trans S14), r8, ok, kms, kr, by omega, nn, fun la as H15 s15 e15 a20 all => ?_⟩
  have S15 := S14.trans s15
  have S45 := S4.trans s15
  refine ⟨_, rfl, ⟨_, SqL.of e15⟩, for_list (xs := as.map V.ref) (fun i σ' H' => ∃ (w12 w13 w14 : Option V), σ' = [some (.ref p), some (.int c), some (.ref D), some (.ref l), some (.ref b), some (.int x), some (.ref r0), v7, v8', v9, some (.ref u), some (.int (x.fmod ((vls ls).length : Nat))), w12, w13, w14] ∧ Same H15 H') ⟨_, _, _, rfl, fun _ _ e => e⟩ (fun i σ' H' _ ⟨_, _, _, _, e⟩ => SqL.of (e _ _ e15)) ?_ ?_⟩
  · rintro i y σ' H' hx ⟨w12, w13, w14, rfl, t1⟩
    rw [List.getElem?_map] at hx
    obtain ⟨a, ha, rfl⟩ := Option.map_eq_some_iff.mp hx
    have bc := (all a (List.mem_of_getElem? ha)).same t1
    obtain ⟨rv, ea, gx, _⟩ := id bc
    and_intros
    intro b1 hb1
    have u1 := same_new hb1 (.lst (vrv rv))
    have w1 : (upd H' b1 (.lst (vrv rv))) b1 = some (.lst (vrv rv)) := upd_same
    generalize upd H' b1 (.lst (vrv rv)) = Ja at u1 w1 ⊢
    have eb := (S45.trans (t1.trans u1)) _ _ e4
    have gb := g4.same (S45.trans (t1.trans u1))
    and_intros
    intro b2 hb2
    have u2 := same_new hb2 (.lst (vls ms))
    have w2 : (upd Ja b2 (.lst (vls ms))) b2 = some (.lst (vls ms)) := upd_same
    generalize upd Ja b2 (.lst (vls ms)) = Jb at u2 w2 ⊢
    have u12 := u1.trans u2
    and_intros
    refine ⟨b2, a, ms, rfl, w2, gb.same u2, (bc.same u12).no, fun Jc u3 => ?_⟩
    and_intros
    have u13 := u12.trans u3
    obtain ⟨ds, d1, d2, d3, d4⟩ := (gx.same u13).reps
    refine ⟨.list ds, .list ds, .lst (SqL.of (u13 _ _ ea)) d1, .lst (SqL.of ((u2.trans u3) _ _ w1)) d1, shape_of d2 d3, shape_of d2 d3, ?_⟩
    rw [show PyData.eqv (.list ds) (.list ds) = true from d4]
    and_intros
    have gc := gb.same (u2.trans u3)
    refine ⟨.list ((dsOf ms).map ld), .list ((dsOf ms).map ld), .lst (SqL.of (u3 _ _ w2)) (reps_ls gc), .lst (SqL.of ((u2.trans u3) _ _ eb)) (reps_ls gc), shape_ls _, shape_ls _, ?_⟩
    rw [show PyData.eqv (.list ((dsOf ms).map ld)) (.list ((dsOf ms).map ld)) = true from eqv_ls _]
    and_intros
    refine ifF rfl ?_
    exact ⟨_, _, _, rfl, t1.trans u13⟩
  rintro σ' H16 ⟨w12, w13, w14, rfl, t16⟩
  have S16 := S15.trans t16
  and_intros
  refine ⟨l, b, r0, u, ls, ms, us, rs, pl, rfl, (s38.trans S16) _ _ e3, g3.same (s38.trans S16), ((s7.trans s8).trans S16) _ _ e4, g4.same ((s7.trans s8).trans S16), (s8.trans S16) _ _ e7, gr.same (s8.trans S16), S16 _ _ e8, g8.same S16, kls, kms, by omega, n3, sh, ok, kr, nn, shu, fun H17 s17 => ?_⟩
  exact q H17
end
theorem all_mk {l : PySem.W.OpenLaw} {w : World} {K : PySem.W.Frag} {h : Heap} {mg : Str → Option Value} {fa f1 f2 f3 f4 f5 f6 f7 f8 f9 f10 f11 f12 f13 f14 f15 f16 f17 f18 f19 f20 f21 f22 f23 c_WrongNumber c_Torn c_TooHard c_NoWay c_NoRow c_NoNumber c_NoBundle c_NoBallot c_Ended c_NoChange c_NoSheet c_PollError : Addr} (X : K.In h) (G : h.Ns mainGlobals mg) (hfa : mg "law" = some (.ref fa))
    {od1 an1 od2 an2 od3 an3 od4 an4 od5 an5 od6 an6 od7 an7 od8 an8 od9 an9 od10 an10 od11 an11 od12 an12 od13 an13 od14 an14 od15 an15 od16 an16 od17 an17 od18 an18 od19 an19 od20 an20 od21 an21 od22 an22 od23 an23 : Option Addr} {sl1 sl2 sl3 sl4 sl5 sl6 sl7 sl8 sl9 sl10 sl11 sl12 sl13 sl14 sl15 sl16 sl17 sl18 sl19 sl20 sl21 sl22 sl23 : Array (Option Value)} {oc1 kV1 dc1 pm1 cd1 ct1 oc2 kV2 dc2 pm2 cd2 ct2 oc3 kV3 dc3 pm3 cd3 ct3 oc4 kV4 dc4 pm4 cd4 ct4 oc5 kV5 dc5 pm5 cd5 ct5 oc6 kV6 dc6 pm6 cd6 ct6 oc7 kV7 dc7 pm7 cd7 ct7 oc8 kV8 dc8 pm8 cd8 ct8 oc9 kV9 dc9 pm9 cd9 ct9 oc10 kV10 dc10 pm10 cd10 ct10 oc11 kV11 dc11 pm11 cd11 ct11 oc12 kV12 dc12 pm12 cd12 ct12 oc13 kV13 dc13 pm13 cd13 ct13 oc14 kV14 dc14 pm14 cd14 ct14 oc15 kV15 dc15 pm15 cd15 ct15 oc16 kV16 dc16 pm16 cd16 ct16 oc17 kV17 dc17 pm17 cd17 ct17 oc18 kV18 dc18 pm18 cd18 ct18 oc19 kV19 dc19 pm19 cd19 ct19 oc20 kV20 dc20 pm20 cd20 ct20 oc21 kV21 dc21 pm21 cd21 ct21 oc22 kV22 dc22 pm22 cd22 ct22 oc23 kV23 dc23 pm23 cd23 ct23 : Value} {t_MOST_BALLOTS : Tok}
    (a1 : PySem.W.nsIn K mainGlobals "is_whole" = some (some (.ref f1)))
    (l1 : K.lookup f1 = some ⟨oc1, od1, .func (PySem.W.fnOf "is_whole" "is_whole" (defArgs s_is_whole) (defBody s_is_whole) (defScope s_is_whole) .none kV1 dc1 pm1 an1 cd1 ct1), sl1⟩) (c1 : PySem.W.codeIn K cd1 "is_whole" = true) (k1 : PySem.W.keepIn K (.ref f1) = true)
    (a2 : PySem.W.nsIn K mainGlobals "numbers_by_slip" = some (some (.ref f2)))
    (l2 : K.lookup f2 = some ⟨oc2, od2, .func (PySem.W.fnOf "numbers_by_slip" "numbers_by_slip" (defArgs s_numbers_by_slip) (defBody s_numbers_by_slip) (defScope s_numbers_by_slip) .none kV2 dc2 pm2 an2 cd2 ct2), sl2⟩) (c2 : PySem.W.codeIn K cd2 "numbers_by_slip" = true) (k2 : PySem.W.keepIn K (.ref f2) = true)
    (a3 : PySem.W.nsIn K mainGlobals "sheet_from" = some (some (.ref f3)))
    (l3 : K.lookup f3 = some ⟨oc3, od3, .func (PySem.W.fnOf "sheet_from" "sheet_from" (defArgs s_sheet_from) (defBody s_sheet_from) (defScope s_sheet_from) .none kV3 dc3 pm3 an3 cd3 ct3), sl3⟩) (c3 : PySem.W.codeIn K cd3 "sheet_from" = true) (k3 : PySem.W.keepIn K (.ref f3) = true)
    (a4 : PySem.W.nsIn K mainGlobals "_law_whole" = some (some (.ref f4)))
    (l4 : K.lookup f4 = some ⟨oc4, od4, .func (PySem.W.fnOf "_law_whole" "_law_whole" (defArgs s_law_whole) (defBody s_law_whole) (defScope s_law_whole) .none kV4 dc4 pm4 an4 cd4 ct4), sl4⟩) (c4 : PySem.W.codeIn K cd4 "_law_whole" = true) (k4 : PySem.W.keepIn K (.ref f4) = true)
    (a5 : PySem.W.nsIn K mainGlobals "_law_cell" = some (some (.ref f5)))
    (l5 : K.lookup f5 = some ⟨oc5, od5, .func (PySem.W.fnOf "_law_cell" "_law_cell" (defArgs s_law_cell) (defBody s_law_cell) (defScope s_law_cell) .none kV5 dc5 pm5 an5 cd5 ct5), sl5⟩) (c5 : PySem.W.codeIn K cd5 "_law_cell" = true) (k5 : PySem.W.keepIn K (.ref f5) = true)
    (a6 : PySem.W.nsIn K mainGlobals "_law_mixed" = some (some (.ref f6)))
    (l6 : K.lookup f6 = some ⟨oc6, od6, .func (PySem.W.fnOf "_law_mixed" "_law_mixed" (defArgs s_law_mixed) (defBody s_law_mixed) (defScope s_law_mixed) .none kV6 dc6 pm6 an6 cd6 ct6), sl6⟩) (c6 : PySem.W.codeIn K cd6 "_law_mixed" = true) (k6 : PySem.W.keepIn K (.ref f6) = true)
    (a7 : PySem.W.nsIn K mainGlobals "_law_sheet" = some (some (.ref f7)))
    (l7 : K.lookup f7 = some ⟨oc7, od7, .func (PySem.W.fnOf "_law_sheet" "_law_sheet" (defArgs s_law_sheet) (defBody s_law_sheet) (defScope s_law_sheet) .none kV7 dc7 pm7 an7 cd7 ct7), sl7⟩) (c7 : PySem.W.codeIn K cd7 "_law_sheet" = true) (k7 : PySem.W.keepIn K (.ref f7) = true)
    (a8 : PySem.W.nsIn K mainGlobals "_law_other" = some (some (.ref f8)))
    (l8 : K.lookup f8 = some ⟨oc8, od8, .func (PySem.W.fnOf "_law_other" "_law_other" (defArgs s_law_other) (defBody s_law_other) (defScope s_law_other) .none kV8 dc8 pm8 an8 cd8 ct8), sl8⟩) (c8 : PySem.W.codeIn K cd8 "_law_other" = true) (k8 : PySem.W.keepIn K (.ref f8) = true)
    (a9 : PySem.W.nsIn K mainGlobals "_law_bad_numbers" = some (some (.ref f9)))
    (l9 : K.lookup f9 = some ⟨oc9, od9, .func (PySem.W.fnOf "_law_bad_numbers" "_law_bad_numbers" (defArgs s_law_bad_numbers) (defBody s_law_bad_numbers) (defScope s_law_bad_numbers) .none kV9 dc9 pm9 an9 cd9 ct9), sl9⟩) (c9 : PySem.W.codeIn K cd9 "_law_bad_numbers" = true) (k9 : PySem.W.keepIn K (.ref f9) = true)
    (a10 : PySem.W.nsIn K mainGlobals "is_number" = some (some (.ref f10)))
    (l10 : K.lookup f10 = some ⟨oc10, od10, .func (PySem.W.fnOf "is_number" "is_number" (defArgs s_is_number) (defBody s_is_number) (defScope s_is_number) .none kV10 dc10 pm10 an10 cd10 ct10), sl10⟩) (c10 : PySem.W.codeIn K cd10 "is_number" = true) (k10 : PySem.W.keepIn K (.ref f10) = true)
    (a11 : PySem.W.nsIn K mainGlobals "check_row" = some (some (.ref f11)))
    (l11 : K.lookup f11 = some ⟨oc11, od11, .func (PySem.W.fnOf "check_row" "check_row" (defArgs s_check_row) (defBody s_check_row) (defScope s_check_row) .none kV11 dc11 pm11 an11 cd11 ct11), sl11⟩) (c11 : PySem.W.codeIn K cd11 "check_row" = true) (k11 : PySem.W.keepIn K (.ref f11) = true)
    (a12 : PySem.W.nsIn K mainGlobals "_law_slip" = some (some (.ref f12)))
    (l12 : K.lookup f12 = some ⟨oc12, od12, .func (PySem.W.fnOf "_law_slip" "_law_slip" (defArgs s_law_slip) (defBody s_law_slip) (defScope s_law_slip) .none kV12 dc12 pm12 an12 cd12 ct12), sl12⟩) (c12 : PySem.W.codeIn K cd12 "_law_slip" = true) (k12 : PySem.W.keepIn K (.ref f12) = true)
    (a13 : PySem.W.nsIn K mainGlobals "_law_lines" = some (some (.ref f13)))
    (l13 : K.lookup f13 = some ⟨oc13, od13, .func (PySem.W.fnOf "_law_lines" "_law_lines" (defArgs s_law_lines) (defBody s_law_lines) (defScope s_law_lines) .none kV13 dc13 pm13 an13 cd13 ct13), sl13⟩) (c13 : PySem.W.codeIn K cd13 "_law_lines" = true) (k13 : PySem.W.keepIn K (.ref f13) = true)
    (a14 : PySem.W.nsIn K mainGlobals "_law_together" = some (some (.ref f14)))
    (l14 : K.lookup f14 = some ⟨oc14, od14, .func (PySem.W.fnOf "_law_together" "_law_together" (defArgs s_law_together) (defBody s_law_together) (defScope s_law_together) .none kV14 dc14 pm14 an14 cd14 ct14), sl14⟩) (c14 : PySem.W.codeIn K cd14 "_law_together" = true) (k14 : PySem.W.keepIn K (.ref f14) = true)
    (a15 : PySem.W.nsIn K mainGlobals "_law_same" = some (some (.ref f15)))
    (l15 : K.lookup f15 = some ⟨oc15, od15, .func (PySem.W.fnOf "_law_same" "_law_same" (defArgs s_law_same) (defBody s_law_same) (defScope s_law_same) .none kV15 dc15 pm15 an15 cd15 ct15), sl15⟩) (c15 : PySem.W.codeIn K cd15 "_law_same" = true) (k15 : PySem.W.keepIn K (.ref f15) = true)
    (a16 : PySem.W.nsIn K mainGlobals "_law_bad_rows" = some (some (.ref f16)))
    (l16 : K.lookup f16 = some ⟨oc16, od16, .func (PySem.W.fnOf "_law_bad_rows" "_law_bad_rows" (defArgs s_law_bad_rows) (defBody s_law_bad_rows) (defScope s_law_bad_rows) .none kV16 dc16 pm16 an16 cd16 ct16), sl16⟩) (c16 : PySem.W.codeIn K cd16 "_law_bad_rows" = true) (k16 : PySem.W.keepIn K (.ref f16) = true)
    (a17 : PySem.W.nsIn K mainGlobals "_law_due" = some (some (.ref f17)))
    (l17 : K.lookup f17 = some ⟨oc17, od17, .func (PySem.W.fnOf "_law_due" "_law_due" (defArgs s_law_due) (defBody s_law_due) (defScope s_law_due) .none kV17 dc17 pm17 an17 cd17 ct17), sl17⟩) (c17 : PySem.W.codeIn K cd17 "_law_due" = true) (k17 : PySem.W.keepIn K (.ref f17) = true)
    (a18 : PySem.W.nsIn K mainGlobals "sheet_of" = some (some (.ref f18)))
    (l18 : K.lookup f18 = some ⟨oc18, od18, .func (PySem.W.fnOf "sheet_of" "sheet_of" (defArgs s_sheet_of) (defBody s_sheet_of) (defScope s_sheet_of) .none kV18 dc18 pm18 an18 cd18 ct18), sl18⟩) (c18 : PySem.W.codeIn K cd18 "sheet_of" = true) (k18 : PySem.W.keepIn K (.ref f18) = true)
    (a19 : PySem.W.nsIn K mainGlobals "changed" = some (some (.ref f19)))
    (l19 : K.lookup f19 = some ⟨oc19, od19, .func (PySem.W.fnOf "changed" "changed" (defArgs s_changed) (defBody s_changed) (defScope s_changed) .none kV19 dc19 pm19 an19 cd19 ct19), sl19⟩) (c19 : PySem.W.codeIn K cd19 "changed" = true) (k19 : PySem.W.keepIn K (.ref f19) = true)
    (a20 : PySem.W.nsIn K mainGlobals "_law_no_sheet" = some (some (.ref f20)))
    (l20 : K.lookup f20 = some ⟨oc20, od20, .func (PySem.W.fnOf "_law_no_sheet" "_law_no_sheet" (defArgs s_law_no_sheet) (defBody s_law_no_sheet) (defScope s_law_no_sheet) .none kV20 dc20 pm20 an20 cd20 ct20), sl20⟩) (c20 : PySem.W.codeIn K cd20 "_law_no_sheet" = true) (k20 : PySem.W.keepIn K (.ref f20) = true)
    (a21 : PySem.W.nsIn K mainGlobals "_law_no_change" = some (some (.ref f21)))
    (l21 : K.lookup f21 = some ⟨oc21, od21, .func (PySem.W.fnOf "_law_no_change" "_law_no_change" (defArgs s_law_no_change) (defBody s_law_no_change) (defScope s_law_no_change) .none kV21 dc21 pm21 an21 cd21 ct21), sl21⟩) (c21 : PySem.W.codeIn K cd21 "_law_no_change" = true) (k21 : PySem.W.keepIn K (.ref f21) = true)
    (a22 : PySem.W.nsIn K mainGlobals "_law_good" = some (some (.ref f22)))
    (l22 : K.lookup f22 = some ⟨oc22, od22, .func (PySem.W.fnOf "_law_good" "_law_good" (defArgs s_law_good) (defBody s_law_good) (defScope s_law_good) .none kV22 dc22 pm22 an22 cd22 ct22), sl22⟩) (c22 : PySem.W.codeIn K cd22 "_law_good" = true) (k22 : PySem.W.keepIn K (.ref f22) = true)
    (a23 : PySem.W.nsIn K mainGlobals "law" = some (some (.ref f23)))
    (l23 : K.lookup f23 = some ⟨oc23, od23, .func (PySem.W.fnOf "law" "law" (defArgs s_law) (defBody s_law) (defScope s_law) .none kV23 dc23 pm23 an23 cd23 ct23), sl23⟩) (c23 : PySem.W.codeIn K cd23 "law" = true) (k23 : PySem.W.keepIn K (.ref f23) = true)
    (z0 : PySem.W.nsIn K mainGlobals "ValueError" = some none)
    (z1 : PySem.W.nsIn K mainGlobals "any" = some none)
    (z2 : PySem.W.nsIn K mainGlobals "bool" = some none)
    (z3 : PySem.W.nsIn K mainGlobals "dict" = some none)
    (z4 : PySem.W.nsIn K mainGlobals "int" = some none)
    (z5 : PySem.W.nsIn K mainGlobals "isinstance" = some none)
    (z6 : PySem.W.nsIn K mainGlobals "len" = some none)
    (z7 : PySem.W.nsIn K mainGlobals "list" = some none)
    (z8 : PySem.W.nsIn K mainGlobals "max" = some none)
    (z9 : PySem.W.nsIn K mainGlobals "min" = some none)
    (z10 : PySem.W.nsIn K mainGlobals "range" = some none)
    (z11 : PySem.W.nsIn K mainGlobals "sorted" = some none)
    (z12 : PySem.W.nsIn K mainGlobals "sum" = some none)
    (z13 : PySem.W.nsIn K mainGlobals "tuple" = some none)
    (kc_MOST_BALLOTS : PySem.W.nsIn K mainGlobals "MOST_BALLOTS" = some (some (.int 1000000000 t_MOST_BALLOTS)))
    (mc_WrongNumber : PySem.W.nsIn K mainGlobals "WrongNumber" = some (some (.ref c_WrongNumber))) (ty_WrongNumber : PySem.W.typeIn K (.ref c_WrongNumber) = some (.type "type")) (be_WrongNumber : PySem.W.mroIn K c_WrongNumber (.type "BaseException") = some true)
    (mc_Torn : PySem.W.nsIn K mainGlobals "Torn" = some (some (.ref c_Torn))) (ty_Torn : PySem.W.typeIn K (.ref c_Torn) = some (.type "type")) (be_Torn : PySem.W.mroIn K c_Torn (.type "BaseException") = some true)
    (mc_TooHard : PySem.W.nsIn K mainGlobals "TooHard" = some (some (.ref c_TooHard))) (ty_TooHard : PySem.W.typeIn K (.ref c_TooHard) = some (.type "type")) (be_TooHard : PySem.W.mroIn K c_TooHard (.type "BaseException") = some true)
    (mc_NoWay : PySem.W.nsIn K mainGlobals "NoWay" = some (some (.ref c_NoWay))) (ty_NoWay : PySem.W.typeIn K (.ref c_NoWay) = some (.type "type")) (be_NoWay : PySem.W.mroIn K c_NoWay (.type "BaseException") = some true)
    (mc_NoRow : PySem.W.nsIn K mainGlobals "NoRow" = some (some (.ref c_NoRow))) (ty_NoRow : PySem.W.typeIn K (.ref c_NoRow) = some (.type "type")) (be_NoRow : PySem.W.mroIn K c_NoRow (.type "BaseException") = some true)
    (mc_NoNumber : PySem.W.nsIn K mainGlobals "NoNumber" = some (some (.ref c_NoNumber))) (ty_NoNumber : PySem.W.typeIn K (.ref c_NoNumber) = some (.type "type")) (be_NoNumber : PySem.W.mroIn K c_NoNumber (.type "BaseException") = some true)
    (mc_NoBundle : PySem.W.nsIn K mainGlobals "NoBundle" = some (some (.ref c_NoBundle))) (ty_NoBundle : PySem.W.typeIn K (.ref c_NoBundle) = some (.type "type")) (be_NoBundle : PySem.W.mroIn K c_NoBundle (.type "BaseException") = some true)
    (mc_NoBallot : PySem.W.nsIn K mainGlobals "NoBallot" = some (some (.ref c_NoBallot))) (ty_NoBallot : PySem.W.typeIn K (.ref c_NoBallot) = some (.type "type")) (be_NoBallot : PySem.W.mroIn K c_NoBallot (.type "BaseException") = some true)
    (mc_Ended : PySem.W.nsIn K mainGlobals "Ended" = some (some (.ref c_Ended))) (ty_Ended : PySem.W.typeIn K (.ref c_Ended) = some (.type "type")) (be_Ended : PySem.W.mroIn K c_Ended (.type "BaseException") = some true)
    (mc_NoChange : PySem.W.nsIn K mainGlobals "NoChange" = some (some (.ref c_NoChange))) (ty_NoChange : PySem.W.typeIn K (.ref c_NoChange) = some (.type "type")) (be_NoChange : PySem.W.mroIn K c_NoChange (.type "BaseException") = some true)
    (mc_NoSheet : PySem.W.nsIn K mainGlobals "NoSheet" = some (some (.ref c_NoSheet))) (ty_NoSheet : PySem.W.typeIn K (.ref c_NoSheet) = some (.type "type")) (be_NoSheet : PySem.W.mroIn K c_NoSheet (.type "BaseException") = some true)
    (mc_PollError : PySem.W.nsIn K mainGlobals "PollError" = some (some (.ref c_PollError))) (ty_PollError : PySem.W.typeIn K (.ref c_PollError) = some (.type "type")) (be_PollError : PySem.W.mroIn K c_PollError (.type "BaseException") = some true)
    (gt0 : PySem.W.specialIn K (.builtin "object.__class__") "__get__" = some (some (.builtin "getset_descriptor.__get__"))) (tk0 : PySem.W.takesIn K (.builtin "object.__class__") = some true)
    (xq_NoChange : PySem.W.excIn K c_NoChange [.type "ValueError", .type "Exception", .type "BaseException", .type "object"] "ValueError.__new__" = true)
    (xq_NoSheet : PySem.W.excIn K c_NoSheet [.type "ValueError", .type "Exception", .type "BaseException", .type "object"] "ValueError.__new__" = true)
    (ga_NoChange : PySem.W.findIn K (.ref c_NoChange) "__getattribute__" = some (some (.builtin "BaseException.__getattribute__"))) (gh_NoChange : PySem.W.findIn K (.ref c_NoChange) "__getattr__" = some none) (cl_NoChange : PySem.W.findIn K (.ref c_NoChange) "__class__" = some (some (.builtin "object.__class__"))) (ob_NoChange : PySem.W.mroIn K c_NoChange (.type "object") = some true) (ve_NoChange : PySem.W.subIn K (.ref c_NoChange) (.type "ValueError") = some true)
    (su_NoChange_WrongNumber : PySem.W.subIn K (.ref c_NoChange) (.ref c_WrongNumber) = some false)
    (su_NoChange_Torn : PySem.W.subIn K (.ref c_NoChange) (.ref c_Torn) = some false)
    (su_NoChange_TooHard : PySem.W.subIn K (.ref c_NoChange) (.ref c_TooHard) = some false)
    (su_NoChange_NoWay : PySem.W.subIn K (.ref c_NoChange) (.ref c_NoWay) = some false)
    (su_NoChange_NoRow : PySem.W.subIn K (.ref c_NoChange) (.ref c_NoRow) = some false)
    (su_NoChange_NoNumber : PySem.W.subIn K (.ref c_NoChange) (.ref c_NoNumber) = some false)
    (su_NoChange_NoBundle : PySem.W.subIn K (.ref c_NoChange) (.ref c_NoBundle) = some false)
    (su_NoChange_NoBallot : PySem.W.subIn K (.ref c_NoChange) (.ref c_NoBallot) = some false)
    (su_NoChange_Ended : PySem.W.subIn K (.ref c_NoChange) (.ref c_Ended) = some false)
    (su_NoChange_NoChange : PySem.W.subIn K (.ref c_NoChange) (.ref c_NoChange) = some true)
    (su_NoChange_NoSheet : PySem.W.subIn K (.ref c_NoChange) (.ref c_NoSheet) = some false)
    (su_NoChange_PollError : PySem.W.subIn K (.ref c_NoChange) (.ref c_PollError) = some true)
    (ga_NoSheet : PySem.W.findIn K (.ref c_NoSheet) "__getattribute__" = some (some (.builtin "BaseException.__getattribute__"))) (gh_NoSheet : PySem.W.findIn K (.ref c_NoSheet) "__getattr__" = some none) (cl_NoSheet : PySem.W.findIn K (.ref c_NoSheet) "__class__" = some (some (.builtin "object.__class__"))) (ob_NoSheet : PySem.W.mroIn K c_NoSheet (.type "object") = some true) (ve_NoSheet : PySem.W.subIn K (.ref c_NoSheet) (.type "ValueError") = some true)
    (su_NoSheet_WrongNumber : PySem.W.subIn K (.ref c_NoSheet) (.ref c_WrongNumber) = some false)
    (su_NoSheet_Torn : PySem.W.subIn K (.ref c_NoSheet) (.ref c_Torn) = some false)
    (su_NoSheet_TooHard : PySem.W.subIn K (.ref c_NoSheet) (.ref c_TooHard) = some false)
    (su_NoSheet_NoWay : PySem.W.subIn K (.ref c_NoSheet) (.ref c_NoWay) = some false)
    (su_NoSheet_NoRow : PySem.W.subIn K (.ref c_NoSheet) (.ref c_NoRow) = some false)
    (su_NoSheet_NoNumber : PySem.W.subIn K (.ref c_NoSheet) (.ref c_NoNumber) = some false)
    (su_NoSheet_NoBundle : PySem.W.subIn K (.ref c_NoSheet) (.ref c_NoBundle) = some false)
    (su_NoSheet_NoBallot : PySem.W.subIn K (.ref c_NoSheet) (.ref c_NoBallot) = some false)
    (su_NoSheet_Ended : PySem.W.subIn K (.ref c_NoSheet) (.ref c_Ended) = some false)
    (su_NoSheet_NoChange : PySem.W.subIn K (.ref c_NoSheet) (.ref c_NoChange) = some false)
    (su_NoSheet_NoSheet : PySem.W.subIn K (.ref c_NoSheet) (.ref c_NoSheet) = some true)
    (su_NoSheet_PollError : PySem.W.subIn K (.ref c_NoSheet) (.ref c_PollError) = some true) :
    ∃ fd : FuncData, (∀ (s : Shared) (v : Value), BindsTo s fd ⟨[v], []⟩ [("_law_script", v)]) ∧ ∀ base : Heap, K.In base → base.Ns mainGlobals mg → FnOk l.prog w K mg base CX0 5 fa fd ["_law_script"] (spLaw K) := by
  have e := hfa.symm.trans (PySem.W.mg_of X G a23)
  cases e
  have F1 := fun_mk (st := s_is_whole) l1 c1 k1
  have b1 := F1.binds (ps := ["thing"]) fun _ _ _ _ _ _ us hl => match us, hl with | [_], _ => rfl
  have F2 := fun_mk (st := s_numbers_by_slip) l2 c2 k2
  have b2 := F2.binds (ps := ["lines"]) fun _ _ _ _ _ _ us hl => match us, hl with | [_], _ => rfl
  have F3 := fun_mk (st := s_sheet_from) l3 c3 k3
  have b3 := F3.binds (ps := ["numbers"]) fun _ _ _ _ _ _ us hl => match us, hl with | [_], _ => rfl
  have F4 := fun_mk (st := s_law_whole) l4 c4 k4
  have b4 := F4.binds (ps := ["_law_found"]) fun _ _ _ _ _ _ us hl => match us, hl with | [_], _ => rfl
  have F5 := fun_mk (st := s_law_cell) l5 c5 k5
  have b5 := F5.binds (ps := ["_law_script", "_law_k"]) fun _ _ _ _ _ _ us hl => match us, hl with | [_, _], _ => rfl
  have F6 := fun_mk (st := s_law_mixed) l6 c6 k6
  have b6 := F6.binds (ps := ["_law_cell_here", "_law_by"]) fun _ _ _ _ _ _ us hl => match us, hl with | [_, _], _ => rfl
  have F7 := fun_mk (st := s_law_sheet) l7 c7 k7
  have b7 := F7.binds (ps := ["_law_many"]) fun _ _ _ _ _ _ us hl => match us, hl with | [_], _ => rfl
  have F8 := fun_mk (st := s_law_other) l8 c8 k8
  have b8 := F8.binds (ps := ["_law_e"]) fun _ _ _ _ _ _ us hl => match us, hl with | [_], _ => rfl
  have F9 := fun_mk (st := s_law_bad_numbers) l9 c9 k9
  have b9 := F9.binds (ps := ["_law_cell_here"]) fun _ _ _ _ _ _ us hl => match us, hl with | [_], _ => rfl
  have F10 := fun_mk (st := s_is_number) l10 c10 k10
  have b10 := F10.binds (ps := ["thing"]) fun _ _ _ _ _ _ us hl => match us, hl with | [_], _ => rfl
  have F11 := fun_mk (st := s_check_row) l11 c11 k11
  have b11 := F11.binds (ps := ["old", "new", "number"]) fun _ _ _ _ _ _ us hl => match us, hl with | [_, _, _], _ => rfl
  have F12 := fun_mk (st := s_law_slip) l12 c12 k12
  have b12 := F12.binds (ps := ["_law_cell_here", "_law_hands"]) fun _ _ _ _ _ _ us hl => match us, hl with | [_, _], _ => rfl
  have F13 := fun_mk (st := s_law_lines) l13 c13 k13
  have b13 := F13.binds (ps := ["_law_script", "_law_start", "_law_most", "_law_pool"]) fun _ _ _ _ _ _ us hl => match us, hl with | [_, _, _, _], _ => rfl
  have F14 := fun_mk (st := s_law_together) l14 c14 k14
  have b14 := F14.binds (ps := ["_law_lines_here"]) fun _ _ _ _ _ _ us hl => match us, hl with | [_], _ => rfl
  have F15 := fun_mk (st := s_law_same) l15 c15 k15
  have b15 := F15.binds (ps := ["_law_found", "_law_due_here"]) fun _ _ _ _ _ _ us hl => match us, hl with | [_, _], _ => rfl
  have F16 := fun_mk (st := s_law_bad_rows) l16 c16 k16
  have b16 := F16.binds (ps := ["_law_sheet_here", "_law_rows", "_law_cell_here"]) fun _ _ _ _ _ _ us hl => match us, hl with | [_, _, _], _ => rfl
  have F17 := fun_mk (st := s_law_due) l17 c17 k17
  have b17 := F17.binds (ps := ["_law_sheet_here", "_law_rows"]) fun _ _ _ _ _ _ us hl => match us, hl with | [_, _], _ => rfl
  have F18 := fun_mk (st := s_sheet_of) l18 c18 k18
  have b18 := F18.binds (ps := ["lines"]) fun _ _ _ _ _ _ us hl => match us, hl with | [_], _ => rfl
  have F19 := fun_mk (st := s_changed) l19 c19 k19
  have b19 := F19.binds (ps := ["sheet", "change"]) fun _ _ _ _ _ _ us hl => match us, hl with | [_, _], _ => rfl
  have F20 := fun_mk (st := s_law_no_sheet) l20 c20 k20
  have b20 := F20.binds (ps := ["_law_lines_here"]) fun _ _ _ _ _ _ us hl => match us, hl with | [_], _ => rfl
  have F21 := fun_mk (st := s_law_no_change) l21 c21 k21
  have b21 := F21.binds (ps := ["_law_sheet_here", "_law_rows"]) fun _ _ _ _ _ _ us hl => match us, hl with | [_, _], _ => rfl
  have F22 := fun_mk (st := s_law_good) l22 c22 k22
  have b22 := F22.binds (ps := ["_law_lines_here", "_law_sheet_here", "_law_rows", "_law_due_here"]) fun _ _ _ _ _ _ us hl => match us, hl with | [_, _, _, _], _ => rfl
  have F23 := fun_mk (st := s_law) l23 c23 k23
  have b23 := F23.binds (ps := ["_law_script"]) fun _ _ _ _ _ _ us hl => match us, hl with | [_], _ => rfl
  have T : Tx K mg (⟨f1, _, f2, _, f3, _, f4, _, f5, _, f6, _, f7, _, f8, _, f9, _, f10, _, f11, _, f12, _, f13, _, f14, _, f15, _, f16, _, f17, _, f18, _, f19, _, f20, _, f21, _, f22, _, fa, _, c_WrongNumber, c_Torn, c_TooHard, c_NoWay, c_NoRow, c_NoNumber, c_NoBundle, c_NoBallot, c_Ended, c_NoChange, c_NoSheet, c_PollError, t_MOST_BALLOTS⟩ : Ads) := ⟨F1, b1, PySem.W.mg_of X G a1, F2, b2, PySem.W.mg_of X G a2, F3, b3, PySem.W.mg_of X G a3, F4, b4, PySem.W.mg_of X G a4, F5, b5, PySem.W.mg_of X G a5, F6, b6, PySem.W.mg_of X G a6, F7, b7, PySem.W.mg_of X G a7, F8, b8, PySem.W.mg_of X G a8, F9, b9, PySem.W.mg_of X G a9, F10, b10, PySem.W.mg_of X G a10, F11, b11, PySem.W.mg_of X G a11, F12, b12, PySem.W.mg_of X G a12, F13, b13, PySem.W.mg_of X G a13, F14, b14, PySem.W.mg_of X G a14, F15, b15, PySem.W.mg_of X G a15, F16, b16, PySem.W.mg_of X G a16, F17, b17, PySem.W.mg_of X G a17, F18, b18, PySem.W.mg_of X G a18, F19, b19, PySem.W.mg_of X G a19, F20, b20, PySem.W.mg_of X G a20, F21, b21, PySem.W.mg_of X G a21, F22, b22, PySem.W.mg_of X G a22, F23, b23, PySem.W.mg_of X G a23, PySem.W.mg_none_of X G z0, PySem.W.mg_none_of X G z1, PySem.W.mg_none_of X G z2, PySem.W.mg_none_of X G z3, PySem.W.mg_none_of X G z4, PySem.W.mg_none_of X G z5, PySem.W.mg_none_of X G z6, PySem.W.mg_none_of X G z7, PySem.W.mg_none_of X G z8, PySem.W.mg_none_of X G z9, PySem.W.mg_none_of X G z10, PySem.W.mg_none_of X G z11, PySem.W.mg_none_of X G z12, PySem.W.mg_none_of X G z13, PySem.W.mg_of X G kc_MOST_BALLOTS, PySem.W.mg_of X G mc_WrongNumber, ⟨ty_WrongNumber, be_WrongNumber⟩, PySem.W.mg_of X G mc_Torn, ⟨ty_Torn, be_Torn⟩, PySem.W.mg_of X G mc_TooHard, ⟨ty_TooHard, be_TooHard⟩, PySem.W.mg_of X G mc_NoWay, ⟨ty_NoWay, be_NoWay⟩, PySem.W.mg_of X G mc_NoRow, ⟨ty_NoRow, be_NoRow⟩, PySem.W.mg_of X G mc_NoNumber, ⟨ty_NoNumber, be_NoNumber⟩, PySem.W.mg_of X G mc_NoBundle, ⟨ty_NoBundle, be_NoBundle⟩, PySem.W.mg_of X G mc_NoBallot, ⟨ty_NoBallot, be_NoBallot⟩, PySem.W.mg_of X G mc_Ended, ⟨ty_Ended, be_Ended⟩, PySem.W.mg_of X G mc_NoChange, ⟨ty_NoChange, be_NoChange⟩, PySem.W.mg_of X G mc_NoSheet, ⟨ty_NoSheet, be_NoSheet⟩, PySem.W.mg_of X G mc_PollError, ⟨ty_PollError, be_PollError⟩, xq_NoChange, ⟨⟨ga_NoChange, gh_NoChange, be_NoChange⟩, cl_NoChange, gt0, tk0, ob_NoChange⟩, ve_NoChange, su_NoChange_WrongNumber, su_NoChange_Torn, su_NoChange_TooHard, su_NoChange_NoWay, su_NoChange_NoRow, su_NoChange_NoNumber, su_NoChange_NoBundle, su_NoChange_NoBallot, su_NoChange_Ended, su_NoChange_NoChange, su_NoChange_NoSheet, su_NoChange_PollError, xq_NoSheet, ⟨⟨ga_NoSheet, gh_NoSheet, be_NoSheet⟩, cl_NoSheet, gt0, tk0, ob_NoSheet⟩, ve_NoSheet, su_NoSheet_WrongNumber, su_NoSheet_Torn, su_NoSheet_TooHard, su_NoSheet_NoWay, su_NoSheet_NoRow, su_NoSheet_NoNumber, su_NoSheet_NoBundle, su_NoSheet_NoBallot, su_NoSheet_Ended, su_NoSheet_NoChange, su_NoSheet_NoSheet, su_NoSheet_PollError⟩
  exact ⟨PySem.W.fnOf "law" "law" (defArgs s_law) (defBody s_law) (defScope s_law) .none kV23 dc23 pm23 an23 cd23 ct23, fun s v => .of_eq rfl, fun base _ _ => ok_law T⟩
theorem walk {l : PySem.W.OpenLaw} {q : Program} {loose : List Str} {XP : (Str → Option Value) → Heap → Prop} {YP : World → Heap → Prop} {d : DefRec} {K : Params → PySem.W.Frag} (hn : l.most = some 63) (hdf : d.params.defaults = [])
    (hY : ∀ (w : World) (h : Heap), YP w h → (K w.params).In h)
    (F : ∀ (w : World) (mg : Str → Option Value) (fa : Addr) (h : Heap), (K w.params).In h → h.Ns mainGlobals mg → mg d.name = some (.ref fa) →
      ∃ fd : FuncData, (∀ (s : Shared) (u : Value), BindsTo s fd ⟨[u], []⟩ [("_law_script", u)]) ∧ ∀ base : Heap, (K w.params).In base → base.Ns mainGlobals mg → FnOk l.prog w (K w.params) mg base CX0 5 fa fd ["_law_script"] (spLaw (K w.params))) :
    PySem.W.WalkO q loose XP YP l.row.toRowW d [] (fun f vs => PySem.call f vs) :=
  L2.walk_of (n := 63) (k := 5) (x := "_law_script") (CX := fun _ => CX0) (sp := fun w => spLaw (K w.params)) hn (by decide) hdf ⟨rfl, by decide, by decide⟩ hY F (fun _ _ a ns hl _ hS => ⟨a, ns, rfl, hS, hl, fun _ => rfl⟩) fun _ _ _ _ _ z => z
end Law
open PySem PySem.W PyProof.Rows
set_option maxRecDepth 100000 in
set_option maxHeartbeats 0 in
theorem PySem.Challenge.cw_pollproof_k28_changes_and_lines_refused_holds : PySem.Challenge.rw_pollproof_k28_changes_and_lines_refused.Holds := by
  refine Head.top ?_
  k_fill
  refine Law.walk (l := PySem.Challenge.rw_pollproof_k28_changes_and_lines_refused) rfl rfl (fun w h Y => PySem.W.kIn_of Y) ?F
  case F =>
    intro w mg fa h KX G hmg
    refine' Law.all_mk KX G hmg ?a1 ?l1 ?c1 ?k1 ?a2 ?l2 ?c2 ?k2 ?a3 ?l3 ?c3 ?k3 ?a4 ?l4 ?c4 ?k4 ?a5 ?l5 ?c5 ?k5 ?a6 ?l6 ?c6 ?k6 ?a7 ?l7 ?c7 ?k7 ?a8 ?l8 ?c8 ?k8 ?a9 ?l9 ?c9 ?k9 ?a10 ?l10 ?c10 ?k10 ?a11 ?l11 ?c11 ?k11 ?a12 ?l12 ?c12 ?k12 ?a13 ?l13 ?c13 ?k13 ?a14 ?l14 ?c14 ?k14 ?a15 ?l15 ?c15 ?k15 ?a16 ?l16 ?c16 ?k16 ?a17 ?l17 ?c17 ?k17 ?a18 ?l18 ?c18 ?k18 ?a19 ?l19 ?c19 ?k19 ?a20 ?l20 ?c20 ?k20 ?a21 ?l21 ?c21 ?k21 ?a22 ?l22 ?c22 ?k22 ?a23 ?l23 ?c23 ?k23 ?z0 ?z1 ?z2 ?z3 ?z4 ?z5 ?z6 ?z7 ?z8 ?z9 ?z10 ?z11 ?z12 ?z13 ?kc_MOST_BALLOTS ?mc_WrongNumber ?ty_WrongNumber ?be_WrongNumber ?mc_Torn ?ty_Torn ?be_Torn ?mc_TooHard ?ty_TooHard ?be_TooHard ?mc_NoWay ?ty_NoWay ?be_NoWay ?mc_NoRow ?ty_NoRow ?be_NoRow ?mc_NoNumber ?ty_NoNumber ?be_NoNumber ?mc_NoBundle ?ty_NoBundle ?be_NoBundle ?mc_NoBallot ?ty_NoBallot ?be_NoBallot ?mc_Ended ?ty_Ended ?be_Ended ?mc_NoChange ?ty_NoChange ?be_NoChange ?mc_NoSheet ?ty_NoSheet ?be_NoSheet ?mc_PollError ?ty_PollError ?be_PollError ?gt0 ?tk0 ?xq_NoChange ?xq_NoSheet ?ga_NoChange ?gh_NoChange ?cl_NoChange ?ob_NoChange ?ve_NoChange ?su_NoChange_WrongNumber ?su_NoChange_Torn ?su_NoChange_TooHard ?su_NoChange_NoWay ?su_NoChange_NoRow ?su_NoChange_NoNumber ?su_NoChange_NoBundle ?su_NoChange_NoBallot ?su_NoChange_Ended ?su_NoChange_NoChange ?su_NoChange_NoSheet ?su_NoChange_PollError ?ga_NoSheet ?gh_NoSheet ?cl_NoSheet ?ob_NoSheet ?ve_NoSheet ?su_NoSheet_WrongNumber ?su_NoSheet_Torn ?su_NoSheet_TooHard ?su_NoSheet_NoWay ?su_NoSheet_NoRow ?su_NoSheet_NoNumber ?su_NoSheet_NoBundle ?su_NoSheet_NoBallot ?su_NoSheet_Ended ?su_NoSheet_NoChange ?su_NoSheet_NoSheet ?su_NoSheet_PollError
    (case a1 => k_is)
    (case l1 => k_is)
    (case c1 => k_is)
    (case k1 => k_is)
    (case a2 => k_is)
    (case l2 => k_is)
    (case c2 => k_is)
    (case k2 => k_is)
    (case a3 => k_is)
    (case l3 => k_is)
    (case c3 => k_is)
    (case k3 => k_is)
    (case a4 => k_is)
    (case l4 => k_is)
    (case c4 => k_is)
    (case k4 => k_is)
    (case a5 => k_is)
    (case l5 => k_is)
    (case c5 => k_is)
    (case k5 => k_is)
    (case a6 => k_is)
    (case l6 => k_is)
    (case c6 => k_is)
    (case k6 => k_is)
    (case a7 => k_is)
    (case l7 => k_is)
    (case c7 => k_is)
    (case k7 => k_is)
    (case a8 => k_is)
    (case l8 => k_is)
    (case c8 => k_is)
    (case k8 => k_is)
    (case a9 => k_is)
    (case l9 => k_is)
    (case c9 => k_is)
    (case k9 => k_is)
    (case a10 => k_is)
    (case l10 => k_is)
    (case c10 => k_is)
    (case k10 => k_is)
    (case a11 => k_is)
    (case l11 => k_is)
    (case c11 => k_is)
    (case k11 => k_is)
    (case a12 => k_is)
    (case l12 => k_is)
    (case c12 => k_is)
    (case k12 => k_is)
    (case a13 => k_is)
    (case l13 => k_is)
    (case c13 => k_is)
    (case k13 => k_is)
    (case a14 => k_is)
    (case l14 => k_is)
    (case c14 => k_is)
    (case k14 => k_is)
    (case a15 => k_is)
    (case l15 => k_is)
    (case c15 => k_is)
    (case k15 => k_is)
    (case a16 => k_is)
    (case l16 => k_is)
    (case c16 => k_is)
    (case k16 => k_is)
    (case a17 => k_is)
    (case l17 => k_is)
    (case c17 => k_is)
    (case k17 => k_is)
    (case a18 => k_is)
    (case l18 => k_is)
    (case c18 => k_is)
    (case k18 => k_is)
    (case a19 => k_is)
    (case l19 => k_is)
    (case c19 => k_is)
    (case k19 => k_is)
    (case a20 => k_is)
    (case l20 => k_is)
    (case c20 => k_is)
    (case k20 => k_is)
    (case a21 => k_is)
    (case l21 => k_is)
    (case c21 => k_is)
    (case k21 => k_is)
    (case a22 => k_is)
    (case l22 => k_is)
    (case c22 => k_is)
    (case k22 => k_is)
    (case a23 => k_is)
    (case l23 => k_is)
    (case c23 => k_is)
    (case k23 => k_is)
    (case z0 => k_is)
    (case z1 => k_is)
    (case z2 => k_is)
    (case z3 => k_is)
    (case z4 => k_is)
    (case z5 => k_is)
    (case z6 => k_is)
    (case z7 => k_is)
    (case z8 => k_is)
    (case z9 => k_is)
    (case z10 => k_is)
    (case z11 => k_is)
    (case z12 => k_is)
    (case z13 => k_is)
    (case kc_MOST_BALLOTS => k_is)
    (case mc_WrongNumber => k_is)
    (case ty_WrongNumber => k_is)
    (case be_WrongNumber => k_is)
    (case mc_Torn => k_is)
    (case ty_Torn => k_is)
    (case be_Torn => k_is)
    (case mc_TooHard => k_is)
    (case ty_TooHard => k_is)
    (case be_TooHard => k_is)
    (case mc_NoWay => k_is)
    (case ty_NoWay => k_is)
    (case be_NoWay => k_is)
    (case mc_NoRow => k_is)
    (case ty_NoRow => k_is)
    (case be_NoRow => k_is)
    (case mc_NoNumber => k_is)
    (case ty_NoNumber => k_is)
    (case be_NoNumber => k_is)
    (case mc_NoBundle => k_is)
    (case ty_NoBundle => k_is)
    (case be_NoBundle => k_is)
    (case mc_NoBallot => k_is)
    (case ty_NoBallot => k_is)
    (case be_NoBallot => k_is)
    (case mc_Ended => k_is)
    (case ty_Ended => k_is)
    (case be_Ended => k_is)
    (case mc_NoChange => k_is)
    (case ty_NoChange => k_is)
    (case be_NoChange => k_is)
    (case mc_NoSheet => k_is)
    (case ty_NoSheet => k_is)
    (case be_NoSheet => k_is)
    (case mc_PollError => k_is)
    (case ty_PollError => k_is)
    (case be_PollError => k_is)
    (case gt0 => k_is)
    (case tk0 => k_is)
    (case xq_NoChange => k_exc)
    (case xq_NoSheet => k_exc)
    (case ga_NoChange => k_is)
    (case gh_NoChange => k_is)
    (case cl_NoChange => k_is)
    (case ob_NoChange => k_is)
    (case ve_NoChange => k_is)
    (case su_NoChange_WrongNumber => k_is)
    (case su_NoChange_Torn => k_is)
    (case su_NoChange_TooHard => k_is)
    (case su_NoChange_NoWay => k_is)
    (case su_NoChange_NoRow => k_is)
    (case su_NoChange_NoNumber => k_is)
    (case su_NoChange_NoBundle => k_is)
    (case su_NoChange_NoBallot => k_is)
    (case su_NoChange_Ended => k_is)
    (case su_NoChange_NoChange => k_is)
    (case su_NoChange_NoSheet => k_is)
    (case su_NoChange_PollError => k_is)
    (case ga_NoSheet => k_is)
    (case gh_NoSheet => k_is)
    (case cl_NoSheet => k_is)
    (case ob_NoSheet => k_is)
    (case ve_NoSheet => k_is)
    (case su_NoSheet_WrongNumber => k_is)
    (case su_NoSheet_Torn => k_is)
    (case su_NoSheet_TooHard => k_is)
    (case su_NoSheet_NoWay => k_is)
    (case su_NoSheet_NoRow => k_is)
    (case su_NoSheet_NoNumber => k_is)
    (case su_NoSheet_NoBundle => k_is)
    (case su_NoSheet_NoBallot => k_is)
    (case su_NoSheet_Ended => k_is)
    (case su_NoSheet_NoChange => k_is)
    (case su_NoSheet_NoSheet => k_is)
    (case su_NoSheet_PollError => k_is)
#print axioms PySem.Challenge.cw_pollproof_k28_changes_and_lines_refused_holds
