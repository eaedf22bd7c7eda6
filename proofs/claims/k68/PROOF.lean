import PyProof.Rows.All
import Wide.All
import OpenK.AllK
import Wide.FinOn
import Lean
import PyProof.EqAt
import PyProof.EqKinds
import PyProof.TupleCall
import PySem.Challenge.RW_pollproof_k68_papers_of_lists_let_by
set_option Elab.async false
set_option linter.all false
set_option maxRecDepth 100000
namespace Head
open PySem PySem.W PyProof.Rows
def runT (p : Program) (w : World) (n0 : Nat) (ann : Option Value) : Nat → SharedT → Thread → Option SharedT
  | 0, _, _ => none
  | n + 1, s, t => match through t with
    | true => some s
    | false => match stepOk n0 ann t with
      | false => none
      | true => match stepT (denote treeTable) p w s t with
        | some (s', t') => runT p w n0 ann n s' t'
        | none => none
theorem runT_of {p : Program} {w : World} {n0 : Nat} {ann : Option Value} : ∀ {n : Nat} {s s' : SharedT} {t : Thread}, runT p w n0 ann n s t = some s' → topRun treeTable p w n0 ann n s.abs t = some s'.abs
  | 0, _, _, _, h => by cases h
  | n + 1, s, s', t, h => by
    unfold runT at h
    unfold topRun
    cases he : through t with
    | true => rw [he] at h; cases h; rfl
    | false =>
      rw [he] at h
      cases hk : stepOk n0 ann t with
      | false => rw [hk] at h; cases h
      | true =>
        rw [hk] at h
        cases hs : stepT (denote treeTable) p w s t with
        | none => rw [hs] at h; cases h
        | some r => obtain ⟨s2, t2⟩ := r; rw [hs] at h; rw [stepT_spec hs]; exact runT_of h
def grow : List Obj → Nat → BT → Option BT
  | [], _, t => some t
  | o :: os, n, t => match ((t.ins n o).get n).isSome with
    | true => grow os (n + 1) (t.ins n o)
    | false => none
theorem grow_of {life : Life} : ∀ {os : List Obj} {n : Nat} {t t' : BT} {xs : List Obj}, (absHeap t n life) = ⟨xs.toArray, life⟩ → grow os n t = some t' → absHeap t' (n + os.length) life = ⟨(xs ++ os).toArray, life⟩
  | [], n, t, t', xs, a, h => by
    cases h
    rw [List.append_nil]
    exact a
  | o :: os, n, t, t', xs, a, h => by
    unfold grow at h
    cases g : ((t.ins n o).get n).isSome with
    | false => rw [g] at h; cases h
    | true =>
      rw [g] at h
      have b : absHeap (t.ins n o) (n + 1) life = ⟨(xs ++ [o]).toArray, life⟩ := by
        rw [absHeap_ins g, a]
        show (⟨xs.toArray.push o, life⟩ : Heap) = _
        rw [List.push_toArray]
      have c := grow_of b h
      rw [List.append_assoc] at c
      rw [List.length_cons, show n + (os.length + 1) = n + 1 + os.length by omega]
      exact c
theorem grow_all {H : Heap} {T : BT} (h : grow H.objs.toList 0 .nil = some T) : absHeap T H.objs.size H.life = H := by
  have c := grow_of (life := H.life) (n := 0) (t := .nil) (xs := []) rfl h
  rw [Nat.zero_add, Array.length_toList] at c
  rw [c]
  obtain ⟨a, l⟩ := H
  show (⟨([] ++ a.toList).toArray, l⟩ : Heap) = ⟨a, l⟩
  rw [List.nil_append, Array.toArray_toList]
theorem left {p q : Program} {loose : List PySem.Str} {Xt : Shared → Bool} {α : Type} {Yf : Shared → α} {Ya : World → α} {N : Nat} {g0 : Bool}
    (e : opening p = plainProg p.main.scope.names) (hN : Nat.ble 600 N = true) (f : ∀ s, fenceModules? p s = some s)
    (h : ∀ (w : World) (os : OsState), ((grow (boot_heap w.params).objs.toList 0 .nil).bind fun T => (runT p w (boot_heap w.params).objs.size ((boot_heap w.params).nsMap mainGlobals "__annotations__") N ⟨T, (boot_heap w.params).objs.size, (boot_heap w.params).life, Array.mk [], boot_drawn, boot_toks, os⟩ (topStub p)).map fun s =>
      (((boot_heap w.params).isNs mainGlobals, staticsOk (importedModules p.main.body) (boot_heap w.params) s.abs.heap && namesBound p s.abs.heap && gensDone s.abs && laidKept (boot_heap w.params) s.abs.heap), openSeen q loose (importedModules p.main.body) Xt g0 s.abs, Yf s.abs)) =
      some ((true, true), openGood q loose, Ya w)) : LeftO p q loose Xt Yf Ya N g0 := fun w => by
  obtain ⟨⟨hp, gs, d, k, os⟩, e1, e2⟩ := Option.map_eq_some_iff.mp (boot_open e hN f w)
  obtain ⟨rfl, rfl, rfl, rfl⟩ : hp = boot_heap w.params ∧ gs = Array.mk [] ∧ d = boot_drawn ∧ k = boot_toks := by simpa using e2
  have z := h w os
  cases gT : grow (boot_heap w.params).objs.toList 0 .nil with
  | none => rw [gT] at z; cases z
  | some T =>
    rw [gT] at z
    obtain ⟨s, r, y⟩ := Option.map_eq_some_iff.mp z
    have r' := runT_of r
    injection y with y1 y2
    injection y1 with y3 y4
    injection y2 with y5 y6
    have a : (⟨T, (boot_heap w.params).objs.size, (boot_heap w.params).life, Array.mk [], boot_drawn, boot_toks, os⟩ : SharedT).abs = ⟨boot_heap w.params, Array.mk [], boot_drawn, boot_toks, os⟩ := by
      unfold SharedT.abs
      rw [grow_all gT]
    rw [a] at r'
    unfold openEnds
    rw [e1]
    show (topFrom treeTable p w N _).map _ = _
    have t : topFrom treeTable p w N ⟨boot_heap w.params, Array.mk [], boot_drawn, boot_toks, os⟩ = some s.abs := by
      unfold topFrom
      dsimp only
      rw [y3, r']
      show (match staticsOk (importedModules p.main.body) (boot_heap w.params) s.abs.heap && namesBound p s.abs.heap && gensDone s.abs && laidKept (boot_heap w.params) s.abs.heap with | true => _ | false => _) = _
      rw [y4]
    rw [t]
    exact congrArg some (Prod.ext y5 y6)
end Head
namespace Head
open PySem PySem.W PyProof.Rows
abbrev q0 : Program := view PySem.Challenge.pw_pollproof_k68_papers_of_lists_let_by [49]
abbrev r0 : OpenRow := OpenLaw.row PySem.Challenge.rw_pollproof_k68_papers_of_lists_let_by
local macro_rules | `(tactic| o_head $H) => do
  let (hl, hw, hc) := (Lean.mkIdent `hl, Lean.mkIdent `hw, Lean.mkIdent `hc)
  `(tactic| (
    refine holds_open (r := r0) (q := q0) (loose := [PySem.Str.ofString "_wall", PySem.Str.ofString "PollError", PySem.Str.ofString "NoNumber", PySem.Str.ofString "NoWay", PySem.Str.ofString "is_whole", PySem.Str.ofString "divisor", PySem.Str.ofString "up", PySem.Str.ofString "MOST_HANDS", PySem.Str.ofString "MOST_SEATS", PySem.Str.ofString "are_hands", PySem.Str.ofString "are_seats", PySem.Str.ofString "are_lots", PySem.Str.ofString "Way", PySem.Str.ofString "Checker", PySem.Str.ofString "ListsChecker", PySem.Str.ofString "fraction", PySem.Str.ofString "under", PySem.Str.ofString "members", PySem.Str.ofString "ballots_in", PySem.Str.ofString "MOST_STEP", PySem.Str.ofString "vote_of", PySem.Str.ofString "votes_of", PySem.Str.ofString "is_hurdle", PySem.Str.ofString "is_step", PySem.Str.ofString "Lists", PySem.Str.ofString "_law_cell", PySem.Str.ofString "_law_mixed", PySem.Str.ofString "_law_divisor", PySem.Str.ofString "_law_lowest", PySem.Str.ofString "_law_slip", PySem.Str.ofString "_law_number", PySem.Str.ofString "_law_sheet", PySem.Str.ofString "_law_lots", PySem.Str.ofString "_law_hurdle", PySem.Str.ofString "_law_way", PySem.Str.ofString "_law_copy", PySem.Str.ofString "_law_mark", PySem.Str.ofString "_law_rounds", PySem.Str.ofString "_law_spoilt", PySem.Str.ofString "_law_longer_let_by"]) (N := 100000)
      (Xt := fun s => xlAt q0 [] s && recOk (RowW.records (OpenRow.toRowW r0)) s)
      (XP := XL q0 []) (Yf := Hook.obs $H) (Ya := Hook.val $H) (YP := Hook.says $H)
      ?$hl (Hook.of $H) (Hook.keeps $H) (fun s e => xl_of s (Bool.and_eq_true_iff.mp e).1) XL.keeps
      (by rfl) (by rfl) (by rfl) (fun s e => recFacts_of (Bool.and_eq_true_iff.mp e).2) (by rfl) (by assumption)
      (by decide +kernel) ⟨rfl, rfl, rfl, rfl, rfl, by decide +kernel⟩ ?$hw ?$hc;
    (next => (exact left (by kernel_rfl) (by decide) (fun s => by kernel_rfl) (fun w os => by kernel_rfl)))))
set_option maxRecDepth 100000 in
set_option maxHeartbeats 0 in
open_top top for PySem.Challenge.rw_pollproof_k68_papers_of_lists_let_by
end Head
namespace L2
open PySem PySem.Spec PyProof.Rows
abbrev Key := Sum Int Str
def keyIs : Key → Value → Bool
  | .inl k, v => Value.isInt k v
  | .inr x, v => Value.isStrOf x v
def keyH (w : World) : Key → Int
  | .inl k => hashInt k
  | .inr x => hashStr w x
theorem keyIs_shape : ∀ {k : Key} {v : Value}, keyIs k v = true → (∃ i t, k = Sum.inl i ∧ v = Value.int i t) ∨ (∃ x t, k = Sum.inr x ∧ v = Value.str x t)
  | .inl i, v, h => by
    obtain ⟨t, e⟩ := Value.isInt_shape (k := i) (v := v) h
    exact .inl ⟨i, t, rfl, e⟩
  | .inr x, v, h => by
    obtain ⟨t, e⟩ := Value.isStrOf_shape (x := x) (v := v) h
    exact .inr ⟨x, t, rfl, e⟩
theorem keyIs_int (i : Int) (t : Tok) : keyIs (.inl i) (.int i t) = true := by simp [keyIs, Value.isInt]
theorem keyIs_str (x : Str) (t : Tok) : keyIs (.inr x) (.str x t) = true := by simp [keyIs, Value.isStrOf]
theorem key_ll (a b : Int) : decide ((Sum.inl a : Key) = Sum.inl b) = (a == b) := by
  by_cases e : a = b
  · subst e; simp
  · have h : ¬ (Sum.inl a : Key) = Sum.inl b := fun q => e (Sum.inl.inj q)
    rw [decide_eq_false h]
    exact (beq_eq_false_iff_ne.mpr e).symm
theorem key_rr (a b : Str) : decide ((Sum.inr a : Key) = Sum.inr b) = decide (a = b) := by
  by_cases e : a = b
  · subst e; simp
  · have h : ¬ (Sum.inr a : Key) = Sum.inr b := fun q => e (Sum.inr.inj q)
    rw [decide_eq_false h, decide_eq_false e]
theorem key_lr (a : Int) (b : Str) : decide ((Sum.inl a : Key) = Sum.inr b) = false := decide_eq_false (fun q => nomatch q)
theorem key_rl (a : Str) (b : Int) : decide ((Sum.inr a : Key) = Sum.inl b) = false := decide_eq_false (fun q => nomatch q)
def mixKind (prog : Program) (w : World) : PySem.KeyKind prog w Key where
  is := keyIs
  hash := keyH w
  inj := fun v a b ha hb => by
    rcases keyIs_shape ha with ⟨i, t, rfl, rfl⟩ | ⟨x, t, rfl, rfl⟩
    · rcases keyIs_shape hb with ⟨j, u, rfl, e⟩ | ⟨y, u, rfl, e⟩
      · injection e with e1 _; rw [e1]
      · exact nomatch e
    · rcases keyIs_shape hb with ⟨j, u, rfl, e⟩ | ⟨y, u, rfl, e⟩
      · exact nomatch e
      · injection e with e1 _; rw [e1]
  byValue := fun k v h => by
    rcases keyIs_shape h with ⟨i, t, rfl, rfl⟩ | ⟨x, t, rfl, rfl⟩ <;> rfl
  pyHash := fun hv h => by
    rcases keyIs_shape hv with ⟨i, t, rfl, rfl⟩ | ⟨x, t, rfl, rfl⟩
    · exact wpAny_pyHash_int h
    · exact wpAny_pyHash_str h
  eqBool := fun hu hv h => by
    rcases keyIs_shape hu with ⟨i, t, rfl, rfl⟩ | ⟨x, t, rfl, rfl⟩
    · rcases keyIs_shape hv with ⟨j, u, rfl, rfl⟩ | ⟨y, u, rfl, rfl⟩
      · rw [key_ll] at h; exact wpAny_eqBool_int h
      · rw [key_lr] at h; exact SeqAt.EqAt.int_str i t y u _ _ _ _ h
    · rcases keyIs_shape hv with ⟨j, u, rfl, rfl⟩ | ⟨y, u, rfl, rfl⟩
      · rw [key_rl] at h; exact SeqAt.EqAt.str_int x t j u _ _ _ _ h
      · rw [key_rr] at h; exact wpAny_eqBool_str h
  «strs» := fun k x t v h => by
    rcases keyIs_shape h with ⟨i, u, rfl, e⟩ | ⟨y, u, rfl, e⟩
    · exact nomatch e
    · injection e with e1 _
      subst e1
      cases v <;> rfl
theorem mixKind_int (prog : Program) (w : World) (i : Int) (t : Tok) : (mixKind prog w).is (.inl i) (.int i t) = true := keyIs_int i t
theorem mixKind_str (prog : Program) (w : World) (x : Str) (t : Tok) : (mixKind prog w).is (.inr x) (.str x t) = true := keyIs_str x t
end L2
namespace L2
open PySem PySem.Spec PyProof.Rows
inductive V where
  | non | bl (b : Bool) | int (i : Int) | str (x : Str) | byt (b : Array UInt8) | flt (b : UInt64) | ref (a : Addr) | ty (n : String)
  deriving DecidableEq
def RelV : V → Value → Prop
  | .non, u => u = Value.none
  | .bl b, u => u = Value.bool b
  | .int i, u => ∃ t, u = Value.int i t
  | .str x, u => ∃ t, u = Value.str x t
  | .byt b, u => ∃ t, u = Value.bytes b t
  | .flt b, u => ∃ t, u = Value.float b t
  | .ref a, u => u = Value.ref a
  | .ty n, u => u = Value.type n
abbrev Vals : List V → List Value → Prop := Paired RelV
theorem Vals.length {xs : List V} {us : List Value} (r : Vals xs us) : xs.length = us.length := Paired.length r
theorem Vals.get : ∀ {xs : List V} {us : List Value} {i : Nat} {x : V}, Vals xs us → xs[i]? = some x → ∃ u, us[i]? = some u ∧ RelV x u
  | _, _, _, _, .nil, e => by simp at e
  | _, _, 0, _, .cons r _, e => by simp at e; subst e; exact ⟨_, rfl, r⟩
  | _, _, i + 1, x, .cons _ t, e => by
    obtain ⟨u, h1, h2⟩ := Vals.get (i := i) (x := x) t (by simpa using e)
    exact ⟨u, by simpa using h1, h2⟩
theorem Vals.set {x : V} {u : Value} (r : RelV x u) : ∀ {xs : List V} {us : List Value} (i : Nat), Vals xs us → Vals (xs.set i x) (us.set i u)
  | _, _, _, .nil => .nil
  | _, _, 0, .cons _ t => .cons r t
  | _, _, i + 1, .cons q t => .cons q (Vals.set r i t)
theorem Vals.append : ∀ {xs ys : List V} {us ws : List Value}, Vals xs us → Vals ys ws → Vals (xs ++ ys) (us ++ ws)
  | _, _, _, _, .nil, s => s
  | _, _, _, _, .cons r t, s => .cons r (Vals.append t s)
theorem Vals.take : ∀ {xs : List V} {us : List Value} (n : Nat), Vals xs us → Vals (xs.take n) (us.take n)
  | _, _, 0, _ => .nil
  | _, _, _ + 1, .nil => .nil
  | _, _, n + 1, .cons r t => .cons r (Vals.take n t)
theorem Vals.drop : ∀ {xs : List V} {us : List Value} (n : Nat), Vals xs us → Vals (xs.drop n) (us.drop n)
  | _, _, 0, r => r
  | _, _, _ + 1, .nil => .nil
  | _, _, n + 1, .cons _ t => Vals.drop n t
def RelO : Option V → Option Value → Prop
  | some v, some u => RelV v u
  | none, none => True
  | _, _ => False
def KV {κ : Type} : List (κ × V) → List (κ × Value) → Prop := Paired fun (p : κ × V) (q : κ × Value) => p.1 = q.1 ∧ RelV p.2 q.2
def kV : Key → V
  | .inl i => .int i
  | .inr x => .str x
inductive HO where
  | lst (xs : List V)
  | tup (xs : List V)
  | dK (kvs : List (Key × V)) | dT (kvs : List (List Key × V))
  | set (S : Int → Bool) (n : Nat)
  | ins (C dx : Addr) (fs : List (Str × V))
  | own (x : Addr)
  | xd (fs : List (Str × V))
  | met (f x : Addr)
  | rng (lo hi : Int)
  | frz (o : Obj) (u : HO)
  | tbl (ps : Array Value)
  | ext (φ : Heap → Prop)
abbrev Hp := Addr → Option HO
def upd (H : Hp) (a : Addr) (o : HO) : Hp := fun b => if b = a then some o else H b
theorem upd_same {H : Hp} {a : Addr} {o : HO} : upd H a o a = some o := by unfold upd; rw [if_pos rfl]
theorem upd_ne {H : Hp} {a b : Addr} {o : HO} (h : b ≠ a) : upd H a o b = H b := by unfold upd; rw [if_neg h]
theorem upd_upd {H : Hp} {a : Addr} {o u : HO} : upd (upd H a o) a u = upd H a u := by
  funext b; unfold upd; split <;> rfl
theorem ne_of {H : Hp} {a b : Addr} {o u : HO} (h : H a = some o) (h' : H b = some u) (d : o ≠ u) : a ≠ b := by
  intro e; subst e; rw [h] at h'; exact d (Option.some.inj h')
theorem ne_of_none {H : Hp} {a b : Addr} {o : HO} (h : H a = some o) (h' : H b = none) : a ≠ b := by
  intro e; subst e; rw [h] at h'; cases h'
section
variable (P : Program) (w : World)
def ObjOk (H : Hp) (h : Heap) (a : Addr) : HO → Prop
  | .lst xs => xs.length ≤ sizeLine ∧ ∃ (its : List Value) (n : Nat), Vals xs its ∧ h.get? a = some { cls := .type "list", data := .seq its.toArray n }
  | .tup xs => xs.length ≤ sizeLine ∧ ∃ its : List Value, Vals xs its ∧ IsTup h a its.toArray
  | .dK kvs => kvs.length ≤ sizeLine ∧ (a == sysModules) = false ∧ ∃ vs, KV kvs vs ∧ h.DictOf (mixKind P w) a vs
  | .dT kvs => kvs.length ≤ sizeLine ∧ (a == sysModules) = false ∧ ∃ xs : List (List Key × Addr × Value),
      Paired (fun (p : List Key × V) (q : List Key × Addr × Value) => p.1 = q.1 ∧ H q.2.1 = some (.tup (p.1.map kV)) ∧ RelV p.2 q.2.2) kvs xs ∧
      ∃ o es ep, h.get? a = some o ∧ o.ExactDict ∧ o.data = .dict es ep ∧ es.toList = xs.map (entryOfKey (tupleKind (mixKind P w))) ∧ (xs.map (·.1)).Nodup
  | .set S n => h.SetOf (intKind P w) a S n
  | .ins C dx fs => H dx = some (.own a) ∧ fs.length ≤ 1000 ∧ dx ≠ a ∧ h.get? a = some (PySem.W.instObj C dx) ∧
      ∃ mA, h.Ns1 dx mA ∧ (∀ f, RelO (fs.lookup f) (mA f)) ∧ PySem.Within mA (fs.map (·.1))
  | .own _ => ∃ o, h.get? a = some o
  | .xd fs => ∃ mA, h.Ns1 a mA ∧ ∀ f, RelO (fs.lookup f) (mA f)
  | .rng lo hi => ∃ t u v, h.get? a = some { cls := .type "range", data := .fields #[.int lo t, .int hi u, .int 1 v] }
  | .frz o u => h.get? a = some o ∧ ObjOk H h a u
  | .tbl ps => h.get? a = some { cls := .none, data := .fields ps }
  | .met f x => h.get? a = some (PySem.W.methodObj (.ref f) (.ref x))
  | .ext φ => φ h ∧ (∃ o, h.get? a = some o) ∧ ∀ h1 h2 : Heap, φ h1 → (∀ o, h1.get? a = some o → h2.get? a = some o) → φ h2
def HOk (H : Hp) (h : Heap) : Prop := ∀ a o, H a = some o → ObjOk P w H h a o
end
section
variable {P : Program} {w : World} {H H' : Hp} {h h' : Heap} {a : Addr} {o : HO}
theorem ObjOk.lt (x : ObjOk P w H h a o) : a < h.objs.size := by
  cases o with
  | lst xs => obtain ⟨_, _, _, _, e⟩ := x; exact Heap.lt_size e
  | tup xs => obtain ⟨_, _, _, p⟩ := x; exact p.lt
  | dK kvs => obtain ⟨_, _, _, _, o, _, _, e, _⟩ := x; exact Heap.lt_size e
  | dT kvs => obtain ⟨_, _, _, _, o, _, _, e, _⟩ := x; exact Heap.lt_size e
  | set S n => obtain ⟨o, _, _, _, e, _⟩ := x; exact Heap.lt_size e
  | ins C dx fs => obtain ⟨_, _, _, e, _⟩ := x; exact Heap.lt_size e
  | own y => obtain ⟨_, e⟩ := x; exact Heap.lt_size e
  | xd fs => obtain ⟨_, ⟨_, _, _, e, _⟩, _⟩ := x; exact Heap.lt_size e
  | rng lo hi => obtain ⟨_, _, _, e⟩ := x; exact Heap.lt_size e
  | frz ob u => obtain ⟨e, _⟩ := x; exact Heap.lt_size e
  | tbl ps => exact Heap.lt_size (show h.get? a = some _ from x)
  | met f y => exact Heap.lt_size (show h.get? a = some _ from x)
  | ext φ => obtain ⟨_, ⟨_, e⟩, _⟩ := x; exact Heap.lt_size e
theorem Paired.mapP {α β : Type} {F G : α → β → Prop} : ∀ {l₁ : List α} {l₂ : List β}, Paired F l₁ l₂ → (∀ a b, F a b → G a b) → Paired G l₁ l₂
  | _, _, .nil, _ => .nil
  | _, _, .cons r t, f => .cons (f _ _ r) (Paired.mapP t f)
theorem ObjOk.stay (x : ObjOk P w H h a o) (k : ∀ b u, (b = a ∨ H b = some (.own a)) → h.get? b = some u → h'.get? b = some u)
    (ho : ∀ b, H b = some (.own a) → H' b = some (.own a)) (ht : ∀ b xs, H b = some (.tup xs) → H' b = some (.tup xs)) : ObjOk P w H' h' a o := by
  induction o with
  | lst xs => obtain ⟨z, its, n, r, e⟩ := x; exact ⟨z, its, n, r, k _ _ (.inl rfl) e⟩
  | tup xs => obtain ⟨z, its, r, ob, e, c⟩ := x; exact ⟨z, its, r, ob, k _ _ (.inl rfl) e, c⟩
  | dK kvs => obtain ⟨z, y, vs, r, ob, es, ep, e, c⟩ := x; exact ⟨z, y, vs, r, ob, es, ep, k _ _ (.inl rfl) e, c⟩
  | dT kvs =>
    obtain ⟨z, y, xs, r, ob, es, ep, e, c⟩ := x
    exact ⟨z, y, xs, Paired.mapP r fun p q z => ⟨z.1, ht _ _ z.2.1, z.2.2⟩, ob, es, ep, k _ _ (.inl rfl) e, c⟩
  | set S n => obtain ⟨ob, es, ep, t, e, c⟩ := x; exact ⟨ob, es, ep, t, k _ _ (.inl rfl) e, c⟩
  | ins C dx fs =>
    obtain ⟨d, z, ne, e, mA, ⟨od, es, ep, e2, c⟩, r⟩ := x
    exact ⟨ho _ d, z, ne, k _ _ (.inl rfl) e, mA, ⟨od, es, ep, k _ _ (.inr d) e2, c⟩, r⟩
  | own y => obtain ⟨ob, e⟩ := x; exact ⟨ob, k _ _ (.inl rfl) e⟩
  | xd fs => obtain ⟨mA, ⟨od, es, ep, e, c⟩, r⟩ := x; exact ⟨mA, ⟨od, es, ep, k _ _ (.inl rfl) e, c⟩, r⟩
  | rng lo hi => obtain ⟨t, u, v, e⟩ := x; exact ⟨t, u, v, k _ _ (.inl rfl) e⟩
  | frz ob u ih => obtain ⟨e, q⟩ := x; exact ⟨k _ _ (.inl rfl) e, ih q⟩
  | tbl ps =>
    have e : h.get? a = some { cls := .none, data := .fields ps } := x
    show h'.get? a = some { cls := .none, data := .fields ps }
    exact k a _ (.inl rfl) e
  | met f y =>
    have e : h.get? a = some (PySem.W.methodObj (.ref f) (.ref y)) := x
    show h'.get? a = some (PySem.W.methodObj (.ref f) (.ref y))
    exact k a _ (.inl rfl) e
  | ext φ => obtain ⟨p, ⟨o, e⟩, st⟩ := x; exact ⟨st _ _ p fun o q => k _ _ (.inl rfl) q, ⟨o, k _ _ (.inl rfl) e⟩, st⟩
theorem HOk.lt (x : HOk P w H h) (e : H a = some o) : a < h.objs.size := (x a o e).lt
theorem HOk.fresh (x : HOk P w H h) (e : h.objs.size ≤ a) : H a = none := by
  cases q : H a with
  | none => rfl
  | some u => exact absurd (Nat.lt_of_lt_of_le (x.lt q) e) (Nat.lt_irrefl _)
theorem HOk.kept (x : HOk P w H h) (k : ∀ b u, h.get? b = some u → h'.get? b = some u) : HOk P w H h' := fun a o e =>
  (x a o e).stay (fun b u _ q => k b u q) (fun _ q => q) fun _ _ q => q
theorem HOk.laid (x : HOk P w H h) (k : ∀ b u, h.get? b = some u → h'.get? b = some u) (hp : h.objs.size ≤ a) (new : ObjOk P w (upd H a o) h' a o) : HOk P w (upd H a o) h' := fun b u e => by
  have hn := x.fresh hp
  by_cases hb : b = a
  · subst hb; rw [upd_same] at e; cases e; exact new
  · rw [upd_ne hb] at e
    exact (x b u e).stay (fun c v _ q => k c v q) (fun c q => by rw [upd_ne (ne_of_none q hn)]; exact q) fun c xs q => by rw [upd_ne (ne_of_none q hn)]; exact q
end
def Rd (H : Hp) (a : Addr) (u : HO) : Prop := H a = some u ∨ ∃ o, H a = some (.frz o u)
theorem Rd.ok {P : Program} {w : World} {H : Hp} {h : Heap} {a : Addr} {u : HO} (r : Rd H a u) (x : HOk P w H h) : ObjOk P w H h a u := by
  rcases r with r | ⟨o, r⟩
  · exact x a u r
  · obtain ⟨_, q⟩ := x a _ r
    exact q
def Mut : Option HO → Prop
  | some (.lst _) => True
  | some (.dK _) => True
  | some (.dT _) => True
  | some (.set _ _) => True
  | some (.ins _ _ _) => True
  | some (.ext _) => True
  | _ => False
section
variable {P : Program} {w : World} {H : Hp} {h h' : Heap} {x e : Addr} {o' : HO}
theorem HOk.write (ok : HOk P w H h) (mu : Mut (H x)) (he : e = x ∨ H e = some (.own x)) (k : ∀ b u, b ≠ e → h.get? b = some u → h'.get? b = some u) (heo : ∃ u, h'.get? e = some u)
    (new : ObjOk P w (upd H x o') h' x o') : HOk P w (upd H x o') h' := fun b u q => by
  have nown : ∀ c y, H c = some (.own y) → c ≠ x := fun c y r z => by subst z; rw [r] at mu; exact mu
  have ntup : ∀ c xs, H c = some (.tup xs) → c ≠ x := fun c xs r z => by subst z; rw [r] at mu; exact mu
  by_cases hb : b = x
  · subst hb; rw [upd_same] at q; cases q; exact new
  · rw [upd_ne hb] at q
    by_cases hbe : b = e
    · have q' : H b = some (.own x) := by
        rcases he with z | z
        · exact absurd (hbe.trans z) hb
        · rw [hbe]; exact z
      rw [q] at q'; cases q'
      obtain ⟨v, hv⟩ := heo
      exact ⟨v, by rw [hbe]; exact hv⟩
    · refine (ok b u q).stay (fun c v hc r => k c v ?_ r) (fun c r => by rw [upd_ne (nown c b r)]; exact r) fun c xs r => by rw [upd_ne (ntup c xs r)]; exact r
      rcases hc with rfl | hc
      · exact hbe
      · rintro rfl
        rcases he with z | z
        · exact nown c b hc z
        · rw [hc] at z; cases z; exact hb rfl
end
structure Un (fs ex : List Addr) (H H' : Hp) (h h' : Heap) : Prop where
  keep : ∀ b o, h.get? b = some o → H b = none → b ∉ fs → b ∉ ex → h'.get? b = some o
  slot : ∀ b o, h.get? b = some o → H b = none → b ∈ fs → b ∉ ex → ∃ sl, h'.get? b = some { o with slots := sl }
  free : ∀ b o, h.get? b = some o → H b = none → b ∉ ex → H' b = none
  there : ∀ b o, h.get? b = some o → b ∉ ex → ∃ o', h'.get? b = some o'
  tups : ∀ b xs, H b = some (.tup xs) → H' b = some (.tup xs)
  frzs : ∀ b o u, H b = some (.frz o u) → H' b = some (.frz o u)
  tbls : ∀ b ps, H b = some (.tbl ps) → ∃ more, H' b = some (.tbl (ps ++ more))
section
variable {fs fs' ex ex' : List Addr} {H H1 H2 : Hp} {h h1 h2 h' : Heap} {a x e : Addr} {o : HO}
theorem Un.any (u : Un fs ex H H1 h h1) {b : Addr} {ob : Obj} (q : h.get? b = some ob) (n : H b = none) (hx : b ∉ ex) : ∃ sl, h1.get? b = some { ob with slots := sl } := by
  by_cases hb : b ∈ fs
  · exact u.slot b ob q n hb hx
  · exact ⟨ob.slots, u.keep b ob q n hb hx⟩
theorem Un.kept (k : ∀ b u, h.get? b = some u → h'.get? b = some u) : Un fs ex H H h h' :=
  ⟨fun b ob q _ _ _ => k b ob q, fun b ob q _ _ _ => ⟨ob.slots, k b ob q⟩, fun _ _ _ n _ => n, fun b ob q _ => ⟨ob, k b ob q⟩, fun _ _ q => q, fun _ _ _ q => q, fun _ ps q => ⟨#[], by rw [q]; simp⟩⟩
theorem Un.refl : Un fs ex H H h h := Un.kept fun _ _ q => q
theorem Un.laid (k : ∀ b u, h.get? b = some u → h'.get? b = some u) (hp : h.objs.size ≤ a) (hn : H a = none) : Un fs ex H (upd H a o) h h' where
  keep := fun b u q _ _ _ => k b u q
  slot := fun b u q _ _ _ => ⟨u.slots, k b u q⟩
  free := fun b u q n _ => by rw [upd_ne (Nat.ne_of_lt (Nat.lt_of_lt_of_le (Heap.lt_size q) hp))]; exact n
  there := fun b u q _ => ⟨u, k b u q⟩
  tups := fun b xs q => by rw [upd_ne (ne_of_none q hn)]; exact q
  frzs := fun b u xs q => by rw [upd_ne (ne_of_none q hn)]; exact q
  tbls := fun b ps q => ⟨#[], by rw [upd_ne (ne_of_none q hn), q]; simp⟩
theorem Un.write (mu : Mut (H x)) (he : e = x ∨ H e = some (.own x)) (k : ∀ b u, b ≠ e → h.get? b = some u → h'.get? b = some u) (heo : ∃ u, h'.get? e = some u) : Un fs ex H (upd H x o) h h' := by
  have hx : ∀ b, H b = none → b ≠ x := fun b n z => by subst z; rw [n] at mu; exact mu
  have hb : ∀ b, H b = none → b ≠ e := fun b n z => by
    subst z
    rcases he with r | r
    · exact hx b n r
    · rw [n] at r; cases r
  have hm : ∀ b u, H b = some u → ¬ Mut (some u) → b ≠ x := fun b u q nm z => by subst z; rw [q] at mu; exact nm mu
  refine ⟨fun b u q n _ _ => k b u (hb b n) q, fun b u q n _ _ => ⟨u.slots, k b u (hb b n) q⟩, fun b u q n _ => by rw [upd_ne (hx b n)]; exact n, fun b u q _ => ?_,
    fun b xs q => by rw [upd_ne (hm b _ q fun z => z)]; exact q, fun b u xs q => by rw [upd_ne (hm b _ q fun z => z)]; exact q, fun b ps q => ⟨#[], by rw [upd_ne (hm b _ q fun z => z), q]; simp⟩⟩
  by_cases hbe : b = e
  · subst hbe; exact heo
  · exact ⟨u, k b u hbe q⟩
end
def trk (h : Heap) (H : Hp) : List Addr := (List.range h.objs.size).filter fun a => (H a).isSome
def hidT (h : Heap) (H : Hp) : Heap := PySem.W.hideAll h (trk h H)
theorem hidT_size (h : Heap) (H : Hp) : (hidT h H).objs.size = h.objs.size := PySem.W.hideAll_size _ _
theorem hidT_get {h : Heap} {H : Hp} {b : Addr} {o : Obj} (e : h.get? b = some o) (n : H b = none) : (hidT h H).get? b = some o :=
  PySem.W.hideAll_get _ e fun hm => by
    have q : (H b).isSome = true := (List.mem_filter.mp hm).2
    rw [n] at q; simp at q
theorem of_hidT {h : Heap} {H : Hp} {b : Addr} {o : Obj} (e : (hidT h H).get? b = some o) : h.get? b = some o ∧ H b = none := by
  have e' : h.get? b = some o := PySem.W.of_hideAll (trk h H) e
  refine ⟨e', ?_⟩
  cases q : H b with
  | none => rfl
  | some x =>
    have hm : b ∈ trk h H := List.mem_filter.mpr ⟨List.mem_range.mpr (Heap.lt_size e'), by simp [q]⟩
    have z : (hidT h H).get? b = none := PySem.W.hideAll_none (trk h H) hm
    rw [z] at e; cases e
end L2
namespace L2
open PySem PySem.Spec PyProof.Rows
structure Mod (K : PySem.W.Frag) (mg : Str → Option Value) (base : Heap) : Prop where
  kin : K.In base
  glob : base.Ns mainGlobals mg
  blt : ∃ mb, base.Ns builtinsNs mb ∧ ∀ x : Str, x ≠ "__name__" → mb x = bootBuiltins x
  nolimit : base.NoLimit
structure Cx where
  prog : Program
  w : World
  K : PySem.W.Frag
  mg : Str → Option Value
  base : Heap
  A : Around
  N : List Str
  s₀ : Shared
  H₀ : Hp
  env : Env
  outer : List Env
  stack : List Env
  ex : List Addr
  fn : Str → Bool
  calm : Bool
  pn : List (Addr × Obj)
  xe : Value → Shared → Prop
def frs (l : List Env) : List Addr := l.filterMap (·.frame)
abbrev Cx.fs (X : Cx) : List Addr := frs X.outer
def Vis (sc : Scope) (x : Str) : Prop := sc.names.lookup x = some .local ∨ sc.names.lookup x = some .cell ∨ sc.names.lookup x = some .free
def Loc (sc : Scope) (x : Str) : Prop := sc.names.lookup x = some .local ∨ sc.names.lookup x = some .cell
def Look (env : Env) (h : Heap) (m : Str → Option Value) (x : Str) (u : Value) : Prop :=
  (env.kindOf x = some .local ∧ m x = some u) ∨ ((env.kindOf x = some .cell ∨ env.kindOf x = some .free) ∧ ∃ c, env.cells.lookup x = some c ∧ h.IsCell c (some u))
structure Cx.Ok (X : Cx) : Prop where
  mod : Mod X.K X.mg X.base
  kind : X.env.scope.kind = .function
  glob : X.env.globals = mainGlobals
  blt : X.env.builtins = builtinsNs
  above : X.s₀.heap.objs.size ≤ X.env.locals
  inj : ∀ x y c, X.env.cells.lookup x = some c → X.env.cells.lookup y = some c → x = y
  has : ∀ x, (X.env.kindOf x = some .cell ∨ X.env.kindOf x = some .free) → ∃ c, X.env.cells.lookup x = some c
  cab : ∀ x c, X.fn x = true → X.env.cells.lookup x = some c → X.s₀.heap.objs.size ≤ c
  hd : X.calm = true → X.A.handled = none
  frames : X.A.frames = some X.stack
  stk : X.stack = X.outer ∨ (X.stack = X.env :: X.outer ∧ X.env.frame = some X.env.locals)
  exf : ∀ b ∈ X.ex, b ≠ X.env.locals ∧ ∀ x c, X.env.cells.lookup x = some c → c ≠ b
  bs : ∀ b o, X.base.get? b = some o → X.s₀.heap.get? b = some o ∧ X.H₀ b = none
  bsz : X.base.objs.size ≤ X.s₀.heap.objs.size
  noex : ∀ b o, X.base.get? b = some o → b ∉ X.ex
  exfs : ∀ b ∈ X.ex, b ∉ X.fs
  funs : X.s₀.heap.FunFrames X.base X.outer
  frf : ∀ b ∈ X.fs, X.H₀ b = none
structure Inv (X : Cx) (pins : List (Addr × Obj)) (σ : List (Option V)) (H : Hp) (s : Shared) : Prop where
  ok : X.Ok
  os : s.os = X.s₀.os
  bare : AllBare s.gens
  base : Un X.fs X.ex X.H₀ H X.s₀.heap s.heap
  loc : ∃ m, s.heap.Ns X.env.locals m ∧ ∀ (i : Nat) (x : Str) (v : V), X.N[i]? = some x → σ[i]? = some (some v) → Vis X.env.scope x → ∃ u, RelV v u ∧ Look X.env s.heap m x u
  cell : ∀ x c, X.env.cells.lookup x = some c → ∃ v, s.heap.IsCell c v
  free : H X.env.locals = none
  freeC : ∀ x c, X.env.cells.lookup x = some c → H c = none
  pin : ∀ p ∈ X.pn ++ pins, s.heap.get? p.1 = some p.2 ∧ H p.1 = none ∧ p.1 ≠ X.env.locals ∧ p.1 ∉ X.fs ∧ ∀ v, p.2.data ≠ .cell v
  hok : HOk X.prog X.w H s.heap
  len : σ.length = X.N.length
section
variable {X : Cx} {pins : List (Addr × Obj)} {σ : List (Option V)} {H H' : Hp} {s : Shared} {h' : Heap}
theorem Cx.Ok.nofr (ok : X.Ok) {b : Addr} {o : Obj} (e : X.base.get? b = some o) : b ∉ X.fs := fun hb => by
  have := (ok.funs.mem hb).1
  rw [e] at this; cases this
theorem Inv.bs (I : Inv X pins σ H s) : ∀ b o, X.base.get? b = some o → s.heap.get? b = some o ∧ H b = none := fun b o e =>
  ⟨I.base.keep b o (I.ok.bs b o e).1 (I.ok.bs b o e).2 (I.ok.nofr e) (I.ok.noex b o e), I.base.free b o (I.ok.bs b o e).1 (I.ok.bs b o e).2 (I.ok.noex b o e)⟩
theorem Inv.bk (I : Inv X pins σ H s) : ∀ b o, X.base.get? b = some o → s.heap.get? b = some o := fun b o e => (I.bs b o e).1
theorem Inv.mod (I : Inv X pins σ H s) : Mod X.K X.mg X.base := I.ok.mod
theorem Inv.kIn (I : Inv X pins σ H s) : X.K.In s.heap := I.ok.mod.kin.keeps I.bk
theorem Inv.lt (I : Inv X pins σ H s) : X.env.locals < s.heap.objs.size := let ⟨_, hn, _⟩ := I.loc; hn.lt
theorem Inv.sz (I : Inv X pins σ H s) : X.s₀.heap.objs.size ≤ s.heap.objs.size := Nat.le_trans I.ok.above (Nat.le_of_lt I.lt)
theorem Inv.nofs (I : Inv X pins σ H s) {a : Addr} (h : s.heap.objs.size ≤ a) : a ∉ X.fs := fun hb => by
  obtain ⟨_, o, ho, _⟩ := I.ok.funs.mem hb
  exact absurd (Nat.lt_of_lt_of_le (Heap.lt_size ho) (Nat.le_trans I.sz h)) (Nat.lt_irrefl _)
theorem Inv.cne (I : Inv X pins σ H s) : ∀ x c, X.env.cells.lookup x = some c → c ≠ X.env.locals := fun x c e z => by
  obtain ⟨v, o, ho, hd⟩ := I.cell x c e
  obtain ⟨m, ⟨o', es, ep, ho', hd', _⟩, _⟩ := I.loc
  rw [z, ho'] at ho; cases ho; rw [hd'] at hd; cases hd
theorem Inv.funs (I : Inv X pins σ H s) : s.heap.FunFrames X.base X.outer := by
  have all : ∀ (l : List Env), (∀ b ∈ frs l, b ∈ X.fs) → X.s₀.heap.FunFrames X.base l → s.heap.FunFrames X.base l := by
    intro l
    induction l with
    | nil => intro _ _; trivial
    | cons env r ih =>
      intro hs hl
      obtain ⟨hk, ⟨L, o, hf, hn, ho, hd⟩, hr⟩ := hl
      have hL : L ∈ X.fs := hs L (by unfold frs; rw [List.filterMap_cons, hf]; exact List.mem_cons_self)
      obtain ⟨sl, e⟩ := I.base.slot L o ho (I.ok.frf L hL) hL fun z => I.ok.exfs L z hL
      exact ⟨hk, ⟨L, _, hf, hn, e, hd⟩, ih (fun b hb => hs b (by unfold frs; rw [List.filterMap_cons, hf]; exact List.mem_cons_of_mem _ hb)) hr⟩
  exact all X.outer (fun _ hb => hb) I.ok.funs
theorem Inv.stack (I : Inv X pins σ H s) : s.heap.FunFrames X.base X.stack := by
  rcases I.ok.stk with e | ⟨e, hf⟩
  · rw [e]; exact I.funs
  · rw [e]
    obtain ⟨m, hn, _⟩ := I.loc
    refine .cons (by rw [I.ok.kind]; decide) hf hn ?_ I.funs
    exact Heap.get?_none_of_le (Nat.le_trans I.ok.bsz I.ok.above)
theorem Inv.stkSub (I : Inv X pins σ H s) : ∀ b ∈ frs X.stack, b ∈ X.env.locals :: X.fs := fun b hb => by
  rcases I.ok.stk with e | ⟨e, hf⟩
  · rw [e] at hb; exact List.mem_cons_of_mem _ hb
  · rw [e] at hb
    unfold frs at hb
    rw [List.filterMap_cons, hf] at hb
    exact hb
theorem Inv.stkFree (I : Inv X pins σ H s) : ∀ b ∈ frs X.stack, H b = none := fun b hb => by
  rcases List.mem_cons.mp (I.stkSub b hb) with e | hb
  · rw [e]; exact I.free
  · obtain ⟨_, o, ho, _⟩ := I.ok.funs.mem hb
    exact I.base.free b o ho (I.ok.frf b hb) fun z => I.ok.exfs b z hb
theorem Inv.step {g' : Array GenState} {t' : Nat} {d' : Drawn} {ch : List Addr} (I : Inv X pins σ H s)
    (hch : ∀ b ∈ ch, (b ∈ X.ex ∨ X.s₀.heap.objs.size ≤ b) ∧ b ≠ X.env.locals ∧ (∀ x c, X.env.cells.lookup x = some c → c ≠ b) ∧ ∀ p ∈ X.pn ++ pins, p.1 ≠ b)
    (keep : ∀ b o, b ≠ X.env.locals → b ∉ X.fs → b ∉ ch → s.heap.get? b = some o → H b = none → h'.get? b = some o)
    (slot : ∀ b o, b ≠ X.env.locals → b ∈ X.fs → b ∉ ch → s.heap.get? b = some o → H b = none → ∃ sl, h'.get? b = some { o with slots := sl }) (free : ∀ b o, b ∉ ch → s.heap.get? b = some o → H b = none → H' b = none)
    (there : ∀ b o, b ∉ ch → s.heap.get? b = some o → ∃ o', h'.get? b = some o')
    (tups : ∀ b xs, H b = some (.tup xs) → H' b = some (.tup xs)) (frzs : ∀ b o u, H b = some (.frz o u) → H' b = some (.frz o u)) (tbls : ∀ b ps, H b = some (.tbl ps) → ∃ more, H' b = some (.tbl (ps ++ more)))
    (ns : ∀ m, s.heap.Ns X.env.locals m → h'.Ns X.env.locals m) (hok : HOk X.prog X.w H' h') (hg : AllBare g') :
    Inv X pins σ H' { s with heap := h', gens := g', drawn := d', toks := t' } := by
  have neL : ∀ b o, X.s₀.heap.get? b = some o → b ≠ X.env.locals := fun b o e => Nat.ne_of_lt (Nat.lt_of_lt_of_le (Heap.lt_size e) I.ok.above)
  have neC : ∀ b o, X.s₀.heap.get? b = some o → b ∉ X.ex → b ∉ ch := fun b o e hx hb => by
    rcases (hch b hb).1 with z | z
    · exact hx z
    · exact absurd (Nat.lt_of_lt_of_le (Heap.lt_size e) z) (Nat.lt_irrefl _)
  have cellK : ∀ x c, X.env.cells.lookup x = some c → ∀ v, s.heap.IsCell c v → h'.IsCell c v := fun x c e v ⟨o, ho, hd⟩ => by
    have nch : c ∉ ch := fun z => (hch c z).2.2.1 x c e rfl
    by_cases hc : c ∈ X.fs
    · obtain ⟨sl, q⟩ := slot c o (I.cne x c e) hc nch ho (I.freeC x c e)
      exact ⟨_, q, hd⟩
    · exact ⟨o, keep c o (I.cne x c e) hc nch ho (I.freeC x c e), hd⟩
  refine ⟨I.ok, I.os, hg, ⟨fun b o e n hb hx => ?_, fun b o e n hb hx => ?_, fun b o e n hx => ?_, fun b o e hx => ?_, fun b xs e => tups b xs (I.base.tups b xs e), fun b o xs e => frzs b o xs (I.base.frzs b o xs e), fun b ps e => ?_⟩, ?_, fun x c e => ?_, ?_, fun x c e => ?_, fun p hp => ?_, hok, I.len⟩
  · exact keep b o (neL b o e) hb (neC b o e hx) (I.base.keep b o e n hb hx) (I.base.free b o e n hx)
  · obtain ⟨sl, e1⟩ := I.base.slot b o e n hb hx
    obtain ⟨sl', e2⟩ := slot b _ (neL b o e) hb (neC b o e hx) e1 (I.base.free b o e n hx)
    exact ⟨sl', e2⟩
  · obtain ⟨o', e1⟩ := I.base.there b o e hx
    exact free b o' (neC b o e hx) e1 (I.base.free b o e n hx)
  · obtain ⟨o', e1⟩ := I.base.there b o e hx
    exact there b o' (neC b o e hx) e1
  · obtain ⟨m1, e1⟩ := I.base.tbls b ps e
    obtain ⟨m2, e2⟩ := tbls b _ e1
    exact ⟨m1 ++ m2, by rw [e2, Array.append_assoc]⟩
  · obtain ⟨m, hn, hl⟩ := I.loc
    refine ⟨m, ns m hn, fun i x v e1 e2 e3 => ?_⟩
    obtain ⟨u, r, l⟩ := hl i x v e1 e2 e3
    refine ⟨u, r, ?_⟩
    rcases l with l | ⟨k, c, e, z⟩
    · exact .inl l
    · exact .inr ⟨k, c, e, cellK x c e _ z⟩
  · obtain ⟨v, z⟩ := I.cell x c e
    exact ⟨v, cellK x c e v z⟩
  · obtain ⟨m, ⟨o, _, _, ho, _⟩, _⟩ := I.loc
    exact free _ o (fun z => (hch _ z).2.1 rfl) ho I.free
  · obtain ⟨v, o, ho, hd⟩ := I.cell x c e
    exact free c o (fun z => (hch c z).2.2.1 x c e rfl) ho (I.freeC x c e)
  · obtain ⟨e, n, ne, nf, d⟩ := I.pin p hp
    have nch : p.1 ∉ ch := fun z => (hch p.1 z).2.2.2 p hp rfl
    exact ⟨keep p.1 p.2 ne nf nch e n, free p.1 p.2 nch e n, ne, nf, d⟩
theorem Inv.un {t' : Nat} (I : Inv X pins σ H s) (u : Un X.fs [] H H' s.heap h') (hok : HOk X.prog X.w H' h') : Inv X pins σ H' { s with heap := h', toks := t' } := by
  obtain ⟨m, ⟨o, es, ep, ho, r⟩, _⟩ := id I.loc
  obtain ⟨sl, hL⟩ := u.any ho I.free (by simp)
  exact I.step (g' := s.gens) (d' := s.drawn) (ch := []) (fun _ z => nomatch z) (fun b o _ hb _ e n => u.keep b o e n hb (by simp)) (fun b o _ hb _ e n => u.slot b o e n hb (by simp)) (fun b o _ e n => u.free b o e n (by simp)) (fun b o _ e => u.there b o e (by simp)) u.tups u.frzs u.tbls (fun m' hm => by
    obtain ⟨o', es', ep', ho', r'⟩ := hm
    rw [ho] at ho'; cases ho'
    exact ⟨_, es', ep', hL, r'⟩) hok I.bare
theorem Inv.call {g' : Array GenState} {t' : Nat} {d' : Drawn} {ch : List Addr} (I : Inv X pins σ H s) (u : Un (frs X.stack) ch H H' s.heap h') (hok : HOk X.prog X.w H' h') (hg : AllBare g')
    (hch : ∀ b ∈ ch, (b ∈ X.ex ∨ X.s₀.heap.objs.size ≤ b) ∧ b ≠ X.env.locals ∧ (∀ x c, X.env.cells.lookup x = some c → c ≠ b) ∧ ∀ p ∈ X.pn ++ pins, p.1 ≠ b) :
    Inv X pins σ H' { s with heap := h', gens := g', drawn := d', toks := t' } := by
  obtain ⟨m, ⟨o, es, ep, ho, r⟩, _⟩ := id I.loc
  obtain ⟨sl, hL⟩ := u.any ho I.free fun z => (hch _ z).2.1 rfl
  exact I.step (ch := ch) hch (fun b o hL hb hc e n => u.keep b o e n (fun z => (List.mem_cons.mp (I.stkSub b z)).elim hL hb) hc) (fun b o _ _ hc e n => u.any e n hc) (fun b o hc e n => u.free b o e n hc) (fun b o hc e => u.there b o e hc) u.tups u.frzs u.tbls (fun m' hm => by
    obtain ⟨o', es', ep', ho', r'⟩ := hm
    rw [ho] at ho'; cases ho'
    exact ⟨_, es', ep', hL, r'⟩) hok hg
theorem Inv.turned {t' : Nat} {it : Addr} (I : Inv X pins σ H s) (k : ∀ b o, b ≠ it → s.heap.get? b = some o → h'.get? b = some o) (hn : H it = none) (hL : it ≠ X.env.locals)
    (h1 : it ∈ X.ex ∨ X.s₀.heap.objs.size ≤ it) (h2 : ∀ x c, X.env.cells.lookup x = some c → c ≠ it) (h3 : ∀ p ∈ X.pn ++ pins, p.1 ≠ it) : Inv X pins σ H { s with heap := h', toks := t' } := by
  have nit : ∀ b u, H b = some u → b ≠ it := fun b u e z => by rw [z, hn] at e; cases e
  refine I.step (g' := s.gens) (d' := s.drawn) (ch := [it]) (fun b hb => ?_) (fun b o _ _ hc e _ => k b o (fun z => hc (by simp [z])) e) (fun b o _ _ hc e _ => ⟨o.slots, k b o (fun z => hc (by simp [z])) e⟩) (fun _ _ _ _ n => n)
    (fun b o hc e => ⟨o, k b o (fun z => hc (by simp [z])) e⟩) (fun _ _ e => e) (fun _ _ _ e => e) (fun b ps e => ⟨#[], by rw [e]; simp⟩) (fun m hm => ?_) (fun b u e => ?_) I.bare
  · have e : b = it := by simpa using hb
    subst e
    exact ⟨h1, hL, h2, h3⟩
  · obtain ⟨o, es, ep, ho, r⟩ := hm
    exact ⟨o, es, ep, k _ o (Ne.symm hL) ho, r⟩
  · refine (I.hok b u e).stay (fun c v hc q => k c v ?_ q) (fun _ q => q) fun _ _ q => q
    rcases hc with z | z
    · rw [z]; exact nit b u e
    · exact nit c _ z
theorem Inv.tok (I : Inv X pins σ H s) (t : Nat) : Inv X pins σ H { s with toks := t } := I.un (h' := s.heap) (t' := t) Un.refl I.hok
theorem Inv.kept {t' : Nat} (I : Inv X pins σ H s) (k : ∀ b u, s.heap.get? b = some u → h'.get? b = some u) : Inv X pins σ H { s with heap := h', toks := t' } := I.un (Un.kept k) (I.hok.kept k)
theorem Inv.laid {a : Addr} {o : HO} {t' : Nat} (I : Inv X pins σ H s) (k : ∀ b u, s.heap.get? b = some u → h'.get? b = some u) (hp : s.heap.objs.size ≤ a) (new : ObjOk X.prog X.w (upd H a o) h' a o) :
    Inv X pins σ (upd H a o) { s with heap := h', toks := t' } := I.un (Un.laid k hp (I.hok.fresh hp)) (I.hok.laid k hp new)
theorem Inv.write {x e : Addr} {o : HO} {t' : Nat} (I : Inv X pins σ H s) (mu : Mut (H x)) (he : e = x ∨ H e = some (.own x)) (k : ∀ b u, b ≠ e → s.heap.get? b = some u → h'.get? b = some u) (heo : ∃ u, h'.get? e = some u)
    (new : ObjOk X.prog X.w (upd H x o) h' x o) : Inv X pins σ (upd H x o) { s with heap := h', toks := t' } := I.un (Un.write mu he k heo) (I.hok.write mu he k heo new)
theorem Inv.pins_of {pins' : List (Addr × Obj)} (I : Inv X pins σ H s) (h : ∀ p ∈ pins', s.heap.get? p.1 = some p.2 ∧ H p.1 = none ∧ p.1 ≠ X.env.locals ∧ p.1 ∉ X.fs ∧ ∀ v, p.2.data ≠ .cell v) : Inv X pins' σ H s :=
  ⟨I.ok, I.os, I.bare, I.base, I.loc, I.cell, I.free, I.freeC, fun p hp => (List.mem_append.mp hp).elim (fun z => I.pin p (List.mem_append_left _ z)) (h p), I.hok, I.len⟩
theorem nodup_ix {N : List Str} (hN : N.Nodup) {i j : Nat} {x : Str} (a : N[i]? = some x) (b : N[j]? = some x) : i = j := by
  obtain ⟨h1, e1⟩ := List.getElem?_eq_some_iff.mp a
  obtain ⟨h2, e2⟩ := List.getElem?_eq_some_iff.mp b
  exact (List.getElem_inj hN).mp (e1.trans e2.symm)
theorem store_ok2 {M : Model} {A : Around} {E : Value → Shared → Prop} {i : Nat} {x : Str} {v : V} {u : Value} {Q : Unit → Shared → Prop} (I : Inv X pins σ H s) (hN : X.N.Nodup) (hi : X.N[i]? = some x) (hx : Loc X.env.scope x) (r : RelV v u)
    (h : ∀ s', Inv X pins (σ.set i (some v)) H s' → (∃ a, Heap.SameBut a s.heap s'.heap ∧ (a = X.env.locals ∨ X.env.cells.lookup x = some a)) → Q () s') (hf : X.fn x = true ∨ X.env.scope.names.lookup x = some .local := by first | exact .inl rfl | exact .inr rfl | assumption) : wpAny M A (storeName X.env x u) Q E s := by
  obtain ⟨m, hn, hl⟩ := id I.loc
  have hcls : (X.env.scope.kind == .class || (X.env.scope.kind == .module && X.env.locals != X.env.globals)) = false := by rw [I.ok.kind]; rfl
  have hiσ : i < σ.length := by rw [I.len]; exact (List.getElem?_eq_some_iff.mp hi).1
  have cne := I.cne
  have tracked : ∀ {a : Addr} {h' : Heap}, (∃ o, s.heap.get? a = some o ∧ H a = none) → Heap.SameBut a s.heap h' → HOk X.prog X.w H h' := fun {a h'} ha hs b ob e => by
    obtain ⟨_, _, hfree⟩ := ha
    refine (I.hok b ob e).stay (fun c w' hc q => (hs.2 c ?_).trans q) (fun _ q => q) fun _ _ q => q
    rintro rfl
    rcases hc with rfl | hc
    · rw [hfree] at e; cases e
    · rw [hfree] at hc; cases hc
  rcases hx with hk | hk
  · refine wpAny_storeName_local hk hn (fun h' hn' hs => ?_) hcls
    obtain ⟨oL, _, _, hoL, _⟩ := id hn
    refine h _ ⟨I.ok, I.os, I.bare, ⟨fun b o e n hb hx => ?_, fun b o e n hb hx => ?_, I.base.free, fun b o e hx => ?_, I.base.tups, I.base.frzs, I.base.tbls⟩, ⟨_, hn', fun j y v' e1 e2 e3 => ?_⟩, fun y c e => ?_, I.free, I.freeC, fun p hp => ?_, tracked ⟨oL, hoL, I.free⟩ hs, by simpa using I.len⟩ ⟨_, hs, .inl rfl⟩
    · exact (hs.2 b (Nat.ne_of_lt (Nat.lt_of_lt_of_le (Heap.lt_size e) I.ok.above))).trans (I.base.keep b o e n hb hx)
    · obtain ⟨sl, e1⟩ := I.base.slot b o e n hb hx
      exact ⟨sl, (hs.2 b (Nat.ne_of_lt (Nat.lt_of_lt_of_le (Heap.lt_size e) I.ok.above))).trans e1⟩
    · obtain ⟨o', e1⟩ := I.base.there b o e hx
      exact ⟨o', (hs.2 b (Nat.ne_of_lt (Nat.lt_of_lt_of_le (Heap.lt_size e) I.ok.above))).trans e1⟩
    · by_cases hj : j = i
      · subst hj
        rw [hi] at e1; cases e1
        rw [List.getElem?_set_self hiσ] at e2
        cases e2
        exact ⟨u, r, .inl ⟨hk, by simp⟩⟩
      · rw [List.getElem?_set_ne (Ne.symm hj)] at e2
        obtain ⟨u', r', q⟩ := hl j y v' e1 e2 e3
        refine ⟨u', r', ?_⟩
        rcases q with ⟨k, e⟩ | ⟨k, c, e, z⟩
        · refine .inl ⟨k, ?_⟩
          have : y ≠ x := fun e => hj (nodup_ix hN e1 (e ▸ hi))
          simp [this, e]
        · exact .inr ⟨k, c, e, z.sameBut hs (cne y c e)⟩
    · obtain ⟨w', z⟩ := I.cell y c e
      exact ⟨w', z.sameBut hs (cne y c e)⟩
    · obtain ⟨e, n, ne, nf, d⟩ := I.pin p hp
      exact ⟨(hs.2 p.1 ne).trans e, n, ne, nf, d⟩
  · have hfn : X.fn x = true := by
      rcases hf with z | z
      · exact z
      · rw [z] at hk; cases hk
    obtain ⟨c, hc⟩ := I.ok.has x (.inl hk)
    obtain ⟨w', z⟩ := I.cell x c hc
    refine wpAny_storeName_cell I.ok.kind hk hc z (fun h' hc' hs => ?_)
    obtain ⟨oc, hoc, hocd⟩ := id z
    refine h { s with heap := h' } ⟨I.ok, I.os, I.bare, ⟨fun b o e n hb hx => ?_, fun b o e n hb hx => ?_, I.base.free, fun b o e hx => ?_, I.base.tups, I.base.frzs, I.base.tbls⟩, ⟨m, hn.sameBut hs (Ne.symm (cne x c hc)), fun j y v' e1 e2 e3 => ?_⟩, fun y c' e => ?_, I.free, I.freeC, fun p hp => ?_, tracked ⟨oc, hoc, I.freeC x c hc⟩ hs, by simpa using I.len⟩ ⟨c, hs, .inr hc⟩
    · exact (hs.2 b (Nat.ne_of_lt (Nat.lt_of_lt_of_le (Heap.lt_size e) (I.ok.cab x c hfn hc)))).trans (I.base.keep b o e n hb hx)
    · obtain ⟨sl, e1⟩ := I.base.slot b o e n hb hx
      exact ⟨sl, (hs.2 b (Nat.ne_of_lt (Nat.lt_of_lt_of_le (Heap.lt_size e) (I.ok.cab x c hfn hc)))).trans e1⟩
    · obtain ⟨o', e1⟩ := I.base.there b o e hx
      exact ⟨o', (hs.2 b (Nat.ne_of_lt (Nat.lt_of_lt_of_le (Heap.lt_size e) (I.ok.cab x c hfn hc)))).trans e1⟩
    · by_cases hj : j = i
      · subst hj
        rw [hi] at e1; cases e1
        rw [List.getElem?_set_self hiσ] at e2
        cases e2
        exact ⟨u, r, .inr ⟨.inl hk, c, hc, hc'⟩⟩
      · rw [List.getElem?_set_ne (Ne.symm hj)] at e2
        obtain ⟨u', r', q⟩ := hl j y v' e1 e2 e3
        refine ⟨u', r', ?_⟩
        rcases q with q | ⟨k, c', e, z'⟩
        · exact .inl q
        · refine .inr ⟨k, c', e, z'.sameBut hs ?_⟩
          rintro rfl
          exact hj (nodup_ix hN e1 (I.ok.inj _ _ _ e hc ▸ hi))
    · by_cases hcc : c' = c
      · subst hcc; exact ⟨_, hc'⟩
      · obtain ⟨w2, z2⟩ := I.cell y c' e
        exact ⟨w2, z2.sameBut hs hcc⟩
    · obtain ⟨e, n, ne, nf, d⟩ := I.pin p hp
      refine ⟨(hs.2 p.1 ?_).trans e, n, ne, nf, d⟩
      intro q
      rw [q, hoc] at e
      have q' : oc = p.2 := Option.some.inj e
      exact d w' (by rw [← q']; exact hocd)
theorem store_ok {M : Model} {A : Around} {E : Value → Shared → Prop} {i : Nat} {x : Str} {v : V} {u : Value} {Q : Unit → Shared → Prop} (I : Inv X pins σ H s) (hN : X.N.Nodup) (hi : X.N[i]? = some x) (hx : Loc X.env.scope x) (r : RelV v u)
    (h : ∀ s', Inv X pins (σ.set i (some v)) H s' → Q () s') (hf : X.fn x = true ∨ X.env.scope.names.lookup x = some .local := by first | exact .inl rfl | exact .inr rfl | assumption) : wpAny M A (storeName X.env x u) Q E s :=
  store_ok2 I hN hi hx r (fun s' I' _ => h s' I') hf
theorem Inv.call' {s' : Shared} {ch : List Addr} (I : Inv X pins σ H s) (ho : s'.os = s.os) (u : Un (frs X.stack) ch H H' s.heap s'.heap) (hok : HOk X.prog X.w H' s'.heap) (hg : AllBare s'.gens)
    (hch : ∀ b ∈ ch, (b ∈ X.ex ∨ X.s₀.heap.objs.size ≤ b) ∧ b ≠ X.env.locals ∧ (∀ x c, X.env.cells.lookup x = some c → c ≠ b) ∧ ∀ p ∈ X.pn ++ pins, p.1 ≠ b) : Inv X pins σ H' s' := by
  obtain ⟨h', g', d', t', o'⟩ := s'
  have e : o' = s.os := ho
  subst e
  exact I.call (g' := g') (t' := t') (d' := d') u hok hg hch
end
abbrev XK := Value → Option Addr → Hp → Prop
abbrev St := List (Option V)
abbrev VK := V → Hp → Prop
abbrev TE := St → Hp → VK → Prop
abbrev TT := St → Hp → (Bool → Hp → Prop) → Prop
abbrev TA := St → Hp → (List V → Hp → Prop) → Prop
structure Ends where
  nx : St → Hp → Prop
  rt : VK
  bk : St → Hp → Prop := fun _ _ => False
  ct : St → Hp → Prop := fun _ _ => False
abbrev TS := Ends → St → Hp → Prop
def EP (X : Cx) (pins : List (Addr × Obj)) (σ : St) (Q : VK) (u : Value) (s' : Shared) : Prop := ∃ v H', Inv X pins σ H' s' ∧ RelV v u ∧ Q v H'
def TP (X : Cx) (pins : List (Addr × Obj)) (σ : St) (Q : Bool → Hp → Prop) (b : Bool) (s' : Shared) : Prop := ∃ H', Inv X pins σ H' s' ∧ Q b H'
def AP (X : Cx) (pins : List (Addr × Obj)) (σ : St) (Q : List V → Hp → Prop) (us : List Value) (s' : Shared) : Prop := ∃ vs H', Inv X pins σ H' s' ∧ Vals vs us ∧ Q vs H'
def SP (X : Cx) (pins : List (Addr × Obj)) (D : Ends) (f : Flow) (s' : Shared) : Prop :=
  match f with
  | .next => ∃ σ' H', Inv X pins σ' H' s' ∧ D.nx σ' H'
  | .brk => ∃ σ' H', Inv X pins σ' H' s' ∧ D.bk σ' H'
  | .cont => ∃ σ' H', Inv X pins σ' H' s' ∧ D.ct σ' H'
  | .ret u => ∃ v σ' H', Inv X pins σ' H' s' ∧ RelV v u ∧ D.rt v H'
def PE (X : Cx) (e : Expr) (t : TE) : Prop :=
  ∀ (pins : List (Addr × Obj)) (s : Shared) (σ : St) (H : Hp) (Q : VK), Inv X pins σ H s → t σ H Q → wpAny (model X.prog X.w) X.A (eval e X.env) (EP X pins σ Q) X.xe s
def PT (X : Cx) (e : Expr) (t : TT) : Prop :=
  ∀ (pins : List (Addr × Obj)) (s : Shared) (σ : St) (H : Hp) (Q : Bool → Hp → Prop), Inv X pins σ H s → t σ H Q → wpAny (model X.prog X.w) X.A (isTrue e X.env (eval e X.env)) (TP X pins σ Q) X.xe s
def PW (X : Cx) (e : Expr) (t : TT) : Prop :=
  ∀ (whole : Sem Value) (pins : List (Addr × Obj)) (s : Shared) (σ : St) (H : Hp) (Q : Bool → Hp → Prop), Inv X pins σ H s → t σ H Q → wpAny (model X.prog X.w) X.A (isTrue e X.env whole) (TP X pins σ Q) X.xe s
theorem PW.pt {X : Cx} {e : Expr} {t : TT} (h : PW X e t) : PT X e t := h _
def PA (X : Cx) (es : List Expr) (t : TA) : Prop :=
  ∀ (pos : Pos) (pins : List (Addr × Obj)) (s : Shared) (σ : St) (H : Hp) (Q : List V → Hp → Prop), Inv X pins σ H s → t σ H Q → wpAny (model X.prog X.w) X.A (spliced (backTo pos (starEach es X.env))) (AP X pins σ Q) X.xe s
def PS (X : Cx) (st : Stmt) (t : TS) : Prop :=
  ∀ (pins : List (Addr × Obj)) (s : Shared) (σ : St) (H : Hp) (D : Ends), Inv X pins σ H s → t D σ H → wpAny (model X.prog X.w) X.A (exec st X.env) (SP X pins D) X.xe s
def PSs (X : Cx) (st : List Stmt) (t : TS) : Prop :=
  ∀ (pins : List (Addr × Obj)) (s : Shared) (σ : St) (H : Hp) (D : Ends), Inv X pins σ H s → t D σ H → wpAny (model X.prog X.w) X.A (execs st X.env) (SP X pins D) X.xe s
theorem thn {α : Type} {t : Sem α} {Q Q' : α → Shared → Prop} {M : Model} {A : Around} {E : Value → Shared → Prop} {s : Shared} (h : wpAny M A t Q E s) (hQ : ∀ a s, Q a s → Q' a s) : wpAny M A t Q' E s := wpAny_mono h hQ fun _ _ x => x
end L2
namespace L2
open PySem PySem.Spec PyProof.Rows
section
variable {X : Cx}
def tVar (i : Nat) : TE := fun σ H Q => ∃ v, σ[i]? = some (some v) ∧ Q v H
def tC (v : V) : TE := fun _ H Q => Q v H
theorem pe_var {i : Nat} {x : Str} {pos : Pos} (hN : X.N[i]? = some x) (hv : Vis X.env.scope x) (hd : (x == ("__debug__" : Str)) = false := by decide) (hcd : (x == ("__classdict__" : Str)) = false := by decide) : PE X (.Name x pos) (tVar i) := by
  intro pins s σ H Q I h
  obtain ⟨v, e, h⟩ := h
  obtain ⟨m, hn, hl⟩ := I.loc
  obtain ⟨u, r, l⟩ := hl i x v hN e hv
  have fin : EP X pins σ Q u s := ⟨v, H, I, r, h⟩
  rcases l with ⟨hk, hm⟩ | ⟨hk, c, hc, hcell⟩
  · exact wpAny_Name (wpAny_loadName_local I.ok.kind hk hn hm fin) hd
  · rcases hk with hk | hk
    · exact wpAny_Name (wpAny_loadName_cell I.ok.kind hk hc hcell fin) hd
    · exact wpAny_Name (wpAny_loadName_free I.ok.kind hk hc hcell fin hcd) hd
theorem pe_int {i j pos} : PE X (.Constant (.int i) j pos) (tC (.int i)) := fun _ _ _ H _ I h => wpAny_Constant_int ⟨.int i, H, I.tok _, ⟨_, rfl⟩, h⟩
theorem pe_bl {b j pos} : PE X (.Constant (.bool b) j pos) (tC (.bl b)) := fun _ _ _ H _ I h => Constant_bool ⟨.bl b, H, I, rfl, h⟩
theorem pe_non {j pos} : PE X (.Constant .none j pos) (tC .non) := fun _ _ _ H _ I h => Constant_none ⟨.non, H, I, rfl, h⟩
def Gl (X : Cx) (x : Str) : Prop := X.env.kindOf x = some .globalImplicit
theorem ld_glob {E : Value → Shared → Prop} {pins : List (Addr × Obj)} {s : Shared} {σ : St} {H : Hp} {x : Str} {u : Value} {pos : Pos} {Q : Value → Shared → Prop} (I : Inv X pins σ H s) (hg : Gl X x) (hm : X.mg x = some u) (h : Q u s)
    (hd : (x == ("__debug__" : Str)) = false := by decide) : wpAny (model X.prog X.w) X.A (eval (.Name x pos) X.env) Q E s :=
  Calls.Name_function_global I.ok.kind hg (Calls.loadGlobal_global (by rw [I.ok.glob]; exact I.mod.glob.keeps I.bk) hm h) hd
theorem ld_blt {E : Value → Shared → Prop} {pins : List (Addr × Obj)} {s : Shared} {σ : St} {H : Hp} {x : Str} {u : Value} {pos : Pos} {Q : Value → Shared → Prop} (I : Inv X pins σ H s) (hg : Gl X x) (hm : X.mg x = none) (hv : bootBuiltins x = some u) (h : Q u s)
    (hn : x ≠ "__name__" := by decide) (hd : (x == ("__debug__" : Str)) = false := by decide) : wpAny (model X.prog X.w) X.A (eval (.Name x pos) X.env) Q E s := by
  obtain ⟨mb, h1, h2⟩ := I.mod.blt
  exact Calls.Name_function_global I.ok.kind hg (Calls.loadGlobal_builtin (by rw [I.ok.glob]; exact I.mod.glob.keeps I.bk) hm (by rw [I.ok.blt]; exact h1.keeps I.bk) ((h2 x hn).trans hv) h) hd
theorem pe_glob {x : Str} {v : V} {u : Value} {pos : Pos} (hg : Gl X x) (hm : X.mg x = some u) (r : RelV v u) (hd : (x == ("__debug__" : Str)) = false := by decide) : PE X (.Name x pos) (tC v) :=
  fun _ _ _ H _ I h => ld_glob I hg hm ⟨v, H, I, r, h⟩ hd
theorem pe_bltn {x : Str} {v : V} {u : Value} {pos : Pos} (hg : Gl X x) (hm : X.mg x = none) (hv : bootBuiltins x = some u) (r : RelV v u) (hn : x ≠ "__name__" := by decide) (hd : (x == ("__debug__" : Str)) = false := by decide) : PE X (.Name x pos) (tC v) :=
  fun _ _ _ H _ I h => ld_blt I hg hm hv ⟨v, H, I, r, h⟩ hn hd
variable {a b : Expr} {ta tb : TE} {pos : Pos}
def tB (t : TE) : TT := fun σ H Q => t σ H fun x H1 => ∃ c, x = .bl c ∧ Q c H1
theorem pt_val {e : Expr} {t : TE} (h : PE X e t) (he : ∀ whole, isTrue e X.env whole = (do let v ← whole; standAt e.pos; holding [v] (truthy v)) := by intro _; rfl) : PT X e (tB t) := by
  intro pins s σ H Q I hw
  refine isTrue_plain (thn (h pins s σ H _ I hw) fun v s1 ⟨x, H1, I1, r1, q1⟩ => ?_) (he _)
  obtain ⟨d, rfl, q⟩ := q1
  cases r1
  exact wpAny_truthy_bool ⟨H1, I1, q⟩
variable {tA tB' : TT} {rest : List Expr}
def tAnd (t u : TT) : TT := fun σ H Q => t σ H fun c H1 => if c = true then u σ H1 Q else Q false H1
def tOr (t u : TT) : TT := fun σ H Q => t σ H fun c H1 => if c = true then Q true H1 else u σ H1 Q
def tNot (t : TT) : TT := fun σ H Q => t σ H fun c H1 => Q (!c) H1
theorem pw_and1 (ha : PT X a tA) : PW X (.BoolOp .And [a] pos) tA := by
  intro wh pins s σ H Q I h
  refine isTrue_and (thn (ha pins s σ H Q I h) fun c s1 e => ?_)
  cases c with
  | true => exact isTrue_and_nil e
  | false => exact e
theorem pw_or1 (ha : PT X a tA) : PW X (.BoolOp .Or [a] pos) tA := by
  intro wh pins s σ H Q I h
  refine isTrue_or (thn (ha pins s σ H Q I h) fun c s1 e => ?_)
  cases c with
  | false => exact isTrue_or_nil e
  | true => exact e
theorem pw_and (ha : PT X a tA) (hb : PW X (.BoolOp .And (b :: rest) pos) tB') : PW X (.BoolOp .And (a :: b :: rest) pos) (tAnd tA tB') := by
  intro wh pins s σ H Q I h
  refine isTrue_and (thn (ha pins s σ H _ I h) fun c s1 ⟨H1, I1, q1⟩ => ?_)
  cases c with
  | true => exact hb wh pins s1 σ H1 Q I1 q1
  | false => exact ⟨H1, I1, q1⟩
theorem pw_or (ha : PT X a tA) (hb : PW X (.BoolOp .Or (b :: rest) pos) tB') : PW X (.BoolOp .Or (a :: b :: rest) pos) (tOr tA tB') := by
  intro wh pins s σ H Q I h
  refine isTrue_or (thn (ha pins s σ H _ I h) fun c s1 ⟨H1, I1, q1⟩ => ?_)
  cases c with
  | true => exact ⟨H1, I1, q1⟩
  | false => exact hb wh pins s1 σ H1 Q I1 q1
theorem pt_not (ha : PT X a tA) : PT X (.UnaryOp .Not a pos) (tNot tA) := by
  intro pins s σ H Q I h
  exact isTrue_not (ha pins s σ H (fun c H1 => Q (!c) H1) I h)
def tAndV (ta tb : TE) : TE := fun σ H Q => ta σ H fun x H1 => ∃ c, x = .bl c ∧ if c = true then tb σ H1 Q else Q (.bl false) H1
def tNotV (ta : TE) : TE := fun σ H Q => ta σ H fun x H1 => ∃ c, x = .bl c ∧ Q (.bl (!c)) H1
theorem pe_one {op} {t : TE} (h : PE X a t) : PE X (.BoolOp op [a] pos) t := fun pins s σ H Q I hw => BoolOp_one (h pins s σ H Q I hw)
theorem pe_and (ha : PE X a ta) (hb : PE X (.BoolOp .And (b :: rest) pos) tb) : PE X (.BoolOp .And (a :: b :: rest) pos) (tAndV ta tb) := by
  intro pins s σ H Q I h
  refine BoolOp_and (thn (ha pins s σ H _ I h) fun v s1 ⟨x, H1, I1, r1, q1⟩ => ?_)
  obtain ⟨c, rfl, q1⟩ := q1
  cases r1
  refine wpAny_truthy_bool ?_
  cases c with
  | true => exact hb pins s1 σ H1 Q I1 q1
  | false => exact ⟨.bl false, H1, I1, rfl, q1⟩
theorem pe_not (ha : PE X a ta) : PE X (.UnaryOp .Not a pos) (tNotV ta) := by
  intro pins s σ H Q I h
  refine UnaryOp_ (thn (ha pins s σ H _ I h) fun v s1 ⟨x, H1, I1, r1, q1⟩ => ?_)
  obtain ⟨c, rfl, q1⟩ := q1
  cases r1
  exact not_of (wpAny_truthy_bool ⟨.bl (!c), H1, I1, rfl, q1⟩)
def tIf (t : TT) (ta tb : TE) : TE := fun σ H Q => t σ H fun c H1 => if c = true then ta σ H1 Q else tb σ H1 Q
theorem pe_ifExp {c : Expr} (hc : PT X c tA) (ha : PE X a ta) (hb : PE X b tb) : PE X (.IfExp c a b pos) (tIf tA ta tb) := by
  intro pins s σ H Q I h
  refine wpAny_IfExp (thn (hc pins s σ H _ I h) fun d s1 ⟨H1, I1, q1⟩ => ?_)
  cases d with
  | true => exact ha pins s1 σ H1 Q I1 q1
  | false => exact hb pins s1 σ H1 Q I1 q1
end
end L2
namespace L2
open PySem PySem.Spec PyProof.Rows
def SqL (K : PySem.W.Frag) (H : Hp) (a : Addr) (xs : List V) : Prop :=
  Rd H a (.lst xs) ∨
    ∃ (o : Obj) (its : Array Value) (n : Nat), K.lookup a = some o ∧ o.cls = .type "list" ∧ o.dict = none ∧ o.data = .seq its n ∧ its.size ≤ sizeLine ∧ Vals xs its.toList
def SqT (K : PySem.W.Frag) (H : Hp) (a : Addr) (xs : List V) : Prop :=
  Rd H a (.tup xs) ∨
    ∃ (o : Obj) (its : Array Value) (n : Nat), K.lookup a = some o ∧ o.cls = .type "tuple" ∧ o.data = .seq its n ∧ its.size ≤ sizeLine ∧ Vals xs its.toList
def absV : Value → Option V
  | .none => some .non
  | .bool b => some (.bl b)
  | .int i _ => some (.int i)
  | .str x _ => some (.str x)
  | .bytes b _ => some (.byt b)
  | .float b _ => some (.flt b)
  | .ref a => some (.ref a)
  | .type n => some (.ty n)
  | _ => none
theorem RelV.abs {x : V} {u : Value} (r : RelV x u) : absV u = some x := by
  cases x with
  | non => cases r; rfl
  | bl _ => cases r; rfl
  | int _ => obtain ⟨t, rfl⟩ := r; rfl
  | str _ => obtain ⟨t, rfl⟩ := r; rfl
  | byt _ => obtain ⟨t, rfl⟩ := r; rfl
  | flt _ => obtain ⟨t, rfl⟩ := r; rfl
  | ref _ => cases r; rfl
  | ty _ => cases r; rfl
theorem RelV.inj {x y : V} {u : Value} (r : RelV x u) (q : RelV y u) : x = y := Option.some.inj (r.abs.symm.trans q.abs)
theorem Vals.inj : ∀ {xs ys : List V} {us : List Value}, Vals xs us → Vals ys us → xs = ys
  | _, _, _, .nil, .nil => rfl
  | _, _, _, .cons r t, .cons r' t' => by rw [r.inj r', Vals.inj t t']
section
variable {X : Cx} {pins : List (Addr × Obj)} {σ : St} {H : Hp} {s : Shared} {a : Addr} {xs ys : List V}
theorem SqL.of {K : PySem.W.Frag} (h : H a = some (.lst xs)) : SqL K H a xs := .inl (.inl h)
theorem SqT.of {K : PySem.W.Frag} (h : H a = some (.tup xs)) : SqT K H a xs := .inl (.inl h)
theorem Inv.list (I : Inv X pins σ H s) (h : SqL X.K H a xs) : ∃ its : List Value, Vals xs its ∧ PlainL s.heap a its.toArray ∧ xs.length ≤ sizeLine := by
  rcases h with h | ⟨o, its, n, hk, hc, hd, hs, hz, r⟩
  · obtain ⟨z, its, n, r, e⟩ := h.ok I.hok
    exact ⟨its, r, ⟨_, n, e, rfl, rfl, rfl⟩, z⟩
  · refine ⟨its.toList, r, ⟨o, n, I.kIn a o hk, hc, hd, by simpa using hs⟩, ?_⟩
    have e := r.length
    simp only [Array.length_toList] at e
    omega
theorem Inv.tuple (I : Inv X pins σ H s) (h : SqT X.K H a xs) : ∃ its : List Value, Vals xs its ∧ IsTup s.heap a its.toArray ∧ xs.length ≤ sizeLine := by
  rcases h with h | ⟨o, its, n, hk, hc, hs, hz, r⟩
  · obtain ⟨z, its, r, p⟩ := h.ok I.hok
    exact ⟨its, r, p, z⟩
  · refine ⟨its.toList, r, ⟨o, I.kIn a o hk, hc, n, by simpa using hs⟩, ?_⟩
    have e := r.length
    simp only [Array.length_toList] at e
    omega
theorem Inv.list_inj (I : Inv X pins σ H s) (h : SqL X.K H a xs) (h' : SqL X.K H a ys) : xs = ys := by
  obtain ⟨its, r, ⟨o, n, e, _, _, d⟩, _⟩ := I.list h
  obtain ⟨its', r', ⟨o', n', e', _, _, d'⟩, _⟩ := I.list h'
  rw [e] at e'; cases e'
  rw [d] at d'
  injection d' with d1 _
  have : its = its' := by simpa using congrArg Array.toList d1
  subst this
  exact r.inj r'
end
abbrev Cx.wish (X : Cx) (E : Value → Shared → Prop) : Cx := { X with xe := E }
abbrev Cx.nox (X : Cx) : Cx := X.wish fun _ _ => False
theorem Cx.Ok.wish {X : Cx} (ok : X.Ok) (E : Value → Shared → Prop) : (X.wish E).Ok :=
  ⟨ok.mod, ok.kind, ok.glob, ok.blt, ok.above, ok.inj, ok.has, ok.cab, ok.hd, ok.frames, ok.stk, ok.exf, ok.bs, ok.bsz, ok.noex, ok.exfs, ok.funs, ok.frf⟩
theorem Cx.Ok.unwish {X : Cx} {E : Value → Shared → Prop} (ok : (X.wish E).Ok) : X.Ok :=
  ⟨ok.mod, ok.kind, ok.glob, ok.blt, ok.above, ok.inj, ok.has, ok.cab, ok.hd, ok.frames, ok.stk, ok.exf, ok.bs, ok.bsz, ok.noex, ok.exfs, ok.funs, ok.frf⟩
section
variable {X : Cx} {pins : List (Addr × Obj)} {σ : St} {H : Hp} {s : Shared} {E : Value → Shared → Prop}
theorem Inv.wish (I : Inv X pins σ H s) (E : Value → Shared → Prop) : Inv (X.wish E) pins σ H s := ⟨I.ok.wish E, I.os, I.bare, I.base, I.loc, I.cell, I.free, I.freeC, I.pin, I.hok, I.len⟩
theorem Inv.unwish (I : Inv (X.wish E) pins σ H s) : Inv X pins σ H s := ⟨I.ok.unwish, I.os, I.bare, I.base, I.loc, I.cell, I.free, I.freeC, I.pin, I.hok, I.len⟩
theorem SP.unwish {D : Ends} {f : Flow} {s' : Shared} (h : SP (X.wish E) pins D f s') : SP X pins D f s' := by
  cases f with
  | next => obtain ⟨σ', H', I, q⟩ := h; exact ⟨σ', H', I.unwish, q⟩
  | brk => obtain ⟨σ', H', I, q⟩ := h; exact ⟨σ', H', I.unwish, q⟩
  | cont => obtain ⟨σ', H', I, q⟩ := h; exact ⟨σ', H', I.unwish, q⟩
  | ret u => obtain ⟨v, σ', H', I, r, q⟩ := h; exact ⟨v, σ', H', I.unwish, r, q⟩
theorem PSs.nox {st : List Stmt} {t : TS} (h : PSs X.nox st t) : PSs X st t := fun pins s σ H D I hw =>
  wpAny_mono (h pins s σ H D (I.wish _) hw) (fun _ _ q => q.unwish) fun _ _ z => False.elim z
end
section
variable {X : Cx} {st : Stmt} {rest : List Stmt} {t u : TS} {e : Expr} {te : TE} {pos : Pos}
def tNext : TS := fun D σ H => D.nx σ H
def tSeq (t u : TS) : TS := fun D σ H => t { D with nx := u D } σ H
theorem pss_nil : PSs X [] tNext := fun _ _ σ H _ I h => wpAny_execs_nil ⟨σ, H, I, h⟩
theorem pss_cons (h1 : PS X st t) (h2 : PSs X rest u) : PSs X (st :: rest) (tSeq t u) := by
  intro pins s σ H D I h
  refine wpAny_execs_cons (thn (h1 pins s σ H { D with nx := u D } I h) fun f s1 q => ?_)
  cases f with
  | next =>
    obtain ⟨σ', H', I', q⟩ := q
    exact h2 pins s1 σ' H' D I' q
  | ret v => exact q
  | brk => exact q
  | cont => exact q
theorem pss_one (h1 : PS X st t) : PSs X [st] t := by
  intro pins s σ H D I h
  refine wpAny_execs_cons (thn (h1 pins s σ H D I h) fun f s1 q => ?_)
  cases f with
  | next => exact wpAny_execs_nil q
  | ret v => exact q
  | brk => exact q
  | cont => exact q
theorem Inv.quiet {pins : List (Addr × Obj)} {σ : St} {H : Hp} {s : Shared} (I : Inv X pins σ H s) : interactive X.env = false := by simp [interactive, I.ok.kind]
def tDrop (te : TE) : TS := fun D σ H => te σ H fun _ H1 => D.nx σ H1
theorem ps_expr (he : PE X e te) (hs : swapsWith e none pos.line X.env = pure false := by rfl) : PS X (.Expr e pos) (tDrop te) := by
  intro pins s σ H D I h
  exact wpAny_Expr_any (thn (he pins s σ H _ I h) fun v s1 ⟨x, H1, I1, r1, q1⟩ => ⟨σ, H1, I1, q1⟩) I.quiet hs
def tRet (te : TE) : TS := fun D σ H => te σ H D.rt
theorem ps_ret (he : PE X e te) : PS X (.Return (some e) pos) (tRet te) := by
  intro pins s σ H D I h
  exact wpAny_Return_some (thn (he pins s σ H _ I h) fun v s1 ⟨x, H1, I1, r1, q1⟩ => ⟨x, σ, H1, I1, r1, q1⟩)
def tIfS (c : TT) (t u : TS) : TS := fun D σ H => c σ H fun b H1 => if b = true then t D σ H1 else u D σ H1
theorem ps_if {c : Expr} {a b : List Stmt} {tc : TT} (hc : PT X c tc) (ha : PSs X a t) (hb : PSs X b u) : PS X (.If c a b pos) (tIfS tc t u) := by
  intro pins s σ H D I h
  refine wpAny_If (thn (hc pins s σ H _ I h) fun d s1 ⟨H1, I1, q1⟩ => ?_)
  cases d with
  | true => exact ha pins s1 σ H1 D I1 q1
  | false => exact hb pins s1 σ H1 D I1 q1
def tNever : TS := fun _ _ _ => False
theorem ps_never : PS X st tNever := fun _ _ _ _ _ _ h => h.elim
end
abbrev TG := V → St → Hp → (St → Hp → Prop) → Prop
abbrev TGs := List V → St → Hp → (St → Hp → Prop) → Prop
def PG (X : Cx) (target : Expr) (t : TG) : Prop :=
  ∀ (pins : List (Addr × Obj)) (s : Shared) (σ : St) (H : Hp) (v : V) (u : Value) (Q : St → Hp → Prop), Inv X pins σ H s → RelV v u → t v σ H Q →
    wpAny (model X.prog X.w) X.A (assign target X.env u) (fun _ s' => ∃ σ' H', Inv X pins σ' H' s' ∧ Q σ' H') X.xe s
def PGs (X : Cx) (ts : List Expr) (t : TGs) : Prop :=
  ∀ (pins : List (Addr × Obj)) (s : Shared) (σ : St) (H : Hp) (vs : List V) (us : List Value) (Q : St → Hp → Prop), Inv X pins σ H s → Vals vs us → t vs σ H Q →
    wpAny (model X.prog X.w) X.A (assignInOrder ((assignEach ts X.env).map (·.2)) us) (fun _ s' => ∃ σ' H', Inv X pins σ' H' s' ∧ Q σ' H') X.xe s
abbrev TSet := V → V → V → Hp → (Hp → Prop) → Prop
def PSet (X : Cx) (t : TSet) : Prop :=
  ∀ (pins : List (Addr × Obj)) (s : Shared) (σ : St) (H : Hp) (o i v : V) (ov iv u : Value) (Q : Hp → Prop), Inv X pins σ H s → RelV o ov → RelV i iv → RelV v u → t o i v H Q →
    wpAny (model X.prog X.w) X.A (setItem ov iv u) (fun _ s' => ∃ H', Inv X pins σ H' s' ∧ Q H') X.xe s
section
variable {X : Cx} {pos : Pos}
def gName (i : Nat) : TG := fun v σ H Q => Q (σ.set i (some v)) H
theorem pg_name {i : Nat} {x : Str} (hN : X.N.Nodup) (hi : X.N[i]? = some x) (hx : Loc X.env.scope x) (hf : X.fn x = true ∨ X.env.scope.names.lookup x = some .local := by first | exact .inl rfl | exact .inr rfl | assumption) : PG X (.Name x pos) (gName i) := by
  intro pins s σ H v u Q I r h
  exact wpAny_assign_Name (store_ok I hN hi hx r (fun s' I' => ⟨_, H, I', h⟩) hf)
def gNil : TGs := fun vs σ H Q => vs = [] ∧ Q σ H
def gCons (t : TG) (u : TGs) : TGs := fun vs σ H Q => ∃ v r, vs = v :: r ∧ t v σ H fun σ' H' => u r σ' H' Q
theorem pgs_nil : PGs X [] gNil := by
  intro pins s σ H vs us Q I r h
  obtain ⟨e, h⟩ := h
  subst e
  cases r
  exact assignInOrder_nil ⟨σ, H, I, h⟩
theorem pgs_cons {e : Expr} {es : List Expr} {t : TG} {u : TGs} (h1 : PG X e t) (h2 : PGs X es u)
    (hs : (assignEach (e :: es) X.env).map (·.2) = assign e X.env :: (assignEach es X.env).map (·.2) := by rfl) : PGs X (e :: es) (gCons t u) := by
  intro pins s σ H vs us Q I r h
  obtain ⟨v, vr, e1, h⟩ := h
  subst e1
  cases r with
  | cons r rr =>
    rw [hs]
    refine assignInOrder_cons (thn (h1 pins s σ H _ _ _ I r h) fun _ s1 ⟨σ1, H1, I1, q1⟩ => ?_)
    exact h2 pins s1 σ1 H1 _ _ Q I1 rr q1
def gTup (K : PySem.W.Frag) (n : Nat) (t : TGs) : TG := fun v σ H Q => ∃ a xs, v = .ref a ∧ SqT K H a xs ∧ xs.length = n ∧ t xs σ H Q
theorem pg_tup {es : List Expr} {k : Nat} {t : TGs} {n : Nat} (hc : X.calm = true) (h : PGs X es t)
    (hn : (assignEach es X.env).length = n := by rfl) (hst : (assignEach es X.env).findIdx? (·.1) = none := by rfl) : PG X (.Tuple es k pos) (gTup X.K n t) := by
  intro pins s σ H v u Q I r hw
  obtain ⟨a, xs, e1, hq, hl, hw⟩ := hw
  subst e1
  cases r
  obtain ⟨its, rv, ht, hz⟩ := I.tuple hq
  refine assign_Tuple_tuple (I.ok.hd hc) ht (by simp [hn, ← hl, rv.length]) hst fun h' hx => ?_
  have I1 : Inv X pins σ H { s with heap := h' } := I.kept (t' := s.toks) fun b o e => hx b o (Nat.ne_of_lt (Heap.lt_size e)) e
  exact h pins _ σ H xs _ Q I1 (by simpa using rv) hw
def gSub (to ti : TE) (t : TSet) : TG := fun v σ H Q => to σ H fun o H1 => ti σ H1 fun i H2 => t o i v H2 fun H3 => Q σ H3
theorem pg_sub {o i : Expr} {to ti : TE} {t : TSet} (ho : PE X o to) (hi : PE X i ti) (hs : PSet X t)
    (ha : ∀ v, assign (.Subscript o i pos) X.env v = (do
      let ov ← holding [v] (eval o X.env)
      let iv ← holding [v, ov] (eval i X.env)
      standAt pos
      holding [v, ov, iv] (setItem ov iv v)
      release [v, ov, iv] []) := by intro _; rfl) : PG X (.Subscript o i pos) (gSub to ti t) := by
  intro pins s σ H v u Q I r h
  rw [ha]
  refine wpAny_bind (wpAny_holding (thn (ho pins s σ H _ I h) fun ov s1 ⟨x, H1, I1, r1, q1⟩ => ?_))
  refine wpAny_bind (wpAny_holding (thn (hi pins s1 σ H1 _ I1 q1) fun iv s2 ⟨y, H2, I2, r2, q2⟩ => ?_))
  refine wpAny_bind (wpAny_standAt (wpAny_bind (wpAny_holding (thn (hs pins s2 σ H2 x y v ov iv u _ I2 r1 r2 r q2) fun _ s3 ⟨H3, I3, q3⟩ => ?_))))
  exact wpAny_release ⟨σ, H3, I3, q3⟩
def tAsg (te : TE) (g : TG) : TS := fun D σ H => te σ H fun x H1 => g x σ H1 D.nx
theorem ps_asg {tg e : Expr} {te : TE} {g : TG} (he : PE X e te) (hg : PG X tg g) (hs : swapsWithSole [tg] e pos.line X.env = pure false := by rfl) (hw : swappedStores [tg] e X.env = pure none := by rfl)
    (h1 : (assignEach [tg] X.env).map (·.2) = [assign tg X.env] := by rfl) : PS X (.Assign [tg] e pos) (tAsg te g) := by
  intro pins s σ H D I h
  refine wpAny_Assign_stores (thn (he pins s σ H _ I h) fun v s1 ⟨x, H1, I1, r1, q1⟩ => ?_) hs hw
  rw [h1]
  exact thn (hg pins s1 σ H1 x v _ I1 r1 q1) fun _ s2 q => q
theorem ps_set {i : Nat} {x : Str} {e : Expr} {te : TE} {pos' : Pos} (hN : X.N.Nodup) (hi : X.N[i]? = some x) (hx : Loc X.env.scope x) (he : PE X e te) (hs : swapsWith e (some (.Name x pos')) pos.line X.env = pure false := by rfl) (hf : X.fn x = true ∨ X.env.scope.names.lookup x = some .local := by first | exact .inl rfl | exact .inr rfl | assumption) :
    PS X (.Assign [.Name x pos'] e pos) (tAsg te (gName i)) := by
  intro pins s σ H D I h
  refine wpAny_Assign_Name (thn (he pins s σ H _ I h) fun v s1 ⟨y, H1, I1, r1, q1⟩ => ?_) hs
  exact store_ok I1 hN hi hx r1 (fun s2 I2 => ⟨_, H1, I2, q1⟩) hf
def tPar (i j : Nat) (ta : TA) : TS := fun D σ H => ta σ H fun vs H1 => ∃ v w, vs = [v, w] ∧ D.nx ((σ.set i (some v)).set j (some w)) H1
theorem ps_par {i j : Nat} {x y : Str} {a b : Expr} {ta : TA} {px py pt : Pos} {kt k2 pt2} (hc : X.calm = true) (hN : X.N.Nodup) (hi : X.N[i]? = some x) (hj : X.N[j]? = some y) (hij : i ≠ j)
    (hx : X.env.scope.names.lookup x = some .local) (hy : X.env.scope.names.lookup y = some .local) (ha : PA X [a, b] ta)
    (hw : swappedStores [.Tuple [.Name x px, .Name y py] kt pt] (.Tuple [a, b] k2 pt2) X.env = pure (some [x, y]))
    (hs : swapsWithSole [.Tuple [.Name x px, .Name y py] kt pt] (.Tuple [a, b] k2 pt2) pos.line X.env = pure false := by rfl) :
    PS X (.Assign [.Tuple [.Name x px, .Name y py] kt pt] (.Tuple [a, b] k2 pt2) pos) (tPar i j ta) := by
  intro pins s σ H D I h
  rw [exec_Assign_arm]
  refine wpAny_bind (wpAny_standAt ?_)
  rw [hs]
  refine wpAny_bind (wpAny_pure ?_)
  rw [if_neg (by decide)]
  refine wpAny_bind (Tuple_ (thn (ha _ pins s σ H _ I h) fun us s1 ⟨vs, H1, I1, r1, q1⟩ => ?_))
  obtain ⟨v, w, e1, q1⟩ := q1
  subst e1
  obtain ⟨u1, u2, rfl, rv, rw'⟩ : ∃ u1 u2, us = [u1, u2] ∧ RelV v u1 ∧ RelV w u2 := by
    cases r1 with
    | cons p q =>
      cases q with
      | cons p' q' =>
        cases q'
        exact ⟨_, _, rfl, p, p'⟩
  refine wpAny_newObj_type ?_ (by show 2 ≤ sizeLine; decide)
  have I2 : Inv X pins σ H1 { s1 with heap := s1.heap.push { cls := .type "tuple", data := .seq [u1, u2].toArray } } := I1.kept (t' := s1.toks) fun b o e => Heap.get?_push_of_some _ e
  rw [hw]
  refine wpAny_bind (wpAny_pure ?_)
  show wpAny (model X.prog X.w) X.A (do rule "assign.swapped-stores"; let items ← unpackItems (.ref s1.heap.objs.size) 2 none; assignInOrder [fun v => bindName X.env y v, fun v => bindName X.env x v] items.reverse; pure Flow.next) _ _ _
  refine wpAny_bind (wpAny_rule (wpAny_bind (unpackItems_tuple (items := #[u1, u2]) (I.ok.hd hc) (IsTup.new s1.heap _) fun h' hx' => ?_)))
  have I3 := I2.kept (h' := h') (t' := s1.toks) fun b o e => hx' b o (Nat.ne_of_lt (Heap.lt_size e)) e
  show wpAny _ _ (assignInOrder [fun v => bindName X.env y v, fun v => bindName X.env x v] [u2, u1] >>= fun _ => pure Flow.next) _ _ _
  refine wpAny_bind (assignInOrder_cons (wpAny_bindName (store_ok I3 hN hj (.inl hy) rw' (fun s2 I4 => ?_) (.inr hy))))
  refine assignInOrder_cons (wpAny_bindName (store_ok I4 hN hi (.inl hx) rv (fun s3 I5 => assignInOrder_nil (wpAny_pure ?_)) (.inr hx)))
  rw [List.set_comm _ _ (Ne.symm hij)] at I5
  exact ⟨_, H1, I5, q1⟩
end
section
variable {X : Cx} {pos : Pos}
def tWhile (c : TT) (tb : TS) : TS := fun D σ H => ∃ W : Nat → St → Hp → Prop, (∃ m, W m σ H) ∧ ∀ m σ H, W m σ H →
  c σ H fun b H1 => if b = true then ∃ N : St → Hp → Prop, (∀ σ' H', N σ' H' → ∃ m', m' < m ∧ W m' σ' H') ∧ tb { D with nx := N, ct := N, bk := D.nx } σ H1 else D.nx σ H1
theorem ps_while {c : Expr} {body : List Stmt} {tc : TT} {tb : TS} (hp : PassesOwn (model X.prog X.w) X.A X.env X.xe) (hc : PT X c tc) (hb : PSs X body tb) : PS X (.While c body [] pos) (tWhile tc tb) := by
  intro pins s σ H D I h
  obtain ⟨W, ⟨m0, w0⟩, turn⟩ := h
  refine wpAny_While (codeAny_whileLoop (fun n s' => ∃ σ' H', Inv X pins σ' H' s' ∧ W n σ' H') ?_ m0 ⟨σ, H, I, w0⟩)
  rintro n s1 ⟨σ1, H1, I1, w1⟩
  refine wpAny_passesOwn hp (thn (hc pins s1 σ1 H1 _ I1 (turn n σ1 H1 w1)) fun b s2 ⟨H2, I2, q2⟩ => ?_)
  cases b with
  | true =>
    obtain ⟨N, hN, q2⟩ := q2
    rw [if_pos rfl]
    refine wpAny_passesOwn hp (thn (hb pins s2 σ1 H2 _ I2 q2) fun f s3 q3 => ?_)
    cases f with
    | next =>
      obtain ⟨σ3, H3, I3, n3⟩ := q3
      obtain ⟨m', hm, w3⟩ := hN σ3 H3 n3
      exact ⟨m', hm, σ3, H3, I3, w3⟩
    | cont =>
      obtain ⟨σ3, H3, I3, n3⟩ := q3
      obtain ⟨m', hm, w3⟩ := hN σ3 H3 n3
      exact ⟨m', hm, σ3, H3, I3, w3⟩
    | brk => exact q3
    | ret v => exact q3
  | false =>
    rw [if_neg Bool.false_ne_true]
    exact wpAny_execs_nil ⟨σ1, H2, I2, q2⟩
end
structure It where
  go : Nat → Hp → Prop
  yld : Nat → Hp → V → Hp → Prop
  stop : Nat → Hp → Prop
def FpOk (X : Cx) (pins : List (Addr × Obj)) (H : Hp) (b : Addr) : Prop :=
  H b = none ∧ b ≠ X.env.locals ∧ b ∉ X.fs ∧ (b ∈ X.ex ∨ X.s₀.heap.objs.size ≤ b) ∧ (∀ x c, X.env.cells.lookup x = some c → c ≠ b) ∧ ∀ p ∈ X.pn ++ pins, p.1 ≠ b
theorem Inv.fpOk {X : Cx} {pins : List (Addr × Obj)} {σ : St} {H H' : Hp} {s : Shared} {b : Addr} (I : Inv X pins σ H s) (hb : s.heap.objs.size ≤ b) (hn : H' b = none) : FpOk X pins H' b := by
  refine ⟨hn, Nat.ne_of_gt (Nat.lt_of_lt_of_le I.lt hb), I.nofs hb, .inr (Nat.le_trans I.sz hb), fun x c e z => ?_, fun p hp z => ?_⟩
  · obtain ⟨v, q⟩ := I.cell x c e
    exact absurd (Nat.lt_of_lt_of_le q.lt (by rw [z]; exact hb)) (Nat.lt_irrefl _)
  · exact absurd (Nat.lt_of_lt_of_le (Heap.lt_size (I.pin p hp).1) (by rw [z]; exact hb)) (Nat.lt_irrefl _)
structure Turn (P : Program) (w : World) (K : PySem.W.Frag) (tg : Expr) (J : It) (fp : List Addr) (it : Addr) (tn : Nat → Heap → Prop) : Prop where
  mem : it ∈ fp
  obj : ∀ i h, tn i h → ∀ b ∈ fp, ∃ o, h.get? b = some o ∧ ∀ v, o.data ≠ .cell v
  keep : ∀ i h h', tn i h → (∀ b ∈ fp, ∀ o, h.get? b = some o → h'.get? b = some o) → tn i h'
  item : ∀ (X : Cx), X.prog = P → X.w = w → X.K = K → X.calm = true → ∀ (i : Nat) (pins : List (Addr × Obj)) (s : Shared) (σ : St) (H : Hp) (E : Value → Shared → Prop), Inv X pins σ H s → (∀ b ∈ fp, FpOk X pins H b) → tn i s.heap → J.go i H →
    wpAny (model P w) X.A (pyNext (.ref it)) (fun r s1 => ∃ u, r = some u ∧
      wpAny (model P w) X.A (letOwnedTupleGo tg (.ref it) u) (fun _ s2 => ∃ x H', Inv X pins σ H' s2 ∧ RelV x u ∧ J.yld i H x H' ∧ tn (i + 1) s2.heap ∧ ∀ b ∈ fp, H' b = none) E s1) E s
  done : ∀ (X : Cx), X.prog = P → X.w = w → X.K = K → X.calm = true → ∀ (i : Nat) (pins : List (Addr × Obj)) (s : Shared) (σ : St) (H : Hp) (E : Value → Shared → Prop), Inv X pins σ H s → (∀ b ∈ fp, FpOk X pins H b) → tn i s.heap → J.stop i H →
    wpAny (model P w) X.A (pyNext (.ref it)) (fun r s1 => r = none ∧ Inv X pins σ H s1) E s
  self : ∀ (A : Around) (i : Nat) (s : Shared) (Q : Value → Shared → Prop) (E : Value → Shared → Prop), tn i s.heap → Q (.ref it) s → wpAny (model P w) A (pyIter (.ref it)) Q E s
abbrev TI := St → Hp → (It → Hp → Prop) → Prop
def PIE (X : Cx) (pins : List (Addr × Obj)) (σ : St) (tg : Expr) (R : It → Hp → Prop) (itv : Value) (s2 : Shared) : Prop :=
  ∃ (it : Addr) (fp : List Addr) (tn : Nat → Heap → Prop) (J : It) (H' : Hp), itv = .ref it ∧ Inv X pins σ H' s2 ∧ Turn X.prog X.w X.K tg J fp it tn ∧ tn 0 s2.heap ∧ (∀ b ∈ fp, FpOk X pins H' b) ∧ R J H'
def PI (X : Cx) (tg iter : Expr) (wi : TI) : Prop :=
  ∀ (pins : List (Addr × Obj)) (s : Shared) (σ : St) (H : Hp) (R : It → Hp → Prop), Inv X pins σ H s → wi σ H R →
    wpAny (model X.prog X.w) X.A (eval iter X.env) (fun v s1 => wpAny (model X.prog X.w) X.A (pyIter v) (PIE X pins σ tg R) X.xe s1) X.xe s
theorem go_of {M : Model} {A : Around} {E : Value → Shared → Prop} {s : Shared} {tg : Expr} {it : Addr} {u : Value} {o : Obj} {n : String} {vs : Array Value} {Q : Unit → Shared → Prop} (ho : s.heap.get? it = some o) (hc : o.cls = .type n) (hd : o.data = .fields vs)
    (hn : ["enumerate", "zip", "dict_itemiterator", "dict_reverseitemiterator", "odict_iterator", "itertools.zip_longest", "itertools.pairwise"].contains n = false) (hQ : Q () s) : wpAny M A (letOwnedTupleGo tg (.ref it) u) Q E s := by
  unfold letOwnedTupleGo
  cases tg <;> first
    | exact wpAny_pure hQ
    | (cases u <;> first
        | exact wpAny_pure hQ
        | (refine wpAny_bind (wpAny_load ho ?_)
           rw [hc, hd]
           show wpAny M A (if (["enumerate", "zip", "dict_itemiterator", "dict_reverseitemiterator", "odict_iterator", "itertools.zip_longest", "itertools.pairwise"].contains n && vs[0]? == some (rawInt _)) = true then _ else _) Q E s
           rw [if_neg (by intro h; rw [hn, Bool.false_and] at h; cases h)]
           exact wpAny_pure hQ))
def Itl (K : PySem.W.Frag) (a : Addr) : It :=
  ⟨fun i H => ∃ xs x, SqL K H a xs ∧ xs[i]? = some x, fun i H x H' => H' = H ∧ ∀ xs, SqL K H a xs → xs[i]? = some x, fun i H => ∃ xs, SqL K H a xs ∧ xs.length ≤ i⟩
def Itr (lo : Int) (n : Nat) : It := ⟨fun i _ => i < n, fun i H x H' => H' = H ∧ x = .int (lo + i), fun i _ => n ≤ i⟩
theorem turn_list {P : Program} {w : World} {K : PySem.W.Frag} {tg : Expr} (a it : Addr) : Turn P w K tg (Itl K a) [it] it (fun i h => h.IsListIter it a i) where
  mem := by simp
  obj := fun i h st b hb => by
    have e : b = it := by simpa using hb
    subst e
    obtain ⟨o, e, c, d⟩ := st
    exact ⟨o, e, fun v z => by rw [d] at z; cases z⟩
  keep := fun i h h' st k => st.at fun o e => k it (by simp) o e
  item := by
    intro X hP hw hK hc i pins s σ H E I hf st hg
    subst hP hw hK
    obtain ⟨xs, x, hq, hx⟩ := hg
    obtain ⟨its, rv, p, hz⟩ := I.list hq
    obtain ⟨u, hu, ru⟩ := rv.get hx
    obtain ⟨f0, f1, f2, f3, f4, f5⟩ := hf it (by simp)
    refine wpAny_pyNext_list_item st p.isList (x := u) (by simpa using hu) fun h' st' sb => ?_
    have I1 : Inv X pins σ H { s with heap := h' } := I.turned (t' := s.toks) (fun b o hb e => (sb.2 b hb).trans e) f0 f1 f3 f4 f5
    obtain ⟨o, e, c, d⟩ := id st'
    exact ⟨u, rfl, go_of (s := { s with heap := h' }) e c d (by decide) ⟨x, H, I1, ru, ⟨rfl, fun ys hy => by rw [I.list_inj hy hq]; exact hx⟩, st', fun b hb => (hf b hb).1⟩⟩
  done := by
    intro X hP hw hK hc i pins s σ H E I hf st hg
    subst hP hw hK
    obtain ⟨xs, hq, hx⟩ := hg
    obtain ⟨its, rv, p, hz⟩ := I.list hq
    obtain ⟨f0, f1, f2, f3, f4, f5⟩ := hf it (by simp)
    have hl := rv.length
    exact wpAny_pyNext_list_end (I.ok.hd hc) st p.isList (by simp; omega) fun h' eb => ⟨rfl, I.turned (t' := s.toks) (fun b o hb e => eb b o hb e) f0 f1 f3 f4 f5⟩
  self := fun _ _ _ _ _ st h => wpAny_pyIter_listiter st h
theorem turn_range {P : Program} {w : World} {K : PySem.W.Frag} {tg : Expr} (it : Addr) (lo : Int) (n : Nat) : Turn P w K tg (Itr lo n) [it] it (fun i h => IsRangeIter h it (lo + (i : Nat) * 1) ((n : Int) - (i : Nat)) 1) where
  mem := by simp
  obj := fun i h st b hb => by
    have e : b = it := by simpa using hb
    subst e
    exact ⟨_, st, fun v z => by
      have z' : Data.fields _ = Data.cell v := z
      cases z'⟩
  keep := fun i h h' st k => k it (by simp) _ st
  item := by
    intro X hP hw hK hc i pins s σ H E I hf st hg
    subst hP hw hK
    obtain ⟨f0, f1, f2, f3, f4, f5⟩ := hf it (by simp)
    have W := Walks.range (prog := X.prog) (w := X.w) (I.ok.hd hc) it lo 1 n
    refine W.item i s _ _ hg st fun v h' tk hv st' kk => ?_
    obtain ⟨t, rfl⟩ := hv
    have I1 : Inv X pins σ H { s with heap := h', toks := tk } := I.turned (fun b o hb e => kk b o (by simpa using hb) e) f0 f1 f3 f4 f5
    refine ⟨_, rfl, go_of (s := { s with heap := h', toks := tk }) (n := "range_iterator") st' rfl rfl (by decide) ⟨.int (lo + i), H, I1, ⟨t, ?_⟩, ⟨rfl, rfl⟩, st', fun b hb => (hf b hb).1⟩⟩
    rw [Int.mul_one]
  done := by
    intro X hP hw hK hc i pins s σ H E I hf st hg
    subst hP hw hK
    obtain ⟨f0, f1, f2, f3, f4, f5⟩ := hf it (by simp)
    exact wpAny_pyNext_range_end (I.ok.hd hc) st (by have : n ≤ i := hg; omega) fun h' eb => ⟨rfl, I.turned (t' := s.toks) (fun b o hb e => eb b o hb e) f0 f1 f3 f4 f5⟩
  self := fun _ _ _ _ _ st h => wpAny_pyIter_rangeiter st h
end L2
namespace L2
open PySem PySem.Spec PyProof.Rows
section
variable {X : Cx} {tg : Expr}
def iList (K : PySem.W.Frag) (tl : TE) : TI := fun σ H R => tl σ H fun x H1 => ∃ a, x = .ref a ∧ (∃ xs, SqL K H1 a xs) ∧ R (Itl K a) H1
theorem pi_list {l : Expr} {tl : TE} (hl : PE X l tl) : PI X tg l (iList X.K tl) := by
  intro pins s σ H R I h
  refine thn (hl pins s σ H _ I h) fun v s1 ⟨x, H1, I1, r1, q1⟩ => ?_
  obtain ⟨a, e, ⟨xs, hq⟩, q⟩ := q1
  subst e
  cases r1
  obtain ⟨its, rv, p, hz⟩ := I1.list hq
  refine wpAny_pyIter_list p.isList ?_
  refine ⟨s1.heap.objs.size, [s1.heap.objs.size], _, _, H1, rfl, I1.kept (t' := s1.toks) fun b o e => Heap.get?_push_of_some _ e, turn_list a _, ⟨_, Heap.get?_push_size _ rfl, rfl, rfl⟩, fun b hb => ?_, q⟩
  have e : b = s1.heap.objs.size := by simpa using hb
  subst e
  exact I1.fpOk (Nat.le_refl _) (I1.hok.fresh (Nat.le_refl _))
theorem range_it {pins : List (Addr × Obj)} {σ : St} {H : Hp} {s : Shared} {R : It → Hp → Prop} {E : Value → Shared → Prop} {lo hi : Int} {t u v : Tok} {tk : Nat} (I : Inv X pins σ H s) (h1 : -(2 ^ 62) ≤ lo) (h2 : lo < 2 ^ 62) (h3 : -(2 ^ 62) ≤ hi) (h4 : hi < 2 ^ 62)
    (q : R (Itr lo (hi - lo).toNat) H) : wpAny (model X.prog X.w) X.A (pyIter (.ref s.heap.objs.size)) (PIE X pins σ tg R) E { s with heap := s.heap.push { cls := .type "range", data := .fields #[.int lo t, .int hi u, .int 1 v] }, toks := tk } := by
  refine wpAny_pyIter_range (IsRange.new ..) (small_one h1 h2 h3 h4) ?_
  have I1 : Inv X pins σ H { s with heap := s.heap.push { cls := .type "range", data := .fields #[.int lo t, .int hi u, .int 1 v] }, toks := tk } := I.kept fun b o e => Heap.get?_push_of_some _ e
  refine ⟨(s.heap.push { cls := .type "range", data := .fields #[.int lo t, .int hi u, .int 1 v] }).objs.size, [(s.heap.push { cls := .type "range", data := .fields #[.int lo t, .int hi u, .int 1 v] }).objs.size], _, _, H, rfl,
    I1.kept (t' := tk) fun b o e => Heap.get?_push_of_some _ e, turn_range _ lo (hi - lo).toNat, ?_, fun b hb => ?_, q⟩
  · have e1 : lo + ((0 : Nat) : Int) * 1 = lo := by simp
    have e2 : (((hi - lo).toNat : Nat) : Int) - ((0 : Nat) : Int) = Builtin.Range.rangeSize lo hi 1 := by rw [rangeSize_one]; split <;> omega
    show IsRangeIter _ _ (lo + ((0 : Nat) : Int) * 1) ((((hi - lo).toNat : Nat) : Int) - ((0 : Nat) : Int)) 1
    rw [e1, e2]
    exact Heap.get?_push_size _ rfl
  · have e : b = (s.heap.push { cls := .type "range", data := .fields #[.int lo t, .int hi u, .int 1 v] }).objs.size := by simpa using hb
    subst e
    exact I1.fpOk (Nat.le_refl _) (I1.hok.fresh (Nat.le_refl _))
def iRng1 (ta : TA) : TI := fun σ H R => ta σ H fun vs H1 => ∃ j : Int, vs = [.int j] ∧ -(2 ^ 62) ≤ j ∧ j < 2 ^ 62 ∧ R (Itr 0 j.toNat) H1
def iRng2 (ta : TA) : TI := fun σ H R => ta σ H fun vs H1 => ∃ i j : Int, vs = [.int i, .int j] ∧ (-(2 ^ 62) ≤ i ∧ i < 2 ^ 62 ∧ -(2 ^ 62) ≤ j ∧ j < 2 ^ 62) ∧ R (Itr i (j - i).toNat) H1
theorem pi_range1 {a : Expr} {ta : TA} {p pos : Pos} (hg : Gl X "range") (hm : X.mg "range" = none) (ha : PA X [a] ta) (hs : starEach [a] X.env = [(false, eval a X.env)] := by rfl) : PI X tg (.Call (.Name "range" p) [a] [] pos) (iRng1 ta) := by
  intro pins s σ H R I h
  refine Call_ (ld_blt I hg hm boot_range (PyProof.Rows.callWith_type1 (thn (ha pos pins s σ H _ I h) fun us s1 ⟨vs, H1, I1, r1, q1⟩ => ?_) hs rfl))
  obtain ⟨j, e, q1, q2, q⟩ := q1
  subst e
  cases r1 with
  | cons r rr =>
    cases rr
    obtain ⟨t, rfl⟩ := r
    exact call_range_1 (range_it I1 (by omega) (by omega) q1 q2 (by simpa using q))
theorem pi_range2 {a b : Expr} {ta : TA} {p pos : Pos} (hg : Gl X "range") (hm : X.mg "range" = none) (ha : PA X [a, b] ta) (hs : starEach [a, b] X.env = [(false, eval a X.env), (false, eval b X.env)] := by rfl) (hs2 : starEach [b] X.env = [(false, eval b X.env)] := by rfl) :
    PI X tg (.Call (.Name "range" p) [a, b] [] pos) (iRng2 ta) := by
  intro pins s σ H R I h
  refine Call_ (ld_blt I hg hm boot_range (PyProof.Rows.callWith_type1 (thn (ha pos pins s σ H _ I h) fun us s1 ⟨vs, H1, I1, r1, q1⟩ => ?_) (by rw [hs, hs2]) (by rw [hs2]; rfl)))
  obtain ⟨i, j, e, ⟨q1, q2, q3, q4⟩, q⟩ := q1
  subst e
  cases r1 with
  | cons r rr =>
    cases rr with
    | cons r' rr =>
      cases rr
      obtain ⟨t, rfl⟩ := r
      obtain ⟨t', rfl⟩ := r'
      exact call_range_2 (range_it I1 q1 q2 q3 q4 q)
def tFor (wi : TI) (g : TG) (tb : TS) : TS := fun D σ H => wi σ H fun J H1 => ∃ W : Nat → Nat → St → Hp → Prop, (∃ m, W 0 m σ H1) ∧ ∀ i m σ H, W i m σ H →
  (J.stop i H ∧ D.nx σ H) ∨ (J.go i H ∧ ∃ N : St → Hp → Prop, (∀ σ' H', N σ' H' → ∃ m', m' < m ∧ W (i + 1) m' σ' H') ∧ ∀ x H', J.yld i H x H' → g x σ H' fun σ2 H2 => tb { D with nx := N, ct := N, bk := D.nx } σ2 H2)
def pinsAt (fp : List Addr) (h : Heap) : List (Addr × Obj) := fp.filterMap fun b => (h.get? b).map fun o => (b, o)
theorem mem_pinsAt {fp : List Addr} {h : Heap} {b : Addr} {o : Obj} (hb : b ∈ fp) (e : h.get? b = some o) : (b, o) ∈ pinsAt fp h := List.mem_filterMap.mpr ⟨b, hb, by rw [e]; rfl⟩
theorem of_pinsAt {fp : List Addr} {h : Heap} {p : Addr × Obj} (hp : p ∈ pinsAt fp h) : p.1 ∈ fp ∧ h.get? p.1 = some p.2 := by
  obtain ⟨b, hb, e⟩ := List.mem_filterMap.mp hp
  cases q : h.get? b with
  | none => rw [q] at e; cases e
  | some o =>
    rw [q] at e
    have e' : (b, o) = p := Option.some.inj e
    subst e'
    exact ⟨hb, q⟩
theorem Inv.pinned {pins : List (Addr × Obj)} {σ : St} {H : Hp} {s : Shared} {fp : List Addr} (I : Inv X pins σ H s) (hf : ∀ b ∈ fp, FpOk X pins H b) (ho : ∀ b ∈ fp, ∃ o, s.heap.get? b = some o ∧ ∀ v, o.data ≠ .cell v) : Inv X (pins ++ pinsAt fp s.heap) σ H s :=
  I.pins_of fun p hp => (List.mem_append.mp hp).elim (fun z => I.pin p (List.mem_append_right _ z)) fun z => by
    obtain ⟨hb, e⟩ := of_pinsAt z
    obtain ⟨f0, f1, f2, _⟩ := hf p.1 hb
    obtain ⟨o, e', d⟩ := ho p.1 hb
    rw [e] at e'; cases e'
    exact ⟨e, f0, f1, f2, d⟩
theorem Inv.unpinned {pins pl : List (Addr × Obj)} {σ : St} {H : Hp} {s : Shared} (I : Inv X (pins ++ pl) σ H s) : Inv X pins σ H s := I.pins_of fun p hp => I.pin p (List.mem_append_right _ (List.mem_append_left _ hp))
theorem ps_for {iter : Expr} {body : List Stmt} {wi : TI} {g : TG} {tb : TS} {pos : Pos} (hp : PassesOwn (model X.prog X.w) X.A X.env X.xe) (hc : X.calm = true) (hi : PI X tg iter wi) (hg : PG X tg g) (hb : PSs X body tb)
    (hs : ∀ x, foldedSetIterable iter X.env x = pure x := by intro _; rfl) : PS X (.For tg iter body [] pos) (tFor wi g tb) := by
  intro pins s σ H D I h
  refine wpAny_For (thn (hi pins s σ H _ I h) fun v s1 h1 => thn h1 fun itv s2 h2 => ?_) hs
  obtain ⟨it, fp, tn, J, H2, e, I2, T, st2, f2, W, ⟨m0, w0⟩, turn⟩ := h2
  subst e
  have stat : ∀ {H' : Hp}, (∀ b ∈ fp, H' b = none) → ∀ b ∈ fp, FpOk X pins H' b := fun hn b hb => ⟨hn b hb, (f2 b hb).2⟩
  refine codeAny_forLoop_any (fun n s' => ∃ i σ' H', Inv X pins σ' H' s' ∧ tn i s'.heap ∧ (∀ b ∈ fp, H' b = none) ∧ W i n σ' H') ?_ m0 ⟨0, σ, H2, I2, st2, fun b hb => (f2 b hb).1, w0⟩
  rintro n s3 ⟨i, σ3, H3, I3, st3, fr3, w3⟩
  rcases turn i n σ3 H3 w3 with ⟨stop, qn⟩ | ⟨go, N, hN, step⟩
  · refine wpAny_passesOwn hp (thn (T.done X rfl rfl rfl hc i pins s3 σ3 H3 X.xe I3 (stat fr3) st3 stop) fun r s4 ⟨hr, I4⟩ => ?_)
    subst hr
    exact wpAny_execs_nil ⟨σ3, H3, I4, qn⟩
  · refine wpAny_passesOwn hp (thn (T.item X rfl rfl rfl hc i pins s3 σ3 H3 X.xe I3 (stat fr3) st3 go) fun r s4 ⟨u, hr, h4⟩ => ?_)
    subst hr
    refine wpAny_passesOwn hp (thn h4 fun _ s5 ⟨x, H5, I5, r5, y5, st5, fr5⟩ => ?_)
    have I5' := I5.pinned (stat fr5) (T.obj _ _ st5)
    refine wpAny_passesOwn hp (thn (hg _ s5 σ3 H5 x u _ I5' r5 (step x H5 y5)) fun _ s6 ⟨σ6, H6, I6, q6⟩ => ?_)
    refine wpAny_passesOwn hp (thn (hb _ s6 σ6 H6 _ I6 q6) fun f s7 q7 => ?_)
    have again : ∀ {σ7 : St} {H7 : Hp}, Inv X (pins ++ pinsAt fp s5.heap) σ7 H7 s7 → N σ7 H7 → ∃ m, m < n ∧ ∃ i σ' H', Inv X pins σ' H' s7 ∧ tn i s7.heap ∧ (∀ b ∈ fp, H' b = none) ∧ W i m σ' H' := fun {σ7 H7} I7 n7 => by
      obtain ⟨m', hm, w7⟩ := hN σ7 H7 n7
      refine ⟨m', hm, i + 1, σ7, H7, I7.unpinned, T.keep _ _ _ st5 fun b hb o e => (I7.pin (b, o) (List.mem_append_right _ (List.mem_append_right _ (mem_pinsAt hb e)))).1, fun b hb => ?_, w7⟩
      obtain ⟨o, e, d⟩ := T.obj _ _ st5 b hb
      exact (I7.pin (b, o) (List.mem_append_right _ (List.mem_append_right _ (mem_pinsAt hb e)))).2.1
    cases f with
    | next => obtain ⟨σ7, H7, I7, n7⟩ := q7; exact again I7 n7
    | cont => obtain ⟨σ7, H7, I7, n7⟩ := q7; exact again I7 n7
    | brk => obtain ⟨σ7, H7, I7, q7⟩ := q7; exact ⟨σ7, H7, I7.unpinned, q7⟩
    | ret v => obtain ⟨x7, σ7, H7, I7, r7, q7⟩ := q7; exact ⟨x7, σ7, H7, I7.unpinned, r7, q7⟩
end
theorem for_list {K : PySem.W.Frag} {a : Addr} {xs : List V} {g : TG} {tb : TS} {D : Ends} {σ : St} {H : Hp} (Pv : Nat → St → Hp → Prop) (h0 : Pv 0 σ H) (hl : ∀ i σ H, i ≤ xs.length → Pv i σ H → SqL K H a xs)
    (hs : ∀ i x σ H, xs[i]? = some x → Pv i σ H → g x σ H fun σ2 H2 => tb { D with nx := Pv (i + 1), ct := Pv (i + 1), bk := D.nx } σ2 H2) (hd : ∀ σ H, Pv xs.length σ H → D.nx σ H) :
    ∃ W : Nat → Nat → St → Hp → Prop, (∃ m, W 0 m σ H) ∧ ∀ i m σ H, W i m σ H →
      ((Itl K a).stop i H ∧ D.nx σ H) ∨ ((Itl K a).go i H ∧ ∃ N : St → Hp → Prop, (∀ σ' H', N σ' H' → ∃ m', m' < m ∧ W (i + 1) m' σ' H') ∧ ∀ x H', (Itl K a).yld i H x H' → g x σ H' fun σ2 H2 => tb { D with nx := N, ct := N, bk := D.nx } σ2 H2) := by
  refine ⟨fun i m σ H => m = xs.length - i ∧ i ≤ xs.length ∧ Pv i σ H, ⟨xs.length, by simp, Nat.zero_le _, h0⟩, ?_⟩
  rintro i m σ H ⟨rfl, hi, p⟩
  have q := hl i σ H hi p
  by_cases hlt : i < xs.length
  · refine .inr ⟨⟨xs, xs[i], q, by simp [hlt]⟩, Pv (i + 1), fun σ' H' p' => ⟨xs.length - (i + 1), by omega, rfl, hlt, p'⟩, fun x H' y => ?_⟩
    obtain ⟨e, y⟩ := y
    subst e
    exact hs i x σ _ (y xs q) p
  · have e : i = xs.length := by omega
    subst e
    exact .inl ⟨⟨xs, q, Nat.le_refl _⟩, hd σ H p⟩
theorem for_range {lo : Int} {n : Nat} {g : TG} {tb : TS} {D : Ends} {σ : St} {H : Hp} (Pv : Nat → St → Hp → Prop) (h0 : Pv 0 σ H)
    (hs : ∀ i σ H, i < n → Pv i σ H → g (.int (lo + i)) σ H fun σ2 H2 => tb { D with nx := Pv (i + 1), ct := Pv (i + 1), bk := D.nx } σ2 H2) (hd : ∀ σ H, Pv n σ H → D.nx σ H) :
    ∃ W : Nat → Nat → St → Hp → Prop, (∃ m, W 0 m σ H) ∧ ∀ i m σ H, W i m σ H →
      ((Itr lo n).stop i H ∧ D.nx σ H) ∨ ((Itr lo n).go i H ∧ ∃ N : St → Hp → Prop, (∀ σ' H', N σ' H' → ∃ m', m' < m ∧ W (i + 1) m' σ' H') ∧ ∀ x H', (Itr lo n).yld i H x H' → g x σ H' fun σ2 H2 => tb { D with nx := N, ct := N, bk := D.nx } σ2 H2) := by
  refine ⟨fun i m σ H => m = n - i ∧ i ≤ n ∧ Pv i σ H, ⟨n, by simp, Nat.zero_le _, h0⟩, ?_⟩
  rintro i m σ H ⟨rfl, hi, p⟩
  by_cases hlt : i < n
  · refine .inr ⟨hlt, Pv (i + 1), fun σ' H' p' => ⟨n - (i + 1), by omega, rfl, hlt, p'⟩, fun x H' y => ?_⟩
    obtain ⟨e, y⟩ := y
    subst e y
    exact hs i σ _ hlt p
  · have e : i = n := by omega
    subst e
    exact .inl ⟨Nat.le_refl _, hd σ H p⟩
theorem while_by {c : TT} {tb : TS} {D : Ends} {σ : St} {H : Hp} (Pv : St → Hp → Prop) (μ : St → Hp → Nat) (h0 : Pv σ H)
    (hs : ∀ σ H, Pv σ H → c σ H fun b H1 => if b = true then tb { D with nx := fun σ' H' => Pv σ' H' ∧ μ σ' H' < μ σ H, ct := fun σ' H' => Pv σ' H' ∧ μ σ' H' < μ σ H, bk := D.nx } σ H1 else D.nx σ H1)
    (mono : ∀ σ H Q Q', (∀ b H1, Q b H1 → Q' b H1) → c σ H Q → c σ H Q') : tWhile c tb D σ H := by
  refine ⟨fun m σ H => m = μ σ H ∧ Pv σ H, ⟨_, rfl, h0⟩, ?_⟩
  rintro m σ H ⟨rfl, p⟩
  refine mono σ H _ _ (fun b H1 q => ?_) (hs σ H p)
  cases b with
  | true => exact ⟨_, fun σ' H' ⟨p', l⟩ => ⟨_, l, rfl, p'⟩, q⟩
  | false => exact q
end L2
namespace L2
open PySem PySem.Spec PyProof.Rows
abbrev R2 := V → V → Hp → VK → Prop
def OpR (X : Cx) (f : Value → Value → Sem Value) (r : R2) : Prop :=
  ∀ (pins : List (Addr × Obj)) (s : Shared) (σ : St) (H : Hp) (x y : V) (v u : Value) (Q : VK), Inv X pins σ H s → RelV x v → RelV y u → r x y H Q →
    wpAny (model X.prog X.w) X.A (f v u) (EP X pins σ Q) X.xe s
def UnR (X : Cx) (f : Value → Sem Value) (r : V → Hp → VK → Prop) : Prop :=
  ∀ (pins : List (Addr × Obj)) (s : Shared) (σ : St) (H : Hp) (x : V) (v : Value) (Q : VK), Inv X pins σ H s → RelV x v → r x H Q →
    wpAny (model X.prog X.w) X.A (f v) (EP X pins σ Q) X.xe s
def CallR (X : Cx) (f : Value) (r : List V → Hp → VK → Prop) : Prop :=
  ∀ (pins : List (Addr × Obj)) (s : Shared) (σ : St) (H : Hp) (xs : List V) (us : List Value) (Q : VK), Inv X pins σ H s → Vals xs us → r xs H Q →
    wpAny (model X.prog X.w) X.A (call f us) (EP X pins σ Q) X.xe s
def tOp (r : R2) (ta tb : TE) : TE := fun σ H Q => ta σ H fun x H1 => tb σ H1 fun y H2 => r x y H2 Q
def tUn (r : V → Hp → VK → Prop) (ta : TE) : TE := fun σ H Q => ta σ H fun x H1 => r x H1 Q
def rI (C : Int → Int → Prop) (g : Int → Int → V) : R2 := fun x y H Q => ∃ i j, x = .int i ∧ y = .int j ∧ C i j ∧ Q (g i j) H
def rI0 (g : Int → Int → V) : R2 := fun x y H Q => ∃ i j, x = .int i ∧ y = .int j ∧ Q (g i j) H
def rU (g : Int → V) : V → Hp → VK → Prop := fun x H Q => ∃ i, x = .int i ∧ Q (g i) H
section
variable {X : Cx} {a b c : Expr} {ta tb tc : TE} {pos : Pos}
theorem binT (ha : PE X a ta) (hb : PE X b tb) {pins : List (Addr × Obj)} {s : Shared} {σ : St} {H : Hp} {R : V → V → Hp → Prop} (I : Inv X pins σ H s)
    (h : ta σ H fun x H1 => tb σ H1 fun y H2 => R x y H2) {Q : Value → Shared → Prop} {f : Value → Value → Sem Value}
    (hf : ∀ v u s2 x y H2, Inv X pins σ H2 s2 → RelV x v → RelV y u → R x y H2 → wpAny (model X.prog X.w) X.A (f v u) Q X.xe s2) :
    wpAny (model X.prog X.w) X.A (eval a X.env) (fun v s₁ => wpAny (model X.prog X.w) X.A (eval b X.env) (fun u s₂ => wpAny (model X.prog X.w) X.A (f v u) Q X.xe s₂) X.xe s₁) X.xe s := by
  refine thn (ha pins s σ H _ I h) fun v s1 ⟨x, H1, I1, r1, q1⟩ => ?_
  refine thn (hb pins s1 σ H1 _ I1 q1) fun u s2 ⟨y, H2, I2, r2, q2⟩ => ?_
  exact hf v u s2 x y H2 I2 r1 r2 q2
theorem pe_op {op : Operator} {r : R2} (ho : OpR X (binaryOp op) r) (ha : PE X a ta) (hb : PE X b tb) : PE X (.BinOp a op b pos) (tOp r ta tb) := by
  intro pins s σ H Q I h
  exact wpAny_BinOp (binT ha hb I h fun v u s2 x y H2 I2 rx ry q => ho pins s2 σ H2 x y v u Q I2 rx ry q)
theorem pe_un {op : UnaryOp} {r : V → Hp → VK → Prop} (ho : UnR X (unaryOp op) r) (ha : PE X a ta) : PE X (.UnaryOp op a pos) (tUn r ta) := by
  intro pins s σ H Q I h
  exact UnaryOp_ (thn (ha pins s σ H _ I h) fun v s1 ⟨x, H1, I1, r1, q1⟩ => ho pins s1 σ H1 x v Q I1 r1 q1)
theorem opI {f : Value → Value → Sem Value} {C : Int → Int → Prop} {g : Int → Int → Int}
    (rule : ∀ (i j : Int) (t u : Tok) (s : Shared) (Q : Value → Shared → Prop) (E : Value → Shared → Prop), C i j → Q (.int (g i j) s.toks) { s with toks := s.toks + 1 } → wpAny (model X.prog X.w) X.A (f (.int i t) (.int j u)) Q E s) :
    OpR X f (rI C fun i j => .int (g i j)) := by
  intro pins s σ H x y v u Q I rx ry h
  obtain ⟨i, j, rfl, rfl, hc, q⟩ := h
  obtain ⟨t, rfl⟩ := rx
  obtain ⟨t', rfl⟩ := ry
  exact rule i j t t' s _ _ hc ⟨.int (g i j), H, I.tok _, ⟨_, rfl⟩, q⟩
theorem opI0 {f : Value → Value → Sem Value} {g : Int → Int → Int}
    (rule : ∀ (i j : Int) (t u : Tok) (s : Shared) (Q : Value → Shared → Prop) (E : Value → Shared → Prop), Q (.int (g i j) s.toks) { s with toks := s.toks + 1 } → wpAny (model X.prog X.w) X.A (f (.int i t) (.int j u)) Q E s) :
    OpR X f (rI0 fun i j => .int (g i j)) := by
  intro pins s σ H x y v u Q I rx ry h
  obtain ⟨i, j, rfl, rfl, q⟩ := h
  obtain ⟨t, rfl⟩ := rx
  obtain ⟨t', rfl⟩ := ry
  exact rule i j t t' s _ _ ⟨.int (g i j), H, I.tok _, ⟨_, rfl⟩, q⟩
theorem opB0 {f : Value → Value → Sem Value} {g : Int → Int → Bool}
    (rule : ∀ (i j : Int) (t u : Tok) (s : Shared) (Q : Value → Shared → Prop) (E : Value → Shared → Prop), Q (.bool (g i j)) s → wpAny (model X.prog X.w) X.A (f (.int i t) (.int j u)) Q E s) :
    OpR X f (rI0 fun i j => .bl (g i j)) := by
  intro pins s σ H x y v u Q I rx ry h
  obtain ⟨i, j, rfl, rfl, q⟩ := h
  obtain ⟨t, rfl⟩ := rx
  obtain ⟨t', rfl⟩ := ry
  exact rule i j t t' s _ _ ⟨.bl (g i j), H, I, rfl, q⟩
def CPow (i j : Int) : Prop := 0 ≤ j ∧ j ≤ 1000000 ∧ i.natAbs < 2 ^ 64
theorem two_pow_nn (k : Nat) : (0 : Int) ≤ 2 ^ k := by
  rw [two_pow_cast]
  exact Int.natCast_nonneg _
theorem op_add : OpR X (binaryOp .Add) (rI0 fun i j => .int (i + j)) := opI0 fun _ _ _ _ _ _ _ q => add_int q
theorem op_sub : OpR X (binaryOp .Sub) (rI0 fun i j => .int (i - j)) := opI0 fun _ _ _ _ _ _ _ q => sub_int q
theorem op_modN : OpR X (binaryOp .Mod) (rI (fun _ j => j ≠ 0) fun i j => .int (i.fmod j)) := opI fun _ _ _ _ _ _ _ hc q => mod_int' hc q
theorem op_pow : OpR X (binaryOp .Pow) (rI CPow fun i j => .int (i ^ j.toNat)) := opI fun _ _ _ _ _ _ _ hc q => pow_int_small hc.1 hc.2.1 hc.2.2 q
theorem op_shl : OpR X (binaryOp .LShift) (rI CPow fun i j => .int (i * 2 ^ j.toNat)) := opI fun _ _ _ _ _ _ _ hc q => lshift_int_small hc.1 hc.2.1 hc.2.2 q
theorem op_shr : OpR X (binaryOp .RShift) (rI (fun _ j => 0 ≤ j) fun i j => .int (i / 2 ^ j.toNat)) := opI fun i j _ _ _ _ _ hc q =>
  rshift_int hc (by rw [Int.fdiv_eq_ediv_of_nonneg i (two_pow_nn _)]; exact q)
theorem op_and : OpR X (binaryOp .BitAnd) (rI0 fun i j => .int (Builtin.bitAnd i j)) := opI0 fun _ _ _ _ _ _ _ q => and_int q
theorem unI {f : Value → Sem Value} {g : Int → Int}
    (rule : ∀ (i : Int) (t : Tok) (s : Shared) (Q : Value → Shared → Prop) (E : Value → Shared → Prop), Q (.int (g i) s.toks) { s with toks := s.toks + 1 } → wpAny (model X.prog X.w) X.A (f (.int i t)) Q E s) :
    UnR X f (rU fun i => .int (g i)) := by
  intro pins s σ H x v Q I rx h
  obtain ⟨i, rfl, q⟩ := h
  obtain ⟨t, rfl⟩ := rx
  exact rule i t s _ _ ⟨.int (g i), H, I.tok _, ⟨_, rfl⟩, q⟩
theorem un_neg : UnR X (unaryOp .USub) (rU fun i => .int (-i)) := unI fun _ _ _ _ _ q => neg_int q
end
def scal : V → V → Bool
  | .non, .non => true | .non, .int _ => true | .int _, .non => true | .non, .bl _ => true | .bl _, .non => true | .non, .str _ => true | .str _, .non => true
  | .int _, .int _ => true | .bl _, .bl _ => true | .str _, .str _ => true | .byt _, .byt _ => true
  | .int _, .str _ => true | .str _, .int _ => true | .bl _, .str _ => true | .str _, .bl _ => true
  | _, _ => false
def rEq : R2 := fun x y H Q => scal x y = true ∧ Q (.bl (decide (x = y))) H
def rNe : R2 := fun x y H Q => scal x y = true ∧ Q (.bl (!decide (x = y))) H
theorem dec_int {i j : Int} : decide (V.int i = V.int j) = (i == j) := by
  rw [Bool.eq_iff_iff]
  simp
theorem dec_bl {i j : Bool} : decide (V.bl i = V.bl j) = (i == j) := by
  rw [Bool.eq_iff_iff]
  simp
theorem dec_str {i j : Str} : decide (V.str i = V.str j) = (i == j) := by
  rw [Bool.eq_iff_iff]
  simp
theorem dec_byt {i j : Array UInt8} : decide (V.byt i = V.byt j) = (i.toList == j.toList) := by
  rw [Bool.eq_iff_iff]
  cases i
  cases j
  simp
section
variable {X : Cx} {a b c : Expr} {ta tb tc : TE} {pos : Pos}
theorem fin_bl {pins : List (Addr × Obj)} {σ : St} {H : Hp} {s : Shared} {Q : VK} {k k' : Bool} (I : Inv X pins σ H s) (q : Q (.bl k) H) (e : k = k') : EP X pins σ Q (.bool k') s := by
  subst e
  exact ⟨.bl k, H, I, rfl, q⟩
theorem op_eq : OpR X (compareOp .Eq) rEq := by
  intro pins s σ H x y v u Q I rx ry h
  obtain ⟨hs, q⟩ := h
  cases x with
  | non =>
    cases rx
    cases y with
    | non => cases ry; exact PySem.EqNone.eq_none_none (fin_bl I q (by simp))
    | bl j => cases ry; exact PySem.EqNone.eq_none_bool (fin_bl I q (by simp))
    | int j => obtain ⟨t', rfl⟩ := ry; exact PySem.EqNone.eq_none_int (fin_bl I q (by simp))
    | str j => obtain ⟨t', rfl⟩ := ry; exact PySem.EqNone.eq_none_str (fin_bl I q (by simp))
    | _ => exact absurd (show false = true from hs) Bool.false_ne_true
  | bl i =>
    cases rx
    cases y with
    | non => cases ry; exact PySem.EqNone.eq_bool_none (fin_bl I q (by simp))
    | bl j => cases ry; exact eq_bool (fin_bl I q dec_bl)
    | str j => obtain ⟨t', rfl⟩ := ry; exact PySem.EqMixed.eq_bool_str (fin_bl I q (by simp))
    | _ => exact absurd (show false = true from hs) Bool.false_ne_true
  | int i =>
    obtain ⟨t, rfl⟩ := rx
    cases y with
    | non => cases ry; exact PySem.EqNone.eq_int_none (fin_bl I q (by simp))
    | int j => obtain ⟨t', rfl⟩ := ry; exact eq_int (fin_bl I q dec_int)
    | str j => obtain ⟨t', rfl⟩ := ry; exact PySem.EqMixed.eq_int_str (fin_bl I q (by simp))
    | _ => exact absurd (show false = true from hs) Bool.false_ne_true
  | str i =>
    obtain ⟨t, rfl⟩ := rx
    cases y with
    | non => cases ry; exact PySem.EqNone.eq_str_none (fin_bl I q (by simp))
    | bl j => cases ry; exact PySem.EqMixed.eq_str_bool (fin_bl I q (by simp))
    | int j => obtain ⟨t', rfl⟩ := ry; exact PySem.EqMixed.eq_str_int (fin_bl I q (by simp))
    | str j => obtain ⟨t', rfl⟩ := ry; exact eq_str (fin_bl I q dec_str)
    | _ => exact absurd (show false = true from hs) Bool.false_ne_true
  | byt i =>
    obtain ⟨t, rfl⟩ := rx
    cases y with
    | byt j => obtain ⟨t', rfl⟩ := ry; exact PySem.W.eq_bytes (fin_bl I q dec_byt)
    | _ => exact absurd (show false = true from hs) Bool.false_ne_true
  | _ => cases y <;> exact absurd (show false = true from hs) Bool.false_ne_true
theorem op_ne : OpR X (compareOp .NotEq) rNe := by
  intro pins s σ H x y v u Q I rx ry h
  obtain ⟨hs, q⟩ := h
  cases x with
  | non =>
    cases rx
    cases y with
    | non => cases ry; exact PySem.EqNone.ne_none_none (fin_bl I q (by simp))
    | bl j => cases ry; exact PySem.EqNone.ne_none_bool (fin_bl I q (by simp))
    | int j => obtain ⟨t', rfl⟩ := ry; exact PySem.EqNone.ne_none_int (fin_bl I q (by simp))
    | str j => obtain ⟨t', rfl⟩ := ry; exact PySem.EqNone.ne_none_str (fin_bl I q (by simp))
    | _ => exact absurd (show false = true from hs) Bool.false_ne_true
  | bl i =>
    cases rx
    cases y with
    | non => cases ry; exact PySem.EqNone.ne_bool_none (fin_bl I q (by simp))
    | bl j => cases ry; exact ne_bool (fin_bl I q (congrArg not dec_bl))
    | str j => obtain ⟨t', rfl⟩ := ry; exact PySem.EqMixed.ne_bool_str (fin_bl I q (by simp))
    | _ => exact absurd (show false = true from hs) Bool.false_ne_true
  | int i =>
    obtain ⟨t, rfl⟩ := rx
    cases y with
    | non => cases ry; exact PySem.EqNone.ne_int_none (fin_bl I q (by simp))
    | int j => obtain ⟨t', rfl⟩ := ry; exact ne_int (fin_bl I q (congrArg not dec_int))
    | str j => obtain ⟨t', rfl⟩ := ry; exact PySem.EqMixed.ne_int_str (fin_bl I q (by simp))
    | _ => exact absurd (show false = true from hs) Bool.false_ne_true
  | str i =>
    obtain ⟨t, rfl⟩ := rx
    cases y with
    | non => cases ry; exact PySem.EqNone.ne_str_none (fin_bl I q (by simp))
    | bl j => cases ry; exact PySem.EqMixed.ne_str_bool (fin_bl I q (by simp))
    | int j => obtain ⟨t', rfl⟩ := ry; exact PySem.EqMixed.ne_str_int (fin_bl I q (by simp))
    | str j => obtain ⟨t', rfl⟩ := ry; exact ne_str (fin_bl I q (congrArg not dec_str))
    | _ => exact absurd (show false = true from hs) Bool.false_ne_true
  | byt i =>
    obtain ⟨t, rfl⟩ := rx
    cases y with
    | byt j => obtain ⟨t', rfl⟩ := ry; exact PySem.W.ne_bytes (fin_bl I q (congrArg not dec_byt))
    | _ => exact absurd (show false = true from hs) Bool.false_ne_true
  | _ => cases y <;> exact absurd (show false = true from hs) Bool.false_ne_true
theorem op_lt : OpR X (compareOp .Lt) (rI0 fun i j => .bl (decide (i < j))) := opB0 fun _ _ _ _ _ _ _ q => lt_int q
theorem op_le : OpR X (compareOp .LtE) (rI0 fun i j => .bl (decide (i ≤ j))) := opB0 fun _ _ _ _ _ _ _ q => le_int q
theorem op_gt : OpR X (compareOp .Gt) (rI0 fun i j => .bl (decide (j < i))) := opB0 fun _ _ _ _ _ _ _ q => gt_int q
theorem op_ge : OpR X (compareOp .GtE) (rI0 fun i j => .bl (decide (j ≤ i))) := opB0 fun _ _ _ _ _ _ _ q => ge_int q
theorem op_isN : OpR X (compareOp .Is) (fun x y H Q => y = .non ∧ Q (.bl (decide (x = .non))) H) := by
  intro pins s σ H x y v u Q I rx ry h
  obtain ⟨rfl, q⟩ := h
  cases ry
  refine is_none_gen (fin_bl I q ?_)
  cases x <;> first
    | (cases rx; rfl)
    | (obtain ⟨t, rfl⟩ := rx; rfl)
theorem op_notN : OpR X (compareOp .IsNot) (fun x y H Q => y = .non ∧ Q (.bl (!decide (x = .non))) H) := by
  intro pins s σ H x y v u Q I rx ry h
  obtain ⟨rfl, q⟩ := h
  cases ry
  refine isnot_none_gen (fin_bl I q ?_)
  cases x <;> first
    | (cases rx; rfl)
    | (obtain ⟨t, rfl⟩ := rx; rfl)
theorem nomark (b : Expr) {op : CmpOp} (h : op ≠ .In := by decide) (h2 : op ≠ .NotIn := by decide) : behindInMarks op b = false := by
  have e1 : (op == CmpOp.In) = false := by cases op <;> first | rfl | exact absurd rfl h
  have e2 : (op == CmpOp.NotIn) = false := by cases op <;> first | rfl | exact absurd rfl h2
  cases b <;> simp [behindInMarks, e1, e2]
theorem pe_cmpR {op : CmpOp} {r : R2} (ho : OpR X (compareOp op) r) (ha : PE X a ta) (hb : PE X b tb) (hm : behindInMarks op b = false) : PE X (.Compare a [op] [b] pos) (tOp r ta tb) := by
  intro pins s σ H Q I h
  exact wpAny_Compare1 (binT ha hb I h fun v u s2 x y H2 I2 rx ry q => ho pins s2 σ H2 x y v u Q I2 rx ry q) hm
def tTest (t : TE) : TT := fun σ H Q => t σ H fun x H' => ∃ k, x = .bl k ∧ Q k H'
theorem pt_cmpR {op : CmpOp} {r : R2} (ho : OpR X (compareOp op) r) (ha : PE X a ta) (hb : PE X b tb) (hm : behindInMarks op b = false) : PT X (.Compare a [op] [b] pos) (tTest (tOp r ta tb)) := by
  intro pins s σ H Q I h
  refine wpAny_isTrue_Compare1 (thn (ha pins s σ H _ I h) fun v s1 ⟨x, H1, I1, r1, q1⟩ => thn (hb pins s1 σ H1 _ I1 q1) fun u s2 ⟨y, H2, I2, r2, q2⟩ =>
    thn (ho pins s2 σ H2 x y v u _ I2 r1 r2 q2) fun c s3 ⟨z, H3, I3, r3, k, e, q3⟩ => ?_) hm
  subst e
  cases r3
  exact wpAny_truthy_bool ⟨H3, I3, q3⟩
def tChain (r r' : R2) (ta tb tc : TE) : TE := fun σ H Q => ta σ H fun x H1 => tb σ H1 fun y H2 => r x y H2 fun z H3 => ∃ k, z = .bl k ∧
  (if k = true then tc σ H3 fun w' H4 => r' y w' H4 Q else Q (.bl false) H3)
theorem pe_chain {op op' : CmpOp} {r r' : R2} (ho : OpR X (compareOp op) r) (ho' : OpR X (compareOp op') r') (ha : PE X a ta) (hb : PE X b tb) (hc : PE X c tc)
    (hm : lastMarks [op, op'] [b, c] = false := by with_unfolding_all rfl) : PE X (.Compare a [op, op'] [b, c] pos) (tChain r r' ta tb tc) := by
  intro pins s σ H Q I h
  refine Compare_chain (thn (ha pins s σ H _ I h) fun v s1 ⟨x, H1, I1, r1, q1⟩ => chain_link (thn (hb pins s1 σ H1 _ I1 q1) fun u s2 ⟨y, H2, I2, r2, q2⟩ =>
    thn (ho pins s2 σ H2 x y v u _ I2 r1 r2 q2) fun d s3 ⟨z, H3, I3, r3, k, e, q3⟩ => ?_)) hm
  subst e
  cases r3
  refine wpAny_truthy_bool ?_
  cases k with
  | false => exact ite_ff ⟨.bl false, H3, I3, rfl, q3⟩
  | true => exact ite_tt (chain_last (thn (hc pins s3 σ H3 _ I3 q3) fun w' s4 ⟨z', H4, I4, r4, q4⟩ => ho' pins s4 σ H4 y z' u w' Q I4 r2 r4 q4))
theorem line63 : (sizeLine : Nat) < 2 ^ 63 := by rw [sizeLine_eq]; decide
theorem vals1 {x : V} {us : List Value} (r : Vals [x] us) : ∃ u, us = [u] ∧ RelV x u := by
  cases r with
  | cons r1 r2 => cases r2; exact ⟨_, rfl, r1⟩
theorem vals2 {x y : V} {us : List Value} (r : Vals [x, y] us) : ∃ u w', us = [u, w'] ∧ RelV x u ∧ RelV y w' := by
  cases r with
  | cons r1 r2 =>
    cases r2 with
    | cons r3 r4 => cases r4; exact ⟨_, _, rfl, r1, r3⟩
theorem call_abs : CallR X (.builtin "abs") (fun xs H Q => ∃ i, xs = [.int i] ∧ Q (.int (if i < 0 then -i else i)) H) := by
  intro pins s σ H xs us Q I r h
  obtain ⟨i, rfl, q⟩ := h
  obtain ⟨u, rfl, t, rfl⟩ := vals1 r
  exact call_abs_int fun u tk => ⟨.int (if i < 0 then -i else i), H, I.tok _, ⟨_, rfl⟩, q⟩
theorem call_max2 (hc : X.calm = true) : CallR X (.builtin "max") (fun xs H Q => ∃ i j, xs = [.int i, .int j] ∧ Q (.int (if j > i then j else i)) H) := by
  intro pins s σ H xs us Q I r h
  obtain ⟨i, j, rfl, q⟩ := h
  obtain ⟨u, w', rfl, ⟨t, rfl⟩, ⟨t', rfl⟩⟩ := vals2 r
  refine max_two_ints (I.ok.hd hc) fun h' tk k => ⟨_, H, I.kept k, ?_, q⟩
  by_cases hj : j > i
  · rw [if_pos hj, if_pos hj]; exact ⟨_, rfl⟩
  · rw [if_neg hj, if_neg hj]; exact ⟨_, rfl⟩
theorem call_min2 (hc : X.calm = true) : CallR X (.builtin "min") (fun xs H Q => ∃ i j, xs = [.int i, .int j] ∧ Q (.int (if j < i then j else i)) H) := by
  intro pins s σ H xs us Q I r h
  obtain ⟨i, j, rfl, q⟩ := h
  obtain ⟨u, w', rfl, ⟨t, rfl⟩, ⟨t', rfl⟩⟩ := vals2 r
  refine min_two_ints (I.ok.hd hc) fun h' tk k => ⟨_, H, I.kept k, ?_, q⟩
  by_cases hj : j < i
  · rw [if_pos hj, if_pos hj]; exact ⟨_, rfl⟩
  · rw [if_neg hj, if_neg hj]; exact ⟨_, rfl⟩
theorem call_int1 : CallR X (.type "int") (fun xs H Q => (∃ i, xs = [.int i] ∧ Q (.int i) H) ∨ ∃ k, xs = [.bl k] ∧ Q (.int (if k then 1 else 0)) H) := by
  intro pins s σ H xs us Q I r h
  rcases h with ⟨i, rfl, q⟩ | ⟨k, rfl, q⟩
  · obtain ⟨u, rfl, t, rfl⟩ := vals1 r
    exact call_int_int ⟨.int i, H, I, ⟨_, rfl⟩, q⟩
  · obtain ⟨u, rfl, r1⟩ := vals1 r
    cases r1
    exact call_int_bool ⟨.int (if k then 1 else 0), H, I.tok _, ⟨_, rfl⟩, q⟩
end
end L2
namespace L2
open PySem PySem.Spec PyProof.Rows
structure ObjM (h : Heap) (x dx C : Addr) (mA : Str → Option Value) : Prop where
  obj : h.get? x = some (PySem.W.instObj C dx)
  ns : h.Ns1 dx mA
  ne : dx ≠ x
theorem lookIn_ns {h : Heap} {dx : Addr} {mA : Str → Option Value} (n : h.Ns1 dx mA) : ∃ od, h.get? dx = some od ∧ ∀ name, PySem.W.lookIn name od = some (mA name) := by
  obtain ⟨o, es, ep, ho, hd, hk, _, hm⟩ := n
  refine ⟨o, ho, fun name => ?_⟩
  have e := hm name
  unfold nsFind findBy at e
  rw [← Array.find?_toList] at e
  unfold PySem.W.lookIn
  rw [hd]
  dsimp only
  split
  · rename_i y q
    rw [q] at e
    exact congrArg some e
  · rename_i q
    rw [q] at e
    have a : es.toList.any (·.refKey) = false := by
      rw [List.any_eq_false]
      intro y hy
      obtain ⟨z, t, hkey⟩ := hk y (Array.mem_toList_iff.mp hy)
      simp [DictEntry.refKey, hkey]
    have a' : ¬ es.toList.any (·.refKey) = true := by rw [a]; exact Bool.false_ne_true
    rw [if_neg a']
    exact congrArg some e
theorem ObjM.look {h : Heap} {x dx C : Addr} {mA : Str → Option Value} (I : ObjM h x dx C mA) : ∃ od, PySem.W.InstAt h x (PySem.W.instObj C dx) C (some od) ∧ ∀ name, PySem.W.lookIn name od = some (mA name) :=
  let ⟨od, ho, hl⟩ := lookIn_ns I.ns
  ⟨od, ⟨I.obj, rfl, rfl, ho⟩, hl⟩
section
variable {prog : Program} {w : World} {A : Around} {E : Value → Shared → Prop} {s : Shared} {K : PySem.W.Frag} {x dx C f : Addr} {mA : Str → Option Value} {name : Str} {v : Value}
theorem get_map {expr : Bool} {Q : Value → Shared → Prop} (X : K.In s.heap) (I : ObjM s.heap x dx C mA) (hg : PySem.W.plainGet K C name = true) (hh : PySem.W.hasDictIn K C = true)
    (ha : PySem.W.findIn K (.ref C) name = some none) (hv : mA name = some v) (hv' : PySem.W.handedIn v = true) (h : Q v { s with toks := s.toks + 1 }) :
    wpAny (model prog w) A (getAttr (.ref x) name expr) Q E s := by
  obtain ⟨od, J, hl⟩ := I.look
  exact PySem.W.get_value X J (PySem.W.plainGet_of hg).1 (PySem.W.findObj_own hh ha rfl (by rw [hl, hv])) hv' h
theorem get_meth {pl : Sem Bool} {Q : Value × List Value → Shared → Prop} (X : K.In s.heap) (I : ObjM s.heap x dx C mA) (hg : PySem.W.plainGet K C name = true)
    (hf : PySem.W.findIn K (.ref C) name = some (some (.ref f))) (ht : PySem.W.isFn K (.ref f) = true) (hv : mA name = none) (h : Q (.ref f, [.ref x]) s) :
    wpAny (model prog w) A (getMethod (.ref x) name pl) Q E s := by
  obtain ⟨od, J, hl⟩ := I.look
  exact PySem.W.method_fn X J (PySem.W.plainGet_of hg).1 (PySem.W.plainGet_of hg).2 hf (beq_iff_eq.mp ht) (by show (PySem.W.lookIn name od).map (·.isSome) = some false; rw [hl, hv]; rfl) h
theorem set_map {ns : List Str} {Q : Unit → Shared → Prop} (X : K.In s.heap) (I : ObjM s.heap x dx C mA)
    (hs : PySem.W.findIn K (.ref C) "__setattr__" = some (some (.builtin "object.__setattr__"))) (hp : PySem.W.plainOver K C = true) (ht : PySem.W.takerIn K C name = some none) (hh : PySem.W.hasDictIn K C = true)
    (hw : PySem.Within mA ns) (hsz : ns.length ≤ sizeLine)
    (h : ∀ h', ObjM h' x dx C (fun y => if y = name then some v else mA y) → Heap.SameBut dx s.heap h' → Q () { s with heap := h', toks := s.toks + 2 }) :
    wpAny (model prog w) A (setAttr (.ref x) name v) Q E s := by
  obtain ⟨od, J, hl⟩ := I.look
  refine PySem.W.set_plain X J hs (PySem.W.osa_open (s := { s with toks := s.toks + 1 }) (r := none) X J hp ht fun b => ?_)
  obtain ⟨cd, hc, hd'⟩ := PySem.W.any_some hh
  have hx : s.heap.get? x = some ⟨.ref C, some dx, .plain, #[]⟩ := I.obj
  refine wpAny_bind (wpAny_pure (wpAny_bind (wpAny_bind (wpAny_loadPart hx (wpAny_bind (PySem.W.Looks.here (s := { s with toks := s.toks + 1 }) (PySem.W.looks_clsIn X hc) ?_))))))
  rw [hd']
  refine wpAny_pure (a := some dx) (wpAny_bind (wpAny_pure (wpAny_bind ?_)))
  refine wpAny_nsSet1 (s := { s with toks := s.toks + 1 }) I.ns fun h' hn2 hs2 => ?_
  obtain ⟨oD, esD, epD, hoD, hdD, hcD⟩ := hn2.count (PySem.Within.cons name v hw)
  refine wpAny_bind (wpAny_lookBehind hoD (by rw [hdD]; exact pastItsLine_dict (Nat.le_trans hcD (by rw [List.length_cons]; omega))) ?_)
  exact wpAny_pure (h _ ⟨(hs2.2 _ (Ne.symm I.ne)).trans I.obj, hn2, I.ne⟩ hs2)
theorem make_map {R : Result → Shared → Prop} {vs : List Value} {kw : List (Str × Value)} (X : K.In s.heap) (hm : PySem.W.makesIn K C = true)
    (hi : PySem.W.findIn K (.ref C) "__init__" = some (some (.ref f))) (hf : PySem.W.typeIn K (.ref f) = some (.type "function"))
    (h : codeAny (model prog w) (A.under (.builtin "type.__call__" ⟨.ref C :: vs, kw⟩)) (.call (.ref f) ⟨.ref (s.heap.objs.size + 1) :: vs, kw⟩) (PySem.W.InitBack (s.heap.objs.size + 1) R)
      { s with heap := (s.heap.push PySem.W.emptyDict).push (PySem.W.instObj C s.heap.objs.size) }) :
    codeAny (model prog w) A (.call (.ref C) ⟨vs, kw⟩) R s := by
  obtain ⟨hh, g, d, t, os⟩ := s
  exact PySem.W.make_core (PySem.W.makes_of X hm) (PySem.W.looks_findIn X hi) (fun self => PySem.W.bind_fn X self hf) (.inl rfl) h
end
def putF (f : Str) (v : V) : List (Str × V) → List (Str × V)
  | [] => [(f, v)]
  | (g, x) :: r => if g = f then (g, v) :: r else (g, x) :: putF f v r
theorem lookup_putF (f g : Str) (v : V) : ∀ fs : List (Str × V), (putF f v fs).lookup g = if g = f then some v else fs.lookup g
  | [] => by
    show List.lookup g [(f, v)] = _
    by_cases h : g = f
    · have hb : (g == f) = true := beq_iff_eq.mpr h
      simp only [List.lookup, hb, if_pos h]
    · have hb : (g == f) = false := beq_eq_false_iff_ne.mpr h
      simp only [List.lookup, hb, if_neg h]
  | (k, x) :: r => by
    have ih := lookup_putF f g v r
    rw [show putF f v ((k, x) :: r) = (if k = f then (k, v) :: r else (k, x) :: putF f v r) from rfl]
    by_cases hk : k = f
    · rw [if_pos hk]
      by_cases h : g = k
      · have hb : (g == k) = true := beq_iff_eq.mpr h
        simp only [List.lookup, hb, if_pos (h.trans hk)]
      · have hb : (g == k) = false := beq_eq_false_iff_ne.mpr h
        simp only [List.lookup, hb, if_neg (fun e : g = f => h (e.trans hk.symm))]
    · rw [if_neg hk]
      by_cases h : g = k
      · have hb : (g == k) = true := beq_iff_eq.mpr h
        simp only [List.lookup, hb, if_neg (fun e : g = f => hk (h.symm.trans e))]
      · have hb : (g == k) = false := beq_eq_false_iff_ne.mpr h
        simp only [List.lookup, hb]
        exact ih
theorem keys_putF (f : Str) (v : V) : ∀ fs : List (Str × V), f ∈ (putF f v fs).map (·.1) ∧ ∀ g, g ∈ fs.map (·.1) → g ∈ (putF f v fs).map (·.1)
  | [] => ⟨by simp [putF], fun g h => by simp at h⟩
  | (k, x) :: r => by
    obtain ⟨i1, i2⟩ := keys_putF f v r
    rw [show putF f v ((k, x) :: r) = (if k = f then (k, v) :: r else (k, x) :: putF f v r) from rfl]
    by_cases hk : k = f
    · rw [if_pos hk]
      subst hk
      exact ⟨by simp, fun g h => by simpa using h⟩
    · rw [if_neg hk]
      refine ⟨?_, fun g h => ?_⟩
      · rw [List.map_cons]
        exact List.mem_cons_of_mem _ i1
      · rw [List.map_cons] at h ⊢
        rcases List.mem_cons.mp h with e | e
        · exact List.mem_cons.mpr (.inl e)
        · exact List.mem_cons_of_mem _ (i2 g e)
theorem length_putF (f : Str) (v : V) : ∀ fs : List (Str × V), (putF f v fs).length ≤ fs.length + 1
  | [] => by simp [putF]
  | (k, x) :: r => by
    have ih := length_putF f v r
    rw [show putF f v ((k, x) :: r) = (if k = f then (k, v) :: r else (k, x) :: putF f v r) from rfl]
    by_cases hk : k = f
    · rw [if_pos hk, List.length_cons, List.length_cons]; omega
    · rw [if_neg hk, List.length_cons, List.length_cons]; omega
theorem RelO.some_of {v : V} {o : Option Value} (r : RelO (some v) o) : ∃ u, o = some u ∧ RelV v u := by
  cases o with
  | none => exact (show False from r).elim
  | some u => exact ⟨u, rfl, r⟩
theorem RelO.none_of {o : Option Value} (r : RelO none o) : o = none := by
  cases o with
  | none => rfl
  | some u => exact (show False from r).elim
theorem handed_of {v : V} {u : Value} (r : RelV v u) : PySem.W.handedIn u = true := by
  cases v with
  | non => cases (show u = Value.none from r); rfl
  | bl b => cases (show u = Value.bool b from r); rfl
  | int i => obtain ⟨t, e⟩ := (show ∃ t, u = Value.int i t from r); cases e; rfl
  | str x => obtain ⟨t, e⟩ := (show ∃ t, u = Value.str x t from r); cases e; rfl
  | byt b => obtain ⟨t, e⟩ := (show ∃ t, u = Value.bytes b t from r); cases e; rfl
  | flt b => obtain ⟨t, e⟩ := (show ∃ t, u = Value.float b t from r); cases e; rfl
  | ref a => cases (show u = Value.ref a from r); rfl
  | ty n => cases (show u = Value.type n from r); rfl
section
variable {P : Program} {w : World} {H H' : Hp} {h h' : Heap} {a C dx : Addr} {fs fs' : List (Str × V)}
theorem ins_get (hok : HOk P w H h) (e : H a = some (.ins C dx fs)) : ∃ mA, ObjM h a dx C mA ∧ (∀ f, RelO (fs.lookup f) (mA f)) ∧ PySem.Within mA (fs.map (·.1)) ∧ fs.length ≤ 1000 ∧ H dx = some (.own a) := by
  obtain ⟨d, z, ne, ob, mA, n, r, q⟩ := (show ObjOk P w H h a (.ins C dx fs) from hok a _ e)
  exact ⟨mA, ⟨ob, n, ne⟩, r, q, z, d⟩
end
structure Cls (K : PySem.W.Frag) (C : Addr) : Prop where
  pg : PySem.W.plainGet K C Str.empty = true
  hd : PySem.W.hasDictIn K C = true
  po : PySem.W.plainOver K C = true
  sa : PySem.W.findIn K (.ref C) "__setattr__" = some (some (.builtin "object.__setattr__"))
theorem Cls.get {K : PySem.W.Frag} {C : Addr} (c : Cls K C) (f : Str) : PySem.W.plainGet K C f = true := c.pg
def NoAttr (K : PySem.W.Frag) (C : Addr) (f : Str) : Prop := PySem.W.findIn K (.ref C) f = some none
theorem NoAttr.taker {K : PySem.W.Frag} {C : Addr} {f : Str} (n : NoAttr K C f) : PySem.W.takerIn K C f = some none := by
  unfold PySem.W.takerIn
  rw [show PySem.W.findIn K (.ref C) f = some none from n]
  rfl
structure Meth (K : PySem.W.Frag) (C : Addr) (m : Str) (f : Addr) : Prop where
  at_ : PySem.W.findIn K (.ref C) m = some (some (.ref f))
  fn : PySem.W.isFn K (.ref f) = true
  kp : PySem.W.keepIn K (.ref f) = true
section
variable {X : Cx} {pins : List (Addr × Obj)} {σ : St} {H : Hp} {s : Shared} {a C dx : Addr} {fs : List (Str × V)} {f : Str} {v : V} {A : Around} {E : Value → Shared → Prop}
theorem getattr_ok {b : Bool} {Q : Value → Shared → Prop} (I : Inv X pins σ H s) (e : H a = some (.ins C dx fs)) (c : Cls X.K C) (n : NoAttr X.K C f) (l : fs.lookup f = some v)
    (h : ∀ u s', Inv X pins σ H s' → RelV v u → Q u s') : wpAny (model X.prog X.w) A (getAttr (.ref a) f b) Q E s := by
  obtain ⟨mA, O, r, _, _, _⟩ := ins_get I.hok e
  obtain ⟨u, hu, ru⟩ := RelO.some_of (v := v) (o := mA f) (by rw [← l]; exact r f)
  exact get_map I.kIn O (c.get f) c.hd n hu (handed_of ru) (h u _ (I.tok _) ru)
theorem getmeth_ok {m : Str} {g : Addr} {pl : Sem Bool} {Q : Value × List Value → Shared → Prop} (I : Inv X pins σ H s) (e : H a = some (.ins C dx fs)) (c : Cls X.K C) (k : Meth X.K C m g) (l : fs.lookup m = none)
    (h : Q (.ref g, [.ref a]) s) : wpAny (model X.prog X.w) A (getMethod (.ref a) m pl) Q E s := by
  obtain ⟨mA, O, r, _, _, _⟩ := ins_get I.hok e
  have hn : mA m = none := RelO.none_of (by rw [← l]; exact r m)
  exact get_meth I.kIn O (c.get m) k.at_ k.fn hn h
theorem setattr_ok {y : V} {u : Value} {Q : Unit → Shared → Prop} (I : Inv X pins σ H s) (e : H a = some (.ins C dx fs)) (c : Cls X.K C) (n : NoAttr X.K C f) (hl : fs.length < 1000) (ry : RelV y u)
    (h : ∀ s', Inv X pins σ (upd H a (.ins C dx (putF f y fs))) s' → Q () s') : wpAny (model X.prog X.w) A (setAttr (.ref a) f u) Q E s := by
  obtain ⟨mA, O, r, wi, _, ho⟩ := ins_get I.hok e
  have hz : (fs.map (·.1)).length ≤ sizeLine := by rw [List.length_map, sizeLine_eq]; omega
  refine set_map I.kIn O c.sa c.po n.taker c.hd wi hz fun h' O' sb => h _ ?_
  have hd : ∃ o, h'.get? dx = some o := let ⟨o, _, _, e', _⟩ := O'.ns; ⟨o, e'⟩
  refine I.write (x := a) (e := dx) (by rw [e]; exact True.intro) (.inr ho) (fun b q hb z => (sb.2 b hb).trans z) hd ?_
  refine ⟨by rw [upd_ne O.ne]; exact ho, ?_, O.ne, O'.obj, _, O'.ns, fun g => ?_, fun g hg => ?_⟩
  · have := length_putF f y fs; omega
  · show RelO ((putF f y fs).lookup g) (if g = f then some u else mA g)
    rw [lookup_putF]
    by_cases q : g = f
    · rw [if_pos q, if_pos q]; exact ry
    · rw [if_neg q, if_neg q]; exact r g
  · by_cases q : g = f
    · rw [q]; exact (keys_putF f y fs).1
    · refine (keys_putF f y fs).2 g (wi g fun z => hg ?_)
      show (if g = f then some u else mA g) = none
      rw [if_neg q]; exact z
theorem Inv.made (I : Inv X pins σ H s) : Inv X pins σ (upd (upd H s.heap.objs.size (.own (s.heap.objs.size + 1))) (s.heap.objs.size + 1) (.ins C s.heap.objs.size []))
    { s with heap := (s.heap.push PySem.W.emptyDict).push (PySem.W.instObj C s.heap.objs.size) } := by
  have e1 : (s.heap.push PySem.W.emptyDict).get? s.heap.objs.size = some PySem.W.emptyDict := Heap.get?_push_size s.heap rfl
  have e2 : ((s.heap.push PySem.W.emptyDict).push (PySem.W.instObj C s.heap.objs.size)).get? (s.heap.objs.size + 1) = some (PySem.W.instObj C s.heap.objs.size) := by
    have := Heap.get?_push_size (s.heap.push PySem.W.emptyDict) (o := PySem.W.instObj C s.heap.objs.size) rfl
    rwa [Heap.size_push] at this
  have e3 : (s.heap.push PySem.W.emptyDict).Ns s.heap.objs.size (fun _ => none) := ⟨PySem.W.emptyDict, #[], _, e1, rfl, (fun e he => absurd he (by simp)), fun _ => rfl⟩
  have I1 := I.laid (a := s.heap.objs.size) (o := .own (s.heap.objs.size + 1)) (h' := s.heap.push PySem.W.emptyDict) (t' := s.toks) (fun b u q => Heap.get?_push_of_some _ q) (Nat.le_refl _) ⟨_, e1⟩
  refine I1.laid (a := s.heap.objs.size + 1) (o := .ins C s.heap.objs.size []) (t' := s.toks) (fun b u q => Heap.get?_push_of_some _ q) (Nat.le_of_eq (Heap.size_push _ _)) ?_
  have ne : s.heap.objs.size ≠ s.heap.objs.size + 1 := Nat.ne_of_lt (Nat.lt_succ_self _)
  refine ⟨by rw [upd_ne ne, upd_same], Nat.zero_le _, ne, e2, fun _ => none, (Heap.Ns1.of_empty e3).at fun o q => Heap.get?_push_of_some _ q, fun _ => True.intro, fun y hy => absurd rfl hy⟩
theorem attr_of {prog : Program} {w : World} {env : Env} {e : Expr} {f : Str} {pos : Pos} {s : Shared} {Q : Value → Shared → Prop} (hb : attributeBase e f env (eval e env) = eval e env)
    (h : wpAny (model prog w) A (eval e env) (fun o s₁ => wpAny (model prog w) A (getAttr o f true) Q E s₁) E s) : wpAny (model prog w) A (eval (.Attribute e f pos) env) Q E s :=
  Attribute_any_ h (by rw [arm_eval_Attribute, hb])
end
def tFld (K : PySem.W.Frag) (ta : TE) (f : Str) : TE := fun σ H Q => ta σ H fun x H1 => ∃ a C dx fs v, x = .ref a ∧ H1 a = some (.ins C dx fs) ∧ Cls K C ∧ NoAttr K C f ∧ fs.lookup f = some v ∧ Q v H1
def sFld (K : PySem.W.Frag) (ta tv : TE) (f : Str) : TS := fun D σ H => tv σ H fun y H1 => ta σ H1 fun x H2 => ∃ a C dx fs, x = .ref a ∧ H2 a = some (.ins C dx fs) ∧ Cls K C ∧ NoAttr K C f ∧ fs.length < 1000 ∧
  D.nx σ (upd H2 a (.ins C dx (putF f y fs)))
section
variable {X : Cx} {o e value : Expr} {f : Str} {pos pos' tpos : Pos} {ta tv : TE}
theorem pe_fld (he : PE X e ta) (hb : attributeBase e f X.env (eval e X.env) = eval e X.env) : PE X (.Attribute e f pos) (tFld X.K ta f) := by
  intro pins s σ H Q I h
  refine attr_of hb (thn (he pins s σ H _ I h) fun u s1 ⟨x, H1, I1, rx, a, C, dx, fs, v, ex, ea, c, n, l, q⟩ => ?_)
  subst ex
  obtain rfl : u = Value.ref a := rx
  exact getattr_ok I1 ea c n l fun u' s2 I2 ru => ⟨v, H1, I2, ru, q⟩
theorem ps_fld (ha : PE X o ta) (hv : PE X value tv) (hs : swapsWith value (some (.Attribute o f pos')) pos.line X.env = pure false) : PS X (.Assign [.Attribute o f pos'] value pos) (sFld X.K ta tv f) := by
  intro pins s σ H D I h
  refine plainObj_wpAny_Assign_Attribute (thn (hv pins s σ H _ I h) fun u s1 ⟨y, H1, I1, ry, q⟩ => thn (ha pins s1 σ H1 _ I1 q) fun ov s2 ⟨x, H2, I2, rx, a, C, dx, fs, ex, ea, c, n, l, q2⟩ => ?_) hs
  subst ex
  obtain rfl : ov = Value.ref a := rx
  exact setattr_ok I2 ea c n l ry fun s3 I3 => ⟨σ, _, I3, q2⟩
end
section
variable {X : Cx} {pins : List (Addr × Obj)} {σ : St} {H : Hp} {s : Shared} {A : Around} {E : Value → Shared → Prop} {Q : Value → Shared → Prop} {c : Value} {b : Bool}
inductive TyOf (K : PySem.W.Frag) (H : Hp) : V → Value → Prop where
  | non : TyOf K H .non (.type "NoneType")
  | bl (x : Bool) : TyOf K H (.bl x) (.type "bool")
  | int (i : Int) : TyOf K H (.int i) (.type "int")
  | str (x : Str) : TyOf K H (.str x) (.type "str")
  | flt (x : UInt64) : TyOf K H (.flt x) (.type "float")
  | lst {a : Addr} {xs : List V} (e : H a = some (.lst xs)) : TyOf K H (.ref a) (.type "list")
  | frz {a : Addr} {o : Obj} {xs : List V} (e : H a = some (.frz o (.lst xs))) : TyOf K H (.ref a) (.type "list")
  | tup {a : Addr} {xs : List V} (e : H a = some (.tup xs)) : TyOf K H (.ref a) (.type "tuple")
  | dK {a : Addr} {kvs : List (Key × V)} (e : H a = some (.dK kvs)) : TyOf K H (.ref a) (.type "dict")
  | dT {a : Addr} {kvs : List (List Key × V)} (e : H a = some (.dT kvs)) : TyOf K H (.ref a) (.type "dict")
  | ins {a C dx : Addr} {fs : List (Str × V)} (e : H a = some (.ins C dx fs)) (cl : Cls K C) (ha : PySem.W.findIn K (.ref C) "__class__" = some (some (.builtin "object.__class__")))
      (hn : PySem.W.specialIn K (.builtin "object.__class__") "__get__" = some (some (.builtin "getset_descriptor.__get__"))) (htk : PySem.W.takesIn K (.builtin "object.__class__") = some true)
      (hm : PySem.W.mroIn K C (.type "object") = some true) : TyOf K H (.ref a) (.ref C)
theorem isinst_ok {x : V} {u t : Value} (I : Inv X pins σ H s) (rx : RelV x u) (ty : TyOf X.K H x t) (e : PySem.W.kitOne X.K t c = some b) (h : ∀ tk, Q (.bool b) { s with toks := tk }) :
    wpAny (model X.prog X.w) A (call (.builtin "isinstance") [u, c]) Q E s := by
  cases ty with
  | non => cases (show u = Value.none from rx); exact PySem.W.kia_one PySem.W.kitx_none I.kIn True.intro e (fun z => nomatch z) h
  | bl y => cases (show u = Value.bool y from rx); exact PySem.W.kia_one PySem.W.kitx_bool I.kIn True.intro e (fun z => nomatch z) h
  | int i => obtain ⟨t, q⟩ := (show ∃ t, u = Value.int i t from rx); cases q; exact PySem.W.kia_one PySem.W.kitx_int I.kIn True.intro e (fun z => nomatch z) h
  | str y => obtain ⟨t, q⟩ := (show ∃ t, u = Value.str y t from rx); cases q; exact PySem.W.kia_one PySem.W.kitx_str I.kIn True.intro e (fun z => nomatch z) h
  | flt y => obtain ⟨t, q⟩ := (show ∃ t, u = Value.float y t from rx); cases q; exact PySem.W.kia_one PySem.W.kitx_float I.kIn True.intro e (fun z => nomatch z) h
  | @lst a xs ea =>
    cases (show u = Value.ref a from rx)
    obtain ⟨_, _, n, _, h1⟩ := (show ObjOk X.prog X.w H s.heap a (.lst xs) from I.hok a _ ea)
    exact PySem.W.kia_one PySem.W.kitx_list I.kIn ⟨_, h1, rfl⟩ e (fun z => nomatch z) h
  | @frz a ob xs ea =>
    cases (show u = Value.ref a from rx)
    obtain ⟨_, _, _, n, _, h1⟩ := (show ObjOk X.prog X.w H s.heap a (.frz ob (.lst xs)) from I.hok a _ ea)
    exact PySem.W.kia_one PySem.W.kitx_list I.kIn ⟨_, h1, rfl⟩ e (fun z => nomatch z) h
  | @tup a xs ea =>
    cases (show u = Value.ref a from rx)
    obtain ⟨_, _, _, p⟩ := (show ObjOk X.prog X.w H s.heap a (.tup xs) from I.hok a _ ea)
    obtain ⟨o, h1, h2, _⟩ := p
    exact PySem.W.kia_one PySem.W.kitx_tuple I.kIn ⟨o, h1, h2⟩ e (fun z => nomatch z) h
  | @dK a kvs ea =>
    cases (show u = Value.ref a from rx)
    obtain ⟨_, _, vs, _, p⟩ := (show ObjOk X.prog X.w H s.heap a (.dK kvs) from I.hok a _ ea)
    obtain ⟨o, es, ep, h1, h2, _⟩ := p
    exact PySem.W.kia_one PySem.W.kitx_dict I.kIn ⟨o, h1, h2.1⟩ e (fun z => nomatch z) h
  | @dT a kvs ea =>
    cases (show u = Value.ref a from rx)
    obtain ⟨_, _, xs, _, o, es, ep, h1, h2, _⟩ := (show ObjOk X.prog X.w H s.heap a (.dT kvs) from I.hok a _ ea)
    exact PySem.W.kia_one PySem.W.kitx_dict I.kIn ⟨o, h1, h2.1⟩ e (fun z => nomatch z) h
  | @ins a C dx fs ea cl ha hn htk hm =>
    cases (show u = Value.ref a from rx)
    obtain ⟨mA, O, _⟩ := ins_get I.hok ea
    obtain ⟨od, J, _⟩ := O.look
    exact PySem.W.kia_one (PySem.W.kitx_own (cl.get _) cl.hd ha hn htk hm) I.kIn J e (fun z => nomatch z) h
end
end L2
namespace L2
open PySem PySem.Spec PyProof.Rows
structure Room (k : Nat) (A : Around) : Prop where
  hd : A.handled = none
  dp : A.depth + 3 * k + 5 < recursionLimit
  un : A.units + 16 * k + 200 < cLine
theorem Room.mono {j k : Nat} {A : Around} (r : Room k A) (h : j ≤ k) : Room j A := ⟨r.hd, by have := r.dp; omega, by have := r.un; omega⟩
theorem Room.deeper {k : Nat} {A : Around} (r : Room (k + 1) A) (env : Env) : Room k (A.deeper env) :=
  ⟨r.hd, by have := r.dp; show A.depth + 1 + 3 * k + 5 < _; omega, by have := r.un; show A.units + 3 + 16 * k + 200 < _; omega⟩
theorem make_depth {A : Around} {C : Addr} {us : List Value} {kw : List (Str × Value)} : (A.under (.builtin "type.__call__" ⟨.ref C :: us, kw⟩)).depth = A.depth + 1 := by
  first | rfl | simp [Around.under, Code.weight, Code.isCreation, Code.isGuard, Code.isCaller, Code.frames, Code.isFrame, guardIds]
theorem make_units {A : Around} {C : Addr} {us : List Value} {kw : List (Str × Value)} : (A.under (.builtin "type.__call__" ⟨.ref C :: us, kw⟩)).units = A.units + 1 := by
  first | rfl | simp [Around.under, Code.cUnits, Code.frames, Code.isFrame]
theorem Room.make {k : Nat} {A : Around} (r : Room (k + 1) A) (C : Addr) (us : List Value) (kw : List (Str × Value)) : Room k (A.under (.builtin "type.__call__" ⟨.ref C :: us, kw⟩)) :=
  ⟨r.hd, by have := r.dp; rw [make_depth]; omega, by have := r.un; rw [make_units]; omega⟩
theorem Room.depth {k : Nat} {A : Around} (r : Room k A) : A.depth < recursionLimit := by have := r.dp; omega
theorem Room.units {k : Nat} {A : Around} (r : Room k A) : A.units + 64 < cLine := by have := r.un; omega
theorem Room.units0 {k : Nat} {A : Around} (r : Room k A) : A.units < cLine := by have := r.un; omega
def tNil : TA := fun _ H Q => Q [] H
def tCons (ta : TE) (tr : TA) : TA := fun σ H Q => ta σ H fun x H1 => tr σ H1 fun xs H2 => Q (x :: xs) H2
section
variable {X : Cx} {e : Expr} {es : List Expr} {te : TE} {t : TA} {pos : Pos}
theorem pa_nil : PA X [] tNil := fun _ _ _ _ H Q I h => Calls.spliced_nil ⟨[], H, I, .nil, h⟩
theorem pa_cons (ha : PE X e te) (hr : PA X es t) (hs : starEach (e :: es) X.env = (false, eval e X.env) :: starEach es X.env := by rfl) : PA X (e :: es) (tCons te t) := by
  intro pos pins s σ H Q I h
  rw [hs]
  show wpAny _ _ (spliced ((false, eval e X.env) :: backTo pos (starEach es X.env))) _ _ s
  refine Calls.spliced_cons (thn (ha pins s σ H _ I h) fun u s1 ⟨x, H1, I1, r1, q1⟩ => ?_)
  exact thn (hr pos pins s1 σ H1 _ I1 q1) fun us s2 ⟨xs, H2, I2, r2, q2⟩ => ⟨x :: xs, H2, I2, .cons r1 r2, q2⟩
def tTup (t : TA) : TE := fun σ H Q => t σ H fun xs H1 => xs.length ≤ sizeLine ∧ ∀ p, H1 p = none → Q (.ref p) (upd H1 p (.tup xs))
def tLst (t : TA) : TE := fun σ H Q => t σ H fun xs H1 => xs.length ≤ sizeLine ∧ ∀ p, H1 p = none → Q (.ref p) (upd H1 p (.lst xs))
theorem pe_tup {x1} (h : PA X es t) : PE X (.Tuple es x1 pos) (tTup t) := by
  intro pins s σ H Q I hq
  refine wpAny_Tuple_spliced (thn (h pos pins s σ H _ I hq) fun us s1 ⟨xs, H1, I1, r, z, q⟩ => ⟨by rw [← r.length]; exact z, ?_⟩)
  have hf : H1 s1.heap.objs.size = none := I1.hok.fresh (Nat.le_refl _)
  refine ⟨.ref s1.heap.objs.size, upd H1 s1.heap.objs.size (.tup xs), I1.laid (t' := s1.toks) (fun b u e => Heap.get?_push_of_some _ e) (Nat.le_refl _) ?_, rfl, q _ hf⟩
  exact ⟨z, us, r, ⟨_, Heap.get?_push_size _ rfl, rfl, _, rfl⟩⟩
theorem pe_lst (h : PA X es t) : PE X (.List es pos) (tLst t) := by
  intro pins s σ H Q I hq
  refine wpAny_List_spliced (thn (h pos pins s σ H _ I hq) fun us s1 ⟨xs, H1, I1, r, z, q⟩ => ⟨by rw [← r.length]; exact z, ?_⟩)
  have hf : H1 s1.heap.objs.size = none := I1.hok.fresh (Nat.le_refl _)
  refine ⟨.ref s1.heap.objs.size, upd H1 s1.heap.objs.size (.lst xs), I1.laid (t' := s1.toks) (fun b u e => Heap.get?_push_of_some _ e) (Nat.le_refl _) ?_, rfl, q _ hf⟩
  exact ⟨z, us, 0, r, Heap.get?_push_size _ rfl⟩
end
abbrev Sp := List V → Hp → VK → XK → Prop
abbrev CXT := List Env → Hp → Shared → XK → Value → Shared → Prop
structure Env0 (P : Program) (w : World) (K : PySem.W.Frag) (mg : Str → Option Value) (base : Heap) (A : Around) (outer : List Env) (s : Shared) (H : Hp) : Prop where
  frames : A.frames = some outer
  mod : Mod K mg base
  bs : ∀ b o, base.get? b = some o → s.heap.get? b = some o ∧ H b = none
  bsz : base.objs.size ≤ s.heap.objs.size
  funs : s.heap.FunFrames base outer
  frf : ∀ b ∈ frs outer, H b = none
  hok : HOk P w H s.heap
  bare : AllBare s.gens
def CE (outer : List Env) (P : Program) (w : World) (H : Hp) (s : Shared) (Q : VK) (u : Value) (s' : Shared) : Prop :=
  ∃ v H', s'.os = s.os ∧ AllBare s'.gens ∧ Un (frs outer) [] H H' s.heap s'.heap ∧ HOk P w H' s'.heap ∧ RelV v u ∧ Q v H'
def CR (CX : CXT) (outer : List Env) (P : Program) (w : World) (H : Hp) (s : Shared) (Q : VK) (E : XK) (r : Result) (s' : Shared) : Prop :=
  match r with
  | .ok (.ret u) => CE outer P w H s Q u s'
  | .ok _ => False
  | .error e => CX outer H s E e s'
structure FnOk (P : Program) (w : World) (K : PySem.W.Frag) (mg : Str → Option Value) (base : Heap) (CX : CXT) (k : Nat) (f : Addr) (fd : FuncData) (ps : List Str) (sp : Sp) : Prop where
  len : ∀ vs H Q E, sp vs H Q E → vs.length = ps.length
  run : ∀ (A : Around) (outer : List Env) (s : Shared) (H : Hp) (args : Args) (us : List Value) (vs : List V) (Q : VK) (E : XK), Room k A → Env0 P w K mg base A outer s H → BindsTo s fd args (ps.zip us) → Vals vs us → sp vs H Q E →
    codeAny (model P w) A (.call (.ref f) args) (CR CX outer P w H s Q E) s
theorem Env0.make {P : Program} {w : World} {K : PySem.W.Frag} {mg : Str → Option Value} {base : Heap} {A : Around} {outer : List Env} {s : Shared} {H : Hp} (e : Env0 P w K mg base A outer s H) (C : Addr) (us : List Value) (kw : List (Str × Value)) :
    Env0 P w K mg base (A.under (.builtin "type.__call__" ⟨.ref C :: us, kw⟩)) outer s H := ⟨by first | exact e.frames | (simpa [Around.under, Code.envs, Code.isFrame, pushEnvs] using e.frames), e.mod, e.bs, e.bsz, e.funs, e.frf, e.hok, e.bare⟩
section
variable {X : Cx} {pins : List (Addr × Obj)} {σ : St} {H : Hp} {s s' : Shared}
theorem Inv.env0 (I : Inv X pins σ H s) : Env0 X.prog X.w X.K X.mg X.base X.A X.stack s H :=
  ⟨I.ok.frames, I.ok.mod, I.bs, Nat.le_trans I.ok.bsz I.sz, I.stack, I.stkFree, I.hok, I.bare⟩
theorem Inv.after {Q : VK} {u : Value} (I : Inv X pins σ H s) (h : CE X.stack X.prog X.w H s Q u s') : EP X pins σ Q u s' := by
  obtain ⟨v, H', os, bare, un, hok, r, q⟩ := h
  obtain ⟨hh, g, d, t, os'⟩ := s'
  obtain rfl : os' = s.os := os
  exact ⟨v, H', I.call (h' := hh) (g' := g) (d' := d) (t' := t) (ch := []) un hok bare (fun b z => absurd z (by simp)), r, q⟩
end
def tCall (sp : Sp) (dvs : List V) (E : XK) (t : TA) : TE := fun σ H Q => t σ H fun vs H1 => sp (vs ++ dvs) H1 Q E
def tMeth (C : Addr) (m : Str) (sp : Sp) (dvs : List V) (E : XK) (ta : TE) (t : TA) : TE := fun σ H Q => ta σ H fun x H1 => ∃ a dx fs, x = .ref a ∧ H1 a = some (.ins C dx fs) ∧ fs.lookup m = none ∧
  t σ H1 fun vs H2 => sp (x :: (vs ++ dvs)) H2 Q E
def tMake (C : Addr) (sp : Sp) (dvs : List V) (E : XK) (t : TA) : TE := fun σ H Q => t σ H fun vs H1 => ∀ x dx, H1 x = none → H1 dx = none → dx ≠ x →
  sp (.ref x :: (vs ++ dvs)) (upd (upd H1 dx (.own x)) x (.ins C dx [])) (fun v H2 => v = .non ∧ Q (.ref x) H2) E
def Binds (K : PySem.W.Frag) (fd : FuncData) (ps : List Str) (ds : List Value) : Prop :=
  ∀ (s : Shared) (us : List Value), K.In s.heap → (us ++ ds).length = ps.length → BindsTo s fd ⟨us, []⟩ (ps.zip (us ++ ds))
theorem Binds.all {K : PySem.W.Frag} {fd : FuncData} {ps : List Str} (h : ∀ us : List Value, us.length = ps.length → bindArgs fd ⟨us, []⟩ = pure (ps.zip us)) : Binds K fd ps [] := fun s us _ hl => by
  rw [List.append_nil] at hl ⊢
  exact .of_eq (h us hl)
def Passes (CX : CXT) (X : Cx) (E : XK) : Prop := ∀ (pins : List (Addr × Obj)) (σ : St) (H : Hp) (s : Shared) (e : Value) (s' : Shared), Inv X pins σ H s → CX X.stack H s E e s' → X.xe e s'
section
variable {X : Cx} {CX : CXT} {k : Nat} {f C : Addr} {fd : FuncData} {ps : List Str} {sp : Sp} {dvs : List V} {ds : List Value} {E : XK} {x m : Str} {p pos apos : Pos} {e o : Expr} {es : List Expr} {ta : TE} {t : TA}
theorem run_fn {pins : List (Addr × Obj)} {σ : St} {H : Hp} {s : Shared} {Q : VK} {us : List Value} {vs : List V} (F : FnOk X.prog X.w X.K X.mg X.base CX k f fd ps sp) (hr : Room k X.A) (hb : Binds X.K fd ps ds) (hd : Vals dvs ds) (hx : Passes CX X E)
    (I : Inv X pins σ H s) (r : Vals vs us) (h : sp (vs ++ dvs) H Q E) : wpAny (model X.prog X.w) X.A (call (.ref f) us) (EP X pins σ Q) X.xe s := by
  have r2 : Vals (vs ++ dvs) (us ++ ds) := r.append hd
  have hl : (us ++ ds).length = ps.length := by rw [← r2.length]; exact F.len _ _ _ _ h
  refine wpAny_call (codeAny_mono (F.run X.A X.stack s H ⟨us, []⟩ (us ++ ds) (vs ++ dvs) Q E hr I.env0 (hb s us I.kIn hl) r2 h) fun r s' hq => ?_)
  cases r with
  | error e => exact hx pins σ H s e s' I hq
  | ok fl =>
    cases fl with
    | ret u => exact I.after hq
    | next => exact False.elim hq
    | brk => exact False.elim hq
    | cont => exact False.elim hq
theorem pe_call (F : FnOk X.prog X.w X.K X.mg X.base CX k f fd ps sp) (hr : Room k X.A) (hg : Gl X x) (hm : X.mg x = some (.ref f)) (hk : PySem.W.keepIn X.K (.ref f) = true) (hb : Binds X.K fd ps ds) (hd : Vals dvs ds) (hx : Passes CX X E)
    (ha : PA X (e :: es) t) (hdb : (x == ("__debug__" : Str)) = false := by decide) (he : starEach (e :: es) X.env = (false, eval e X.env) :: starEach es X.env := by rfl) (hpl : (backTo pos (starEach es X.env)).any (·.1) = false := by rfl) :
    PE X (.Call (.Name x p) (e :: es) [] pos) (tCall sp dvs E t) := by
  intro pins s σ H Q I h
  refine wpAny_Call_Name_kw (ld_glob I hg hm ?_ hdb)
  refine PySem.W.callWith_K (h₀ := X.base) I.ok.mod.kin hk (thn (ha pos pins s σ H _ I h) fun us s1 ⟨vs, H1, I1, r, q⟩ => ⟨I1.kIn, ?_⟩) he hpl
  exact run_fn F hr hb hd hx I1 r q
theorem pe_meth {pl : Sem Bool} (he : PE X o ta) (c : Cls X.K C) (hm : Meth X.K C m f) (F : FnOk X.prog X.w X.K X.mg X.base CX k f fd ps sp) (hr : Room k X.A) (hb : Binds X.K fd ps ds) (hd : Vals dvs ds) (hx : Passes CX X E) (ha : PA X (e :: es) t)
    (hst : starEach (e :: es) X.env = (false, eval e X.env) :: starEach es X.env := by rfl) (hpl : (backTo pos (starEach es X.env)).any (·.1) = false := by rfl)
    (ht : eval (.Call (.Attribute o m apos) (e :: es) [] pos) X.env = (do
      let ov ← eval o X.env
      standAt apos.atName
      let (f, first) ← holding [ov] (getMethod ov m pl)
      callWith pos f first (backTo pos (starEach (e :: es) X.env)) (backToKw pos (keywordEach [] X.env))) := by rfl) :
    PE X (.Call (.Attribute o m apos) (e :: es) [] pos) (tMeth C m sp dvs E ta t) := by
  intro pins s σ H Q I h
  refine PySem.W.methodCall_KW (pl := pl) (thn (he pins s σ H _ I h) fun u s1 ⟨x, H1, I1, rx, a, dx, fs, ex, ea, l, q⟩ => ?_) ht
  subst ex
  obtain rfl : u = Value.ref a := rx
  refine getmeth_ok I1 ea c hm l ?_
  refine PySem.W.callWith_K (first := [.ref a]) (h₀ := X.base) I.ok.mod.kin hm.kp (thn (ha pos pins s1 σ H1 _ I1 q) fun us s2 ⟨vs, H2, I2, r, q2⟩ => ⟨I2.kIn, ?_⟩) hst hpl
  exact run_fn (us := .ref a :: us) (vs := .ref a :: vs) F hr hb hd hx I2 (.cons rfl r) q2
structure Mk (K : PySem.W.Frag) (C f : Addr) : Prop where
  makes : PySem.W.makesIn K C = true
  init : PySem.W.findIn K (.ref C) "__init__" = some (some (.ref f))
  fn : PySem.W.isFn K (.ref f) = true
  kp : PySem.W.keepIn K (.ref C) = true
theorem run_make {pins : List (Addr × Obj)} {σ : St} {H : Hp} {s : Shared} {Q : VK} {us : List Value} {vs : List V} (M : Mk X.K C f) (F : FnOk X.prog X.w X.K X.mg X.base CX k f fd ps sp) (hr : Room (k + 1) X.A) (hb : Binds X.K fd ps ds) (hd : Vals dvs ds)
    (hx : Passes CX X E) (I : Inv X pins σ H s) (r : Vals vs us)
    (h : ∀ x dx, H x = none → H dx = none → dx ≠ x → sp (.ref x :: (vs ++ dvs)) (upd (upd H dx (.own x)) x (.ins C dx [])) (fun v H2 => v = .non ∧ Q (.ref x) H2) E) :
    wpAny (model X.prog X.w) X.A (call (.ref C) us) (EP X pins σ Q) X.xe s := by
  have hq := h (s.heap.objs.size + 1) s.heap.objs.size (I.hok.fresh (Nat.le_succ _)) (I.hok.fresh (Nat.le_refl _)) (Nat.ne_of_lt (Nat.lt_succ_self _))
  have I2 := Inv.made (C := C) I
  have r2 : Vals (V.ref (s.heap.objs.size + 1) :: (vs ++ dvs)) (Value.ref (s.heap.objs.size + 1) :: (us ++ ds)) := .cons rfl (r.append hd)
  have hl : (Value.ref (s.heap.objs.size + 1) :: us ++ ds).length = ps.length := by
    have e := r2.length
    rw [F.len _ _ _ _ hq] at e
    exact e.symm
  refine wpAny_call (make_map (f := f) I.kIn M.makes M.init (beq_iff_eq.mp M.fn) (codeAny_mono (F.run _ X.stack _ _ ⟨Value.ref (s.heap.objs.size + 1) :: us, []⟩ (Value.ref (s.heap.objs.size + 1) :: (us ++ ds)) _ _ E (hr.make C us [])
    (I2.env0.make C us []) (hb _ (Value.ref (s.heap.objs.size + 1) :: us) I2.kIn hl) r2 hq) fun r s' hq' => ?_))
  cases r with
  | error e => exact hx pins σ _ _ e s' I2 hq'
  | ok fl =>
    cases fl with
    | ret u =>
      obtain ⟨v, H', I3, rv, ev, q3⟩ := I2.after hq'
      subst ev
      exact ⟨rv, ⟨V.ref (s.heap.objs.size + 1), H', I3, rfl, q3⟩⟩
    | next => exact False.elim hq'
    | brk => exact False.elim hq'
    | cont => exact False.elim hq'
theorem pe_make (M : Mk X.K C f) (F : FnOk X.prog X.w X.K X.mg X.base CX k f fd ps sp) (hr : Room (k + 1) X.A) (hg : Gl X x) (hm : X.mg x = some (.ref C)) (hb : Binds X.K fd ps ds) (hd : Vals dvs ds) (hx : Passes CX X E)
    (ha : PA X (e :: es) t) (hdb : (x == ("__debug__" : Str)) = false := by decide) (he : starEach (e :: es) X.env = (false, eval e X.env) :: starEach es X.env := by rfl) (hpl : (backTo pos (starEach es X.env)).any (·.1) = false := by rfl) :
    PE X (.Call (.Name x p) (e :: es) [] pos) (tMake C sp dvs E t) := by
  intro pins s σ H Q I h
  refine wpAny_Call_Name_kw (ld_glob I hg hm ?_ hdb)
  refine PySem.W.callWith_K (h₀ := X.base) I.ok.mod.kin M.kp (thn (ha pos pins s σ H _ I h) fun us s1 ⟨vs, H1, I1, r, q⟩ => ⟨I1.kIn, ?_⟩) he hpl
  exact run_make M F hr hb hd hx I1 r q
end
section
variable {X : Cx} {CX : CXT} {k : Nat} {f C : Addr} {fd : FuncData} {ps ks : List Str} {sp : Sp} {E : XK} {x m : Str} {p pos apos kpos : Pos} {e o : Expr} {es : List Expr} {kws : List Keyword} {te ta : TE} {t tk : TA} {nm : Option Str}
variable {g : List Value → List Value → List Value} {gV : List V → List V → List V}
end
structure FnScope (N P : List Str) (sc : Scope) : Prop where
  kind : sc.kind = .function
  co : sc.isCoroutine = false
  gen : sc.isGenerator = false
  nd : N.Nodup
  pre : N.take P.length = P
  par : ∀ x ∈ P, sc.names.lookup x = some .local ∨ sc.names.lookup x = some .cell
  nofree : ∀ y ∈ sc.names, y.2 ≠ .free
theorem bindL_out {kindOf : Str → Option NameKind} {x : Str} : ∀ {binds : List (Str × Value)} {m : Str → Option Value}, (∀ v, (x, v) ∉ binds) → bindL kindOf binds m x = m x
  | [], _, _ => rfl
  | (n, v) :: r, m, h => by
    unfold bindL
    rw [bindL_out fun w hw => h w (List.mem_cons_of_mem _ hw)]
    split
    · have : x ≠ n := by rintro rfl; exact h v List.mem_cons_self
      simp [this]
    · rfl
theorem bindC_out {kindOf : Str → Option NameKind} {x : Str} : ∀ {binds : List (Str × Value)} {m : Str → Option Value}, (∀ v, (x, v) ∉ binds) → bindC kindOf binds m x = m x
  | [], _, _ => rfl
  | (n, v) :: r, m, h => by
    unfold bindC
    rw [bindC_out fun w hw => h w (List.mem_cons_of_mem _ hw)]
    split
    · rfl
    · have : x ≠ n := by rintro rfl; exact h v List.mem_cons_self
      simp [this]
theorem bindL_get {kindOf : Str → Option NameKind} {x : Str} {v : Value} : ∀ {P : List Str} {vs : List Value} {i : Nat} {m : Str → Option Value}, P.Nodup → P[i]? = some x → vs[i]? = some v → kindOf x = some .local →
    bindL kindOf (P.zip vs) m x = some v
  | [], _, _, _, _, h, _, _ => by simp at h
  | _ :: _, [], _, _, _, _, h, _ => by simp at h
  | p :: P, w :: vs, 0, m, nd, h1, h2, hk => by
    simp at h1 h2; subst h1; subst h2
    show bindL kindOf ((p, w) :: P.zip vs) m p = _
    unfold bindL
    rw [bindL_out fun v hv => (List.nodup_cons.mp nd).1 (List.of_mem_zip hv).1, if_pos hk]
    simp
  | p :: P, w :: vs, i + 1, m, nd, h1, h2, hk => by
    show bindL kindOf ((p, w) :: P.zip vs) m x = _
    unfold bindL
    exact bindL_get (i := i) (List.nodup_cons.mp nd).2 (by simpa using h1) (by simpa using h2) hk
theorem bindC_get {kindOf : Str → Option NameKind} {x : Str} {v : Value} : ∀ {P : List Str} {vs : List Value} {i : Nat} {m : Str → Option Value}, P.Nodup → P[i]? = some x → vs[i]? = some v → kindOf x ≠ some .local →
    bindC kindOf (P.zip vs) m x = some v
  | [], _, _, _, _, h, _, _ => by simp at h
  | _ :: _, [], _, _, _, _, h, _ => by simp at h
  | p :: P, w :: vs, 0, m, nd, h1, h2, hk => by
    simp at h1 h2; subst h1; subst h2
    show bindC kindOf ((p, w) :: P.zip vs) m p = _
    unfold bindC
    rw [bindC_out fun v hv => (List.nodup_cons.mp nd).1 (List.of_mem_zip hv).1, if_neg hk]
    simp
  | p :: P, w :: vs, i + 1, m, nd, h1, h2, hk => by
    show bindC kindOf ((p, w) :: P.zip vs) m x = _
    unfold bindC
    exact bindC_get (i := i) (List.nodup_cons.mp nd).2 (by simpa using h1) (by simpa using h2) hk
def start (N : List Str) (vs : List V) : St := vs.map some ++ List.replicate (N.length - vs.length) none
def cxOf (CX : CXT) (P : Program) (w : World) (K : PySem.W.Frag) (mg : Str → Option Value) (base : Heap) (N : List Str) (qual : Str) (scope : Scope) (f : Addr) (cd : Value) (A : Around) (outer : List Env) (s : Shared) (H : Hp) (E : XK) : Cx where
  prog := P
  w := w
  K := K
  mg := mg
  base := base
  A := A.deeper (envOfC qual scope s.heap.objs.size f cd)
  N := N
  s₀ := s
  H₀ := H
  env := envOfC qual scope s.heap.objs.size f cd
  outer := outer
  stack := envOfC qual scope s.heap.objs.size f cd :: outer
  ex := []
  calm := true
  fn := fun _ => true
  pn := []
  xe := fun e s' => wpAny (model P w) (A.deeper (envOfC qual scope s.heap.objs.size f cd)) (leaving (envOfC qual scope s.heap.objs.size f cd) e) (fun _ s'' => CX outer H s E e s'') (fun e' s'' => CX outer H s E e' s'') s'
theorem cell_has {sc : Scope} {n : Nat} {x : Str} (h : sc.names.lookup x = some .cell) : ∃ c, (cellsFrom n sc.names []).lookup x = some c := by
  have q := PySem.W.cellsFrom_some sc.names n [] (.inl h)
  exact Option.isSome_iff_exists.mp q
theorem inv_start {CX : CXT} {P : Program} {w : World} {K : PySem.W.Frag} {mg : Str → Option Value} {base : Heap} {N ps : List Str} {qual : Str} {scope : Scope} {f : Addr} {cd : Value} {A : Around} {outer : List Env} {s s1 : Shared} {H : Hp} {E : XK} {us : List Value} {vs : List V}
    (S : FnScope N ps scope) (hd : A.handled = none) (e0 : Env0 P w K mg base A outer s H) (hl : vs.length = ps.length) (r : Vals vs us)
    (x : InCallC s s.heap.objs.size (bindL (envOfC qual scope s.heap.objs.size f cd).kindOf (ps.zip us) fun _ => none) (cellsFrom (s.heap.objs.size + 1) scope.names []) (bindC (envOfC qual scope s.heap.objs.size f cd).kindOf (ps.zip us) fun _ => none) s1) :
    Inv (cxOf CX P w K mg base N qual scope f cd A outer s H E) [] (start N vs) H s1 := by
  have hpl : ps.length ≤ N.length := by have := congrArg List.length S.pre; rw [List.length_take] at this; omega
  obtain ⟨h1, tk, rfl, hk⟩ := x.done
  have noA : ∀ b : Addr, b ∉ (cxOf CX P w K mg base N qual scope f cd A outer s H E).ex := fun b z => absurd (show b ∈ ([] : List Addr) from z) (by simp)
  refine ⟨⟨e0.mod, S.kind, rfl, rfl, Nat.le_refl _, fun y z c h1 h2 => ?_, fun y hy => ?_, fun y c _ h => ?_, fun _ => hd, Around.frames_deeper e0.frames, .inr ⟨rfl, rfl⟩, fun b z => absurd z (noA b), e0.bs, e0.bsz, fun b _ _ => noA b, fun b z => absurd z (noA b), e0.funs, e0.frf⟩,
    rfl, e0.bare, Un.kept hk, ⟨_, x.toInCall.ns, fun i y v h1 h2 h3 => ?_⟩, fun y c h => ⟨_, x.cell y c h⟩, e0.hok.fresh (Nat.le_refl _), fun y c h => ?_, fun p hp => absurd (show p ∈ ([] : List (Addr × Obj)) from hp) (by simp), e0.hok.kept hk, ?_⟩
  · exact name_of_addr x.apart (PySem.mem_of_lookup h1) (PySem.mem_of_lookup h2)
  · have hy : scope.names.lookup y = some .cell ∨ scope.names.lookup y = some .free := hy
    rcases hy with hy | hy
    · exact cell_has hy
    · exact absurd rfl (S.nofree _ (PySem.mem_of_lookup hy))
  · exact Nat.le_of_lt (x.above y c (PySem.mem_of_lookup h))
  · have hi : i < vs.length := by
      unfold start at h2
      by_cases hi : i < vs.length
      · exact hi
      · rw [List.getElem?_append_right (by simpa using hi)] at h2
        rw [List.getElem?_replicate] at h2
        split at h2 <;> cases h2
    have ha : vs[i]? = some v := by
      unfold start at h2
      rw [List.getElem?_append_left (by simpa using hi), List.getElem?_map] at h2
      cases e : vs[i]? with
      | none => rw [e] at h2; cases h2
      | some a => rw [e] at h2; cases h2; rfl
    obtain ⟨u, hu, rv⟩ := r.get ha
    have hp : ps[i]? = some y := by
      rw [← S.pre, List.getElem?_take_of_lt (by omega)]; exact h1
    have ndP : ps.Nodup := by rw [← S.pre]; exact S.nd.sublist (List.take_sublist _ _)
    refine ⟨u, rv, ?_⟩
    rcases S.par y (List.mem_of_getElem? hp) with k | k
    · exact .inl ⟨k, bindL_get ndP hp hu k⟩
    · obtain ⟨c, e⟩ := cell_has (n := s.heap.objs.size + 1) k
      refine .inr ⟨.inl k, c, e, ?_⟩
      have q := x.cell y c e
      rw [bindC_get ndP hp hu (by show scope.names.lookup y ≠ _; rw [k]; decide)] at q
      exact q
  · exact e0.hok.fresh (Nat.le_of_lt (x.above y c (PySem.mem_of_lookup h)))
  · unfold start
    show _ = N.length
    rw [List.length_append, List.length_map, List.length_replicate]
    omega
theorem fn_of {CX : CXT} {P : Program} {w : World} {K : PySem.W.Frag} {mg : Str → Option Value} {base : Heap} {k : Nat} {f : Addr} {name qual : Str} {params : Arguments} {body : List Stmt} {scope : Scope} {dV kV doc pm cdv ct oc : Value} {an od : Option Addr}
    {osl : Array (Option Value)} {N ps : List Str} {sp : Sp} (lk : K.lookup f = some ⟨oc, od, .func (PySem.W.fnOf name qual params body scope dV kV doc pm an cdv ct), osl⟩) (hcd : PySem.W.codeIn K cdv qual = true) (S : FnScope N ps scope)
    (len : ∀ vs H Q E, sp vs H Q E → vs.length = ps.length)
    (hbody : ∀ (A : Around) (outer : List Env) (s : Shared) (H : Hp) (vs : List V) (Q : VK) (E : XK), Room k (A.deeper (envOfC qual scope s.heap.objs.size f cdv)) → sp vs H Q E →
      ∃ t, PSs (cxOf CX P w K mg base N qual scope f cdv A outer s H E) body t ∧ t { nx := fun _ H' => Q .non H', rt := Q } (start N vs) H) :
    FnOk P w K mg base CX (k + 1) f (PySem.W.fnOf name qual params body scope dV kV doc pm an cdv ct) ps sp := by
  refine ⟨len, fun A outer s H args us vs Q E hr e0 hb r hsp => ?_⟩
  have hl := len _ _ _ _ hsp
  have KX : K.In s.heap := e0.mod.kin.keeps fun b o e => (e0.bs b o e).1
  have lim : s.heap.NoLimit := e0.mod.nolimit.keeps fun b o e => (e0.bs b o e).1
  have hkind : ∀ y ∈ ps.zip us, scope.names.lookup y.1 = some .local ∨ (scope.names.lookup y.1 = some .cell ∧ ((cellsFrom (s.heap.objs.size + 1) scope.names []).lookup y.1).isSome = true) := fun ⟨n, v⟩ hy => by
    rcases S.par n (List.of_mem_zip hy).1 with q | q
    · exact .inl q
    · exact .inr ⟨q, PySem.W.cellsFrom_some _ _ _ (.inl q)⟩
  refine codeAny_call_function hr.depth (KX _ _ lk) rfl S.co S.gen rfl (PySem.W.codeRec_of KX hcd) (hb _ _ _ _ ?_)
  refine wpAny_newFunctionEnv_cells S.kind hkind fun env he s1 x => ?_
  subst he
  refine ⟨lim.keeps x.toInCall.keep, codeAny_func ?_⟩
  obtain ⟨t, ht, hq⟩ := hbody A outer s H vs Q E (hr.deeper _) hsp
  have I : Inv (cxOf CX P w K mg base N qual scope f cdv A outer s H E) [] (start N vs) H s1 := inv_start S hr.hd e0 hl r x
  refine wpAny_mono (ht [] s1 (start N vs) H _ I hq) (fun fl s' hs => ?_) fun e s' hs => hs
  have fin : ∀ {σ' : St} {H' : Hp} {v : V} {u : Value}, Inv (cxOf CX P w K mg base N qual scope f cdv A outer s H E) [] σ' H' s' → RelV v u → Q v H' → CE outer P w H s Q u s' :=
    fun {σ' H' v u} J rv q => ⟨v, H', J.os, J.bare, J.base, J.hok, rv, q⟩
  cases fl with
  | ret u =>
    obtain ⟨v, σ', H', J, rv, q⟩ := hs
    exact fin J rv q
  | next =>
    obtain ⟨σ', H', J, q⟩ := hs
    exact fin (v := V.non) (u := Value.none) J rfl q
  | brk =>
    obtain ⟨_, _, _, q⟩ := hs
    exact False.elim q
  | cont =>
    obtain ⟨_, _, _, q⟩ := hs
    exact False.elim q
end L2
namespace L2
open PySem PySem.Spec PyProof.Rows
section
variable {X : Cx} {x : Str} {p pos : Pos} {e : Expr} {es : List Expr} {t : TA} {id T : String} {r : List V → Hp → VK → Prop}
def tCB (r : List V → Hp → VK → Prop) (t : TA) : TE := fun σ H Q => t σ H fun vs H1 => r vs H1 Q
theorem pe_callB (hc : CallR X (.builtin id) r) (hg : Gl X x) (hm : X.mg x = none) (hv : bootBuiltins x = some (.builtin id)) (ha : PA X (e :: es) t) (hn : x ≠ "__name__" := by decide) (hdb : (x == ("__debug__" : Str)) = false := by decide)
    (he : starEach (e :: es) X.env = (false, eval e X.env) :: starEach es X.env := by rfl) (hpl : (backTo pos (starEach es X.env)).any (·.1) = false := by rfl) : PE X (.Call (.Name x p) (e :: es) [] pos) (tCB r t) := by
  intro pins s σ H Q I h
  refine wpAny_Call_Name_kw (ld_blt I hg hm hv ?_ hn hdb)
  exact PyProof.Rows.callWith_builtin1 (thn (ha pos pins s σ H _ I h) fun us s1 ⟨vs, H1, I1, r1, q1⟩ => hc pins s1 σ H1 vs us Q I1 r1 q1) he hpl
theorem pe_callTy (hc : CallR X (.type T) r) (hg : Gl X x) (hm : X.mg x = none) (hv : bootBuiltins x = some (.type T)) (ha : PA X (e :: es) t) (hn : x ≠ "__name__" := by decide) (hdb : (x == ("__debug__" : Str)) = false := by decide)
    (he : starEach (e :: es) X.env = (false, eval e X.env) :: starEach es X.env := by rfl) (hpl : (backTo pos (starEach es X.env)).any (·.1) = false := by rfl) : PE X (.Call (.Name x p) (e :: es) [] pos) (tCB r t) := by
  intro pins s σ H Q I h
  refine wpAny_Call_Name_kw (ld_blt I hg hm hv ?_ hn hdb)
  exact PyProof.Rows.callWith_type1 (thn (ha pos pins s σ H _ I h) fun us s1 ⟨vs, H1, I1, r1, q1⟩ => hc pins s1 σ H1 vs us Q I1 r1 q1) he hpl
end
end L2
namespace HT
open PySem PyProof.Rows
def lexLt : List Int → List Int → Bool
  | [], [] => false
  | [], _ :: _ => true
  | _ :: _, [] => false
  | x :: xs, y :: ys => if x = y then lexLt xs ys else decide (x < y)
theorem lexLt_cons (x y : Int) (xs ys : List Int) : lexLt (x :: xs) (y :: ys) = if x = y then lexLt xs ys else decide (x < y) := rfl
theorem lexLt_nil_nil : lexLt [] [] = false := rfl
theorem lexLt_nil_cons (y : Int) (ys : List Int) : lexLt [] (y :: ys) = true := rfl
theorem lexLt_cons_nil (x : Int) (xs : List Int) : lexLt (x :: xs) [] = false := rfl
theorem eqAt_int (A : Around) (s : Shared) (a : Int) (t : Tok) (c : Int) (u : Tok) : ∃ e, SeqAt.EqAt A s (.int a t) (.int c u) e ∧ (e = true ↔ a = c) :=
  ⟨(a == c), SeqAt.EqAt.int_int a t c u, by simp⟩
theorem rcLt_int (A : Around) (s : Shared) (a : Int) (t : Tok) (c : Int) (u : Tok) (prog : Program) (w : World) (E : Value → Shared → Prop) (Q : Value → Shared → Prop) (h : Q (.bool (decide (a < c))) s) :
    wpAny (model prog w) A (richCompare .Lt (.int a t) (.int c u)) Q E s :=
  (PyProof.Rows.lt_int h : wpAny (model prog w) A (compareOp .Lt (.int a t) (.int c u)) Q E s)
section
open PySem.SeqAt
open PySem.AutoSeq1 (wpAny_loadPart')
open PySem.MeetsSeq PySem.MeetsSeq2 PySem.MeetsSeq3
theorem tuple_lt_ints (l b : Addr) (items items2 : Array Value) (n n2 : Nat) (dd dd2 : Option Addr) (sl sl2 : Array (Option Value)) (ns ms : List Int) (hi : IntsAre items.toList ns) (hj : IntsAre items2.toList ms) :
    Meets (Builtin.«tuple.__lt__» ⟨[.ref l, .ref b], []⟩)
      (fun _ R s => s.heap.get? l = some { cls := .type "tuple", dict := dd, data := .seq items n, slots := sl } ∧ s.heap.get? b = some { cls := .type "tuple", dict := dd2, data := .seq items2 n2, slots := sl2 } ∧
        R (.ok (.ret (.bool (lexLt ns ms)))) s) :=
  .of_wp fun prog w A R s h => by
    obtain ⟨hp, g, d, tk, os⟩ := s; obtain ⟨hl, hb, h⟩ := h
    have f2 := AutoSeq1.sub_tuple_tuple
    have z1 : items.size = ns.length := by rw [← hi.length]; simp
    have z2 : items2.size = ms.length := by rw [← hj.length]; simp
    wp_walk using wpAny_loadPart' hl, wpAny_loadPart' hb, wpAny_forIn_list _ (fun rest b s' => b.1 = none ∧ s' = ⟨hp, g, d, tk, os⟩ ∧ ∃ (vs ws : List Value) (ns' ms' : List Int), rest = vs.zip ws ∧
      IntsAre vs ns' ∧ IntsAre ws ms' ∧ ns'.length + items2.size = ms'.length + items.size ∧ R (.ok (.ret (.bool (lexLt ns' ms')))) ⟨hp, g, d, tk, os⟩) _
    case turn =>
      rintro ⟨y, x⟩ rest b s' ⟨hb', rfl, vs, ws, ns', ms', hz, hvi, hwi, hlen, hR⟩
      cases hvi with
      | nil => rw [List.zip_nil_left] at hz; cases hz
      | cons a t hvi' =>
        cases hwi with
        | nil => rw [List.zip_nil_right] at hz; cases hz
        | cons c u hwi' =>
          rw [List.zip_cons_cons] at hz
          injection hz with hyx hrest
          injection hyx with hy hx
          subst hy hx
          rw [lexLt_cons] at hR
          simp only [List.length_cons] at hlen
          obtain ⟨e, he, hiff⟩ := eqAt_int A.in1 ⟨hp, g, d, tk, os⟩ a t c u
          refine wpAny_bind (he prog w _ _ ?_)
          cases e with
          | true =>
            rw [if_pos (hiff.mp rfl)] at hR
            wp_walk
            exact ⟨rfl, rfl, _, _, _, _, hrest, hvi', hwi', by omega, hR⟩
          | false =>
            rw [if_neg (fun q => absurd (hiff.mpr q) Bool.false_ne_true)] at hR
            have hri := rcLt_int A.in1 ⟨hp, g, d, tk, os⟩ a t c u prog w
            wp_walk using hri
            exact ⟨_, rfl, by simpa using hR⟩
    case fin =>
      rintro ⟨b1, b2⟩ s' ⟨hb', rfl, vs, ws, ns', ms', hz, hvi, hwi, hlen, hR⟩
      simp only at hb'
      subst hb'
      have hv : lexLt ns' ms' = decide (items.size < items2.size) := by
        cases hvi with
        | nil =>
          cases hwi with
          | nil =>
            simp only [List.length_nil] at hlen
            rw [lexLt_nil_nil]
            exact (decide_eq_false (by omega)).symm
          | cons c u hw =>
            simp only [List.length_nil, List.length_cons] at hlen
            rw [lexLt_nil_cons]
            exact (decide_eq_true (by omega)).symm
        | cons a t hv =>
          cases hwi with
          | nil =>
            simp only [List.length_nil, List.length_cons] at hlen
            rw [lexLt_cons_nil]
            exact (decide_eq_false (by omega)).symm
          | cons c u hw =>
            rw [List.zip_cons_cons] at hz
            cases hz
      rw [hv] at hR
      wp_walk
      exact ⟨_, rfl, by simpa [Builtin.Tuple.tupleCompareSizes] using hR⟩
    case h =>
      exact ⟨rfl, rfl, items.toList, items2.toList, ns, ms, rfl, hi, hj, by omega, h⟩
end
section
variable {prog : Program} {w : World} {A : Around} {E : Value → Shared → Prop} {s : Shared}
theorem lt_tupInts {l b : Addr} {items items2 : Array Value} {ns ms : List Int} {Q : Value → Shared → Prop} (hl : IsTup s.heap l items) (hb : IsTup s.heap b items2) (hi : IntsAre items.toList ns) (hj : IntsAre items2.toList ms)
    (hu : A.units < cLine) (h : Q (.bool (lexLt ns ms)) s) : wpAny (model prog w) A (compareOp .Lt (.ref l) (.ref b)) Q E s := by
  obtain ⟨⟨cls, dd, data, sl⟩, ho, hc, n, hd⟩ := id hl
  obtain ⟨⟨cls2, dd2, data2, sl2⟩, ho2, hc2, n2, hd2⟩ := id hb
  simp only at hc hd hc2 hd2
  subst hc hd hc2 hd2
  exact richCompare_meets_room (op := .Lt) ⟨_, ho, rfl⟩ ⟨_, ho2, rfl⟩ PySem.F.slot_tuple_lt PySem.F.entry_tuple_lt (PySem.F.args_tuple_lt_2 _ _) (tuple_lt_ints l b items items2 n n2 dd dd2 sl sl2 ns ms hi hj)
    ⟨ho, ho2, show Value.bool (lexLt ns ms) ≠ Value.notImplemented ∧ Q (.bool (lexLt ns ms)) s from ⟨(fun x => nomatch x), h⟩⟩ hu
def sIx (n d : Nat) : Option Int → Nat
  | none => d
  | some v => if v < 0 then (v + (n : Int)).toNat else min v.toNat n
theorem sIx_none (n d : Nat) : sIx n d none = d := rfl
theorem sIx_nat (n d k : Nat) : sIx n d (some (k : Int)) = min k n := by
  show (if (k : Int) < 0 then ((k : Int) + (n : Int)).toNat else min (k : Int).toNat n) = min k n
  rw [if_neg (by omega), Int.toNat_natCast]
theorem sIx_le (n d : Nat) (hd : d ≤ n) (o : Option Int) : sIx n d o ≤ n := by
  cases o with
  | none => exact hd
  | some v =>
    show (if v < 0 then (v + (n : Int)).toNat else min v.toNat n) ≤ n
    by_cases hv : v < 0
    · rw [if_pos hv]; omega
    · rw [if_neg hv]; exact Nat.min_le_right _ _
theorem clip_eq (v : Int) (n d : Nat) : (if v < 0 then max (v + (n : Int)) 0 else min v (n : Int)) = ((sIx n d (some v) : Nat) : Int) := by
  show (if v < 0 then max (v + (n : Int)) 0 else min v (n : Int)) = (((if v < 0 then (v + (n : Int)).toNat else min v.toNat n) : Nat) : Int)
  by_cases hv : v < 0
  · simp only [if_pos hv]; omega
  · simp only [if_neg hv]; omega
theorem adjust_gen (lo hi : Option Int) (n : Nat) : Builtin.Slice.sliceAdjust lo hi 1 (n : Int) = (((sIx n 0 lo : Nat) : Int), ((sIx n n hi : Nat) : Int)) := by
  have h1 : ¬ ((1 : Int) < 0) := by omega
  unfold Builtin.Slice.sliceAdjust
  simp only [h1, if_false]
  refine Prod.ext ?_ ?_
  · cases lo with
    | none => rfl
    | some v => exact clip_eq v n 0
  · cases hi with
    | none => rfl
    | some v => exact clip_eq v n n
theorem places_gen (i j : Nat) : Builtin.Slice.slicePlaces (i : Int) (j : Int) 1 = j - i := by
  unfold Builtin.Slice.slicePlaces
  have h1 : (1 : Int) > 0 := by omega
  simp only [h1, if_true, Int.ediv_one]
  split <;> omega
theorem slicePart_ {v : Value} {o : Option Int} {Q : Option Int → Shared → Prop} (p : IsPart v o) (h : Q o s) : wpAny (model prog w) A (Builtin.Slice.slicePartIndex v) Q E s := by
  cases p with
  | none => exact slicePart_none h
  | int i t => exact slicePart_int h
theorem sliceApplied_gen {sl : Addr} {vl vu : Value} {lo hi : Option Int} {n : Nat} {Q : Int × Int × Nat → Shared → Prop} (hs : s.heap.IsSliceOf sl vl vu .none) (pl : IsPart vl lo) (pu : IsPart vu hi)
    (h : Q (((sIx n 0 lo : Nat) : Int), 1, sIx n n hi - sIx n 0 lo) s) : wpAny (model prog w) A (Builtin.Slice.sliceApplied (.ref sl) (pure (n : Int))) Q E s := by
  obtain ⟨os, hos, hcs, hds⟩ := id hs
  unfold Builtin.Slice.sliceApplied Builtin.Slice.sliceFields
  refine wpAny_bind (wpAny_bind (wpAny_field hos hds (x := vl) rfl (wpAny_bind (wpAny_field hos hds (x := vu) rfl (wpAny_bind (wpAny_field hos hds (x := .none) rfl (wpAny_pure ?_)))))))
  refine wpAny_bind (slicePart_none ?_)
  show wpAny _ _ (if ((1 : Int) == 0) = true then _ else _) _ _ s
  rw [if_neg (by decide)]
  refine wpAny_bind (slicePart_ pl (wpAny_bind (slicePart_ pu (wpAny_bind (wpAny_pure ?_)))))
  show wpAny _ _ (match Builtin.Slice.sliceAdjust lo hi 1 (n : Int) with | (lo, hi) => pure (lo, (1 : Int), Builtin.Slice.slicePlaces lo hi 1)) _ _ s
  rw [adjust_gen lo hi n]
  show wpAny _ _ (pure (((sIx n 0 lo : Nat) : Int), (1 : Int), Builtin.Slice.slicePlaces ((sIx n 0 lo : Nat) : Int) ((sIx n n hi : Nat) : Int) 1)) _ _ s
  rw [places_gen]
  exact wpAny_pure h
theorem pick_gen (xs : Array Value) (i k : Nat) : ((List.range k).filterMap fun (m : Nat) => xs[((i : Int) + (m : Int) * 1).toNat]?).toArray = ((xs.toList.drop i).take k).toArray := by
  have e : (fun (m : Nat) => xs[((i : Int) + (m : Int) * 1).toNat]?) = fun m => xs[i + m]? := by
    funext m
    have : ((i : Int) + (m : Int) * 1).toNat = i + m := by omega
    rw [this]
  rw [e]
  have := pick_run xs i k
  rw [List.filterMap_map] at this
  have e2 : ((fun x => xs[x]?) ∘ fun x => i + x) = fun m => xs[i + m]? := rfl
  rw [e2] at this
  rw [this]
theorem getItem_tuple_cut {t sl : Addr} {items : Array Value} {vl vu : Value} {lo hi : Option Int} {Q : Value → Shared → Prop} (ht : IsTup s.heap t items) (hs : s.heap.IsSliceOf sl vl vu .none) (pl : IsPart vl lo) (pu : IsPart vu hi)
    (hw : ¬ (sIx items.size 0 lo = 0 ∧ sIx items.size items.size hi = items.size))
    (h : Q (.ref s.heap.objs.size) { s with heap := s.heap.push { cls := .type "tuple", data := .seq ((items.toList.drop (sIx items.size 0 lo)).take (sIx items.size items.size hi - sIx items.size 0 lo)).toArray } })
    (hsz : items.size ≤ sizeLine) : wpAny (model prog w) A (getItem (.ref t) (.ref sl)) Q E s := by
  have htake : sizeOk (.seq ((items.toList.drop (sIx items.size 0 lo)).take (sIx items.size items.size hi - sIx items.size 0 lo)).toArray) := by
    show ((items.toList.drop (sIx items.size 0 lo)).take (sIx items.size items.size hi - sIx items.size 0 lo)).toArray.size ≤ sizeLine
    rw [List.size_toArray, List.length_take, List.length_drop, Array.length_toList]
    omega
  have hj : sIx items.size items.size hi ≤ items.size := sIx_le _ _ (Nat.le_refl _) hi
  obtain ⟨os, hos, hcs, hds⟩ := id hs
  have hTs : s.TypeIs (.ref sl) "slice" := ⟨os, hos, hcs⟩
  unfold getItem
  try with_reducible refine wpAny_holding ?_
  first | refine wpAny_bind (wpAny_pure ?_) | skip
  refine wpAny_bind (wpAny_sequenceKey ht.typeIs (by decide) ?_)
  refine wpAny_bind (wpAny_callSpecial?_slot (name := Str.ofString "__getitem__") ht.typeIs PyProof.Rows.slot_tuple_getitem
    (wpAny_call_entry PyProof.Rows.slot_tuple_getitem ht.typeIs entry_tuple_getitem ?_ (args_tuple_getitem _ _)))
  show wpAny _ _ (Builtin.Tuple.tupleItemsOf (.ref t) >>= _) _ _ s
  refine wpAny_bind (tupleItemsOf_ ht ?_)
  refine wpAny_bind (wpAny_typeOf hTs ?_)
  rw [if_pos (by decide)]
  refine wpAny_bind (sliceApplied_gen hs pl pu ?_)
  have hno : ¬ ((((sIx items.size 0 lo : Nat) : Int) == 0 && (1 : Int) == 1 && (sIx items.size items.size hi - sIx items.size 0 lo) == items.size) = true) := by
    intro q
    rw [Bool.and_eq_true, Bool.and_eq_true] at q
    have q1 : ((sIx items.size 0 lo : Nat) : Int) = 0 := eq_of_beq q.1.1
    have q2 : sIx items.size items.size hi - sIx items.size 0 lo = items.size := eq_of_beq q.2
    exact hw ⟨by omega, by omega⟩
  show wpAny _ _ (if (((sIx items.size 0 lo : Nat) : Int) == 0 && (1 : Int) == 1 && (sIx items.size items.size hi - sIx items.size 0 lo) == items.size) = true then _ else _) _ _ s
  rw [if_neg hno, pick_gen]
  first
    | exact wpAny_bind (m := Builtin.Tuple.tupleExact _) (wpAny_newObj_type (wpAny_pure ⟨_, rfl, wpAny_pure h⟩) htake)
    | exact wpAny_bind (m := Builtin.Tuple.tupleExact _) (wpAny_newObj_type (wpAny_bind (wpAny_pure (wpAny_pure ⟨_, rfl, wpAny_pure h⟩))) htake)
    | exact wpAny_bind (wpAny_bind (m := Builtin.Tuple.tupleExact _) (wpAny_newObj_type (wpAny_pure (wpAny_pure ⟨_, rfl, wpAny_pure h⟩)) htake))
    | exact wpAny_bind (wpAny_bind (m := Builtin.Tuple.tupleExact _) (wpAny_newObj_type (wpAny_pure ⟨_, rfl, wpAny_pure h⟩) htake))
end
end HT
namespace L2
open PySem PySem.Spec PyProof.Rows
abbrev TO := St → Hp → (Option Int → Hp → Prop) → Prop
def PO (X : Cx) (e : Option Expr) (t : TO) : Prop :=
  ∀ (pins : List (Addr × Obj)) (s : Shared) (σ : St) (H : Hp) (Q : Option Int → Hp → Prop), Inv X pins σ H s → t σ H Q →
    wpAny (model X.prog X.w) X.A (evalPart e X.env) (fun u s' => ∃ o H', Inv X pins σ H' s' ∧ IsPart u o ∧ Q o H') X.xe s
def tNoPart : TO := fun _ H Q => Q none H
def tPart (t : TE) : TO := fun σ H Q => t σ H fun x H1 => ∃ i, x = .int i ∧ Q (some i) H1
theorem intsAre_of {ns : List Int} : ∀ {us : List Value}, Vals (ns.map V.int) us → IntsAre us ns := by
  induction ns with
  | nil => intro us r; rw [List.map_nil] at r; cases r; exact .nil
  | cons n ns ih =>
    intro us r
    rw [List.map_cons] at r
    cases r with
    | cons r1 r2 =>
      obtain ⟨t, e⟩ := r1
      subst e
      exact .cons n t (ih r2)
section
variable {X : Cx} {e : Expr} {te : TE} {lo hi : Option Expr} {tl th : TO} {pos p2 : Pos}
theorem po_none : PO X none tNoPart := by
  intro pins s σ H Q I h
  rw [evalPart_none]
  exact wpAny_pure ⟨none, H, I, .none, h⟩
theorem po_some (h : PE X e te) : PO X (some e) (tPart te) := by
  intro pins s σ H Q I hw
  rw [evalPart_some]
  refine thn (h pins s σ H _ I hw) fun u s1 ⟨x, H1, I1, r1, q1⟩ => ?_
  obtain ⟨i, rfl, q⟩ := q1
  obtain ⟨t, rfl⟩ := r1
  exact ⟨some i, H1, I1, .int i t, q⟩
def SlR (X : Cx) (r : V → Option Int → Option Int → Hp → VK → Prop) : Prop :=
  ∀ (pins : List (Addr × Obj)) (s : Shared) (σ : St) (H : Hp) (x : V) (v vl vu : Value) (lo hi : Option Int) (sl : Addr) (Q : VK), Inv X pins σ H s → RelV x v → s.heap.IsSliceOf sl vl vu .none → IsPart vl lo → IsPart vu hi → r x lo hi H Q →
    ∃ T id, typeLookup (.type T) "__getitem__" = pure (some (.builtin id)) ∧ s.TypeIs v T ∧ wpAny (model X.prog X.w) X.A (getItem v (.ref sl)) (EP X pins σ Q) X.xe s
def tSl (r : V → Option Int → Option Int → Hp → VK → Prop) (te : TE) (tl th : TO) : TE := fun σ H Q => te σ H fun x H1 => tl σ H1 fun l H2 => th σ H2 fun u H3 => r x l u H3 Q
theorem pe_slice {r : V → Option Int → Option Int → Hp → VK → Prop} (hr : SlR X r) (he : PE X e te) (hl : PO X lo tl) (hu : PO X hi th) : PE X (.Subscript e (.Slice lo hi none p2) pos) (tSl r te tl th) := by
  intro pins s σ H Q I h
  refine Subscript_ (thn (he pins s σ H _ I h) fun v s1 ⟨x, H1, I1, r1, q1⟩ => ?_)
  refine wpAny_Slice (thn (hl pins s1 σ H1 _ I1 q1) fun vl s2 ⟨l, H2, I2, pl, q2⟩ => thn (hu pins s2 σ H2 _ I2 q2) fun vu s3 ⟨u, H3, I3, pu, q3⟩ => ?_)
  rw [evalPart_none]
  refine wpAny_pure ?_
  have I4 : Inv X pins σ H3 { s3 with heap := s3.heap.push { cls := .type "slice", data := .fields #[vl, vu, .none] } } := I3.kept (t' := s3.toks) fun b ob q => Heap.get?_push_of_some _ q
  obtain ⟨T, id, hT, ht, hg⟩ := hr pins { s3 with heap := s3.heap.push { cls := .type "slice", data := .fields #[vl, vu, .none] } } σ H3 x v vl vu l u s3.heap.objs.size Q I4 r1 (Heap.IsSliceOf.new ..) pl pu q3
  show wpAny (model X.prog X.w) X.A (subscriptTail e (.Slice lo hi none p2) v (.ref s3.heap.objs.size)) (EP X pins σ Q) X.xe { s3 with heap := s3.heap.push { cls := .type "slice", data := .fields #[vl, vu, .none] } }
  exact tail_any (ops := [.ref s3.heap.objs.size, v]) ht hT hg (by with_unfolding_all rfl)
def cutV (xs : List V) (lo hi : Option Int) : List V := (xs.drop (HT.sIx xs.length 0 lo)).take (HT.sIx xs.length xs.length hi - HT.sIx xs.length 0 lo)
theorem cutV_length (xs : List V) (lo hi : Option Int) : (cutV xs lo hi).length ≤ xs.length := by
  unfold cutV
  rw [List.length_take, List.length_drop]
  omega
def rSlT (K : PySem.W.Frag) : V → Option Int → Option Int → Hp → VK → Prop := fun x lo hi H Q => ∃ a xs, x = .ref a ∧ SqT K H a xs ∧
  ¬ (HT.sIx xs.length 0 lo = 0 ∧ HT.sIx xs.length xs.length hi = xs.length) ∧ ∀ p, H p = none → Q (.ref p) (upd H p (.tup (cutV xs lo hi)))
theorem sl_tup : SlR X (rSlT X.K) := by
  intro pins s σ H x v vl vu lo hi sl Q I rx hs pl pu h
  obtain ⟨a, xs, rfl, hx, hw, q⟩ := h
  cases rx
  obtain ⟨its, r, ht, hz⟩ := I.tuple hx
  have hlen : its.toArray.size = xs.length := by rw [List.size_toArray]; exact r.length.symm
  refine ⟨"tuple", _, PyProof.Rows.slot_tuple_getitem.lookup, ht.typeIs, ?_⟩
  refine HT.getItem_tuple_cut ht hs pl pu (by rw [hlen]; exact hw) ?_ (by rw [hlen]; exact hz)
  rw [hlen]
  refine ⟨.ref s.heap.objs.size, _, I.laid (t' := s.toks) (o := .tup (cutV xs lo hi)) (fun b ob q => Heap.get?_push_of_some _ q) (Nat.le_refl _) ?_, rfl, q _ (I.hok.fresh (Nat.le_refl _))⟩
  exact ⟨Nat.le_trans (cutV_length xs lo hi) hz, _, (r.drop (HT.sIx xs.length 0 lo)).take (HT.sIx xs.length xs.length hi - HT.sIx xs.length 0 lo), IsTup.new _ _⟩
end
end L2
namespace L2
open PySem PySem.Spec PyProof.Rows
def ixN (n : Nat) (i : Int) : Option Nat := if 0 ≤ i then (if i < n then some i.toNat else none) else if -(n : Int) ≤ i then some (i + n).toNat else none
def atI {α : Type} (xs : List α) (i : Int) : Option α := (ixN xs.length i).bind fun j => xs[j]?
theorem ixN_seq {n : Nat} {i : Int} {j : Nat} (h : ixN n i = some j) : seqIndex? i n = some j ∧ j < n ∧ -(n : Int) ≤ i ∧ i < n := by
  unfold ixN at h
  by_cases h0 : 0 ≤ i
  · rw [if_pos h0] at h
    by_cases h1 : i < n
    · rw [if_pos h1] at h
      have e : i.toNat = j := Option.some.inj h
      exact ⟨by rw [seqIndex_of h0 h1, e], by omega, by omega, h1⟩
    · rw [if_neg h1] at h; cases h
  · rw [if_neg h0] at h
    by_cases h1 : -(n : Int) ≤ i
    · rw [if_pos h1] at h
      have e : (i + n).toNat = j := Option.some.inj h
      exact ⟨by rw [seqIndex_neg (by omega) h1, e], by omega, h1, by omega⟩
    · rw [if_neg h1] at h; cases h
theorem atI_get {α : Type} {xs : List α} {i : Int} {v : α} (h : atI xs i = some v) : ∃ j, seqIndex? i xs.length = some j ∧ xs[j]? = some v ∧ j < xs.length ∧ -(xs.length : Int) ≤ i ∧ i < xs.length := by
  unfold atI at h
  cases e : ixN xs.length i with
  | none => rw [e] at h; cases h
  | some j =>
    rw [e] at h
    obtain ⟨h1, h2, h3, h4⟩ := ixN_seq e
    exact ⟨j, h1, h, h2, h3, h4⟩
theorem atI_nat {α : Type} {xs : List α} {j : Nat} {v : α} (h : xs[j]? = some v) : atI xs (j : Int) = some v := by
  have hj : j < xs.length := (List.getElem?_eq_some_iff.mp h).1
  have e : ixN xs.length (j : Int) = some j := by
    unfold ixN
    rw [if_pos (by omega), if_pos (by omega)]; simp
  unfold atI; rw [e]; exact h
def PlainIx (b : Expr) : Prop := ∀ o i, subscripted b false o i = operate [o, i] (getItem o i)
def IxR (X : Cx) (r : R2) : Prop :=
  ∀ (value slice : Expr) (pins : List (Addr × Obj)) (s : Shared) (σ : St) (H : Hp) (x y : V) (v u : Value) (Q : VK), Inv X pins σ H s → RelV x v → RelV y u → r x y H Q →
    subscripted slice false v u = operate [v, u] (getItem v u) → wpAny (model X.prog X.w) X.A (subscriptTail value slice v u) (EP X pins σ Q) X.xe s
def MtR (X : Cx) (id : String) (r : V → List V → Hp → VK → Prop) : Prop :=
  ∀ (pins : List (Addr × Obj)) (s : Shared) (σ : St) (H : Hp) (x : V) (xs : List V) (v : Value) (us : List Value) (Q : VK), Inv X pins σ H s → RelV x v → Vals xs us → r x xs H Q →
    wpAny (model X.prog X.w) X.A (call (.builtin id) (v :: us)) (EP X pins σ Q) X.xe s
section
variable {X : Cx} {a b : Expr} {ta tb : TE} {pos : Pos}
theorem pe_ix {r : R2} (hr : IxR X r) (ha : PE X a ta) (hb : PE X b tb) (hs : PlainIx b) : PE X (.Subscript a b pos) (tOp r ta tb) := by
  intro pins s σ H Q I h
  exact Subscript_ (binT ha hb I h fun v u s2 x y H2 I2 rx ry q => hr a b pins s2 σ H2 x y v u Q I2 rx ry q (hs _ _))
def rIxL (K : PySem.W.Frag) : R2 := fun x y H Q => ∃ p xs i v, x = .ref p ∧ y = .int i ∧ SqL K H p xs ∧ atI xs i = some v ∧ Q v H
def rIxT (K : PySem.W.Frag) : R2 := fun x y H Q => ∃ p xs i v, x = .ref p ∧ y = .int i ∧ SqT K H p xs ∧ atI xs i = some v ∧ Q v H
theorem ix_list : IxR X (rIxL X.K) := by
  intro value slice pins s σ H x y v u Q I rx ry h hs
  obtain ⟨p, xs, i, z, rfl, rfl, hq, he, q⟩ := h
  cases rx
  obtain ⟨t, rfl⟩ := ry
  obtain ⟨its, r, pl, hz⟩ := I.list hq
  obtain ⟨j, h1, h2, h3, h4, h5⟩ := atI_get he
  obtain ⟨w, ew, rw'⟩ := r.get h2
  have hl := r.length
  have hn := line63
  have fin : EP X pins σ Q w s := ⟨z, H, I, rw', q⟩
  by_cases h0 : 0 ≤ i
  · have hj : i.toNat = j := by
      rw [seqIndex_of h0 h5] at h1
      exact Option.some.inj h1
    exact item_listR pl.isList h0 (by omega) (by rw [hj]; simpa using ew) fin hs
  · have hj : (i + (its.toArray.size : Int)).toNat = j := by
      rw [seqIndex_neg (by omega) h4] at h1
      rw [List.size_toArray, ← hl]
      exact Option.some.inj h1
    exact subscriptTail_builtinR (x := w) pl.isList.typeIs slot_list_getitem.lookup
      (wpAny_getItem_list_neg (Q := fun r s' => r = w ∧ EP X pins σ Q r s') pl.isList (by omega) (by rw [List.size_toArray] <;> omega) (by omega) (by rw [hj]; simpa using ew) ⟨rfl, fin⟩) hs
theorem ix_tup : IxR X (rIxT X.K) := by
  intro value slice pins s σ H x y v u Q I rx ry h hs
  obtain ⟨p, xs, i, z, rfl, rfl, hq, he, q⟩ := h
  cases rx
  obtain ⟨t, rfl⟩ := ry
  obtain ⟨its, r, pl, hz⟩ := I.tuple hq
  obtain ⟨j, h1, h2, h3, h4, h5⟩ := atI_get he
  obtain ⟨w, ew, rw'⟩ := r.get h2
  have hl := r.length
  have hn := line63
  have fin : EP X pins σ Q w s := ⟨z, H, I, rw', q⟩
  exact subscriptTail_builtinR (x := w) pl.typeIs slot_tuple_getitem.lookup
    (getItem_tuple (j := j) (Q := fun r s' => r = w ∧ EP X pins σ Q r s') pl (by omega) (by omega) (by rw [List.size_toArray, ← hl]; exact h1) (by simpa using ew) ⟨rfl, fin⟩) hs
theorem mapSeq_set (its : List Value) (n j : Nat) (u : Value) : Obj.mapSeq (·.setIfInBounds j u) { cls := .type "list", data := .seq its.toArray n } = { cls := .type "list", data := .seq (its.set j u).toArray n } := by
  simp [Obj.mapSeq]
theorem Inv.lst {pins : List (Addr × Obj)} {σ : St} {H : Hp} {s : Shared} {p : Addr} {xs : List V} (I : Inv X pins σ H s) (h : H p = some (.lst xs)) :
    ∃ (its : List Value) (n : Nat), Vals xs its ∧ s.heap.get? p = some { cls := .type "list", data := .seq its.toArray n } ∧ xs.length ≤ sizeLine := by
  obtain ⟨z, its, n, r, e⟩ := I.hok p _ h
  exact ⟨its, n, r, e, z⟩
theorem Inv.lstUpd {pins : List (Addr × Obj)} {σ : St} {H : Hp} {s : Shared} {p : Addr} {xs ys : List V} {its its' : List Value} {n n' : Nat} {f : Obj → Obj} (I : Inv X pins σ H s) (h : H p = some (.lst xs))
    (ho : s.heap.get? p = some { cls := .type "list", data := .seq its.toArray n }) (hf : f { cls := .type "list", data := .seq its.toArray n } = { cls := .type "list", data := .seq its'.toArray n' }) (r : Vals ys its') (hz : ys.length ≤ sizeLine) (t : Nat) :
    Inv X pins σ (upd H p (.lst ys)) { s with heap := s.heap.update p f, toks := t } := by
  have e : (s.heap.update p f).get? p = some { cls := .type "list", data := .seq its'.toArray n' } := by
    rw [Heap.get?_update_self f ho (by rw [hf] <;> rfl), hf]
  refine I.write (x := p) (e := p) (by rw [h]; trivial) (.inl rfl) (fun b u hb q => (Heap.get?_update_other _ _ (Ne.symm hb)).trans q) ⟨_, e⟩ ?_
  exact ⟨hz, its', n', r, e⟩
def rSetL : V → V → V → Hp → (Hp → Prop) → Prop := fun o i v H Q => ∃ p xs k j, o = .ref p ∧ i = .int k ∧ H p = some (.lst xs) ∧ ixN xs.length k = some j ∧ Q (upd H p (.lst (xs.set j v)))
theorem set_list : PSet X rSetL := by
  intro pins s σ H o i v ov iv u Q I ro ri rv h
  obtain ⟨p, xs, k, j, rfl, rfl, hp, hj, q⟩ := h
  cases ro
  obtain ⟨t, rfl⟩ := ri
  obtain ⟨its, n, r, ho, hz⟩ := I.lst hp
  obtain ⟨h1, h2, h3, h4⟩ := ixN_seq hj
  have hl := r.length
  have hn := line63
  have I' : Inv X pins σ (upd H p (.lst (xs.set j v))) { s with heap := s.heap.update p (Obj.mapSeq (·.setIfInBounds j u)) } :=
    I.lstUpd hp ho (mapSeq_set its n j u) (r.set rv j) (by rw [List.length_set]; exact hz) s.toks
  by_cases h0 : 0 ≤ k
  · have hk : k.toNat = j := by
      rw [seqIndex_of h0 h4] at h1
      exact Option.some.inj h1
    exact PySem.W.ki_setAt ho h0 (by omega) (by rw [List.size_toArray, ← hl]; exact h4) (by rw [hk]; exact ⟨_, I', q⟩)
  · have hk : (k + (its.toArray.size : Int)).toNat = j := by
      rw [seqIndex_neg (by omega) h3] at h1
      rw [List.size_toArray, ← hl]
      exact Option.some.inj h1
    exact PySem.W.ki_setBack ho (by omega) (by rw [List.size_toArray, ← hl]; exact h3) (by omega) (by rw [hk]; exact ⟨_, I', q⟩)
theorem slice_bounds (lo hi : Option Int) (n : Nat) : (sliceBounds lo hi none n).1 = ((HT.sIx n 0 lo : Nat) : Int) ∧ (sliceBounds lo hi none n).2.1 = ((HT.sIx n n hi : Nat) : Int) ∧ (sliceBounds lo hi none n).2.2 = 1 := by
  refine ⟨?_, ?_, rfl⟩
  · cases lo with
    | none => simp [sliceBounds, HT.sIx]
    | some i =>
      simp only [sliceBounds, HT.sIx, Option.getD_none, show (1 : Int) > 0 by decide, if_true]
      by_cases h : i < 0
      · simp only [h, if_true] <;> omega
      · simp only [h, if_false] <;> omega
  · cases hi with
    | none => simp [sliceBounds, HT.sIx]
    | some i =>
      simp only [sliceBounds, HT.sIx, Option.getD_none, show (1 : Int) > 0 by decide, if_true]
      by_cases h : i < 0
      · simp only [h, if_true] <;> omega
      · simp only [h, if_false] <;> omega
theorem slicePick_cut (its : List Value) (lo hi : Option Int) : slicePick its.toArray lo hi none = ((its.drop (HT.sIx its.length 0 lo)).take (HT.sIx its.length its.length hi - HT.sIx its.length 0 lo)).toArray := by
  obtain ⟨h1, h2, h3⟩ := slice_bounds lo hi its.toArray.size
  unfold slicePick
  rw [h1, h2, h3]
  simp only [sliceRange_one, pick_run, List.size_toArray] <;> rfl
def rSlL (K : PySem.W.Frag) : V → Option Int → Option Int → Hp → VK → Prop := fun x lo hi H Q => ∃ a xs, x = .ref a ∧ SqL K H a xs ∧ ∀ p, H p = none → Q (.ref p) (upd H p (.lst (cutV xs lo hi)))
theorem sl_list : SlR X (rSlL X.K) := by
  intro pins s σ H x v vl vu lo hi sl Q I rx hs pl pu h
  obtain ⟨a, xs, rfl, hx, q⟩ := h
  cases rx
  obtain ⟨its, r, ht, hz⟩ := I.list hx
  have hlen := r.length
  refine ⟨"list", _, slot_list_getitem.lookup, ht.isList.typeIs, ?_⟩
  refine wpAny_getItem_list_slice ht.isList hs pl pu .none (by simp) ?_ (by rw [List.size_toArray] <;> omega)
  rw [slicePick_cut, ← hlen]
  refine ⟨.ref s.heap.objs.size, _, I.laid (t' := s.toks) (o := .lst (cutV xs lo hi)) (fun b ob q => Heap.get?_push_of_some _ q) (Nat.le_refl _) ?_, rfl, q _ (I.hok.fresh (Nat.le_refl _))⟩
  exact ⟨Nat.le_trans (cutV_length xs lo hi) hz, _, 0, (r.drop (HT.sIx xs.length 0 lo)).take (HT.sIx xs.length xs.length hi - HT.sIx xs.length 0 lo), Heap.get?_push_size _ rfl⟩
theorem call_len_seq : CallR X (.builtin "len") (fun xs H Q => ∃ p ys, xs = [.ref p] ∧ (SqL X.K H p ys ∨ SqT X.K H p ys) ∧ Q (.int ys.length) H) := by
  intro pins s σ H xs us Q I r h
  obtain ⟨p, ys, rfl, hq, q⟩ := h
  obtain ⟨u, rfl, rx⟩ := vals1 r
  cases rx
  have hn := line63
  rcases hq with hq | hq
  · obtain ⟨its, r', pl, hz⟩ := I.list hq
    have hlen := r'.length
    exact Calls.call_len_list pl.isList (by simp only [List.size_toArray] <;> omega) ⟨.int ys.length, H, I.tok _, ⟨s.toks + 1, by rw [List.size_toArray, hlen]⟩, q⟩
  · obtain ⟨its, r', pl, hz⟩ := I.tuple hq
    have hlen := r'.length
    exact len_tuple pl (by simp only [List.size_toArray] <;> omega) ⟨.int ys.length, H, I.tok _, ⟨s.toks + 1, by rw [List.size_toArray, hlen]⟩, q⟩
theorem call_list_of : CallR X (.type "list") (fun xs H Q => ∃ p ys, xs = [.ref p] ∧ (SqL X.K H p ys ∨ SqT X.K H p ys) ∧ ∀ l, H l = none → Q (.ref l) (upd H l (.lst ys))) := by
  intro pins s σ H xs us Q I r h
  obtain ⟨p, ys, rfl, hq, q⟩ := h
  obtain ⟨u, rfl, rx⟩ := vals1 r
  cases rx
  have fin : ∀ (its : List Value), Vals ys its → ys.length ≤ sizeLine → ∀ (h' : Heap) (c' : Nat), (∀ b o', s.heap.get? b = some o' → h'.get? b = some o') →
      h'.get? s.heap.objs.size = some { cls := .type "list", dict := none, data := .seq its.toArray c', slots := #[] } → EP X pins σ Q (.ref s.heap.objs.size) { s with heap := h' } := fun its r' hz h' c' kp e =>
    ⟨.ref s.heap.objs.size, _, I.laid (t' := s.toks) kp (Nat.le_refl _) (show ObjOk X.prog X.w _ h' _ (.lst ys) from ⟨hz, its, c', r', e⟩), rfl, q _ (I.hok.fresh (Nat.le_refl _))⟩
  rcases hq with hq | hq
  · obtain ⟨its, r', pl, hz⟩ := I.list hq
    have hlen := r'.length
    obtain ⟨o, ho, hc, n, hd⟩ := pl.isList
    exact call_list_seq p (.inl rfl) ho hc hd (fun h' c' kp e => fin its r' hz h' c' kp e) (by simp only [List.size_toArray] <;> omega)
  · obtain ⟨its, r', pl, hz⟩ := I.tuple hq
    have hlen := r'.length
    obtain ⟨o, ho, hc, n, hd⟩ := pl
    exact call_list_seq p (.inr rfl) ho hc hd (fun h' c' kp e => fin its r' hz h' c' kp e) (by simp only [List.size_toArray] <;> omega)
def tyV (K : PySem.W.Frag) (T : String) (x : V) (H : Hp) : Prop := match x with
  | .str _ => T = "str"
  | .int _ => T = "int"
  | .ref p => (T = "list" ∧ ∃ xs, SqL K H p xs) ∨ (T = "tuple" ∧ ∃ o, K.lookup p = some o ∧ o.cls = .type "tuple" ∧ o.dict = none) ∨
      (T = "dict" ∧ ((∃ kvs, H p = some (.dK kvs)) ∨ ∃ kvs, H p = some (.dT kvs))) ∨ (T = "set" ∧ ∃ S n, H p = some (.set S n))
  | _ => False
theorem tyV_is {pins : List (Addr × Obj)} {σ : St} {H : Hp} {s : Shared} {T : String} {x : V} {v : Value} (I : Inv X pins σ H s) (r : RelV x v) (ty : tyV X.K T x H) :
    s.TypeIs v T ∧ ∀ a, v = .ref a → ∃ ob, s.heap.get? a = some ob ∧ ob.dict = none := by
  cases x with
  | str z =>
    obtain ⟨t, rfl⟩ := r
    cases (show T = "str" from ty)
    exact ⟨typeIs_str s z t, fun _ e => nomatch e⟩
  | int i =>
    obtain ⟨t, rfl⟩ := r
    cases (show T = "int" from ty)
    exact ⟨typeIs_int s i t, fun _ e => nomatch e⟩
  | ref p =>
    cases r
    rcases ty with ⟨rfl, xs, hq⟩ | ⟨rfl, o, hk, hc, hd⟩ | ⟨rfl, hk⟩ | ⟨rfl, S, n, hk⟩
    · obtain ⟨its, _, pl, _⟩ := I.list hq
      refine ⟨pl.isList.typeIs, fun a e => ?_⟩
      cases e
      obtain ⟨o, n, e, c, hd, _⟩ := pl
      exact ⟨o, e, hd⟩
    · refine ⟨⟨o, I.kIn p o hk, hc⟩, fun a e => ?_⟩
      cases e
      exact ⟨o, I.kIn _ o hk, hd⟩
    · have z : ∃ o, s.heap.get? p = some o ∧ o.ExactDict := by
        rcases hk with ⟨kvs, hk⟩ | ⟨kvs, hk⟩
        · obtain ⟨_, _, _, _, o, _, _, e, ex, _⟩ := I.hok p _ hk
          exact ⟨o, e, ex⟩
        · obtain ⟨_, _, _, _, o, _, _, e, ex, _⟩ := I.hok p _ hk
          exact ⟨o, e, ex⟩
      obtain ⟨o, e, ex⟩ := z
      refine ⟨⟨o, e, ex.1⟩, fun a e2 => ?_⟩
      cases e2
      exact ⟨o, e, ex.2.1⟩
    · obtain ⟨o, _, _, _, e, ex, _⟩ := I.hok p _ hk
      refine ⟨⟨o, e, ex.1⟩, fun a e2 => ?_⟩
      cases e2
      exact ⟨o, e, ex.2.1⟩
  | _ => exact False.elim ty
def tBM0 (K : PySem.W.Frag) (T : String) (r : V → List V → Hp → VK → Prop) (to : TE) : TE := fun σ H Q => to σ H fun x H1 => tyV K T x H1 ∧ r x [] H1 Q
def tBM (K : PySem.W.Frag) (T : String) (r : V → List V → Hp → VK → Prop) (to : TE) (t : TA) : TE := fun σ H Q => to σ H fun x H1 => tyV K T x H1 ∧ t σ H1 fun xs H2 => r x xs H2 Q
variable {o e : Expr} {es : List Expr} {to : TE} {t : TA} {name : Str} {apos cpos : Pos} {T id : String} {r : V → List V → Hp → VK → Prop}
theorem pe_bm0 (pa : PlainAttrs T) (slot : Slot T name id) (hty : typeOf (.builtin id) = pure (.type "method_descriptor")) (hm : MtR X id r) (ho : PE X o to)
    (hbase : attributeBase o name X.env (eval o X.env) = eval o X.env := by rfl) (hline : (apos.endLine == cpos.line) = true := by rfl) : PE X (.Call (.Attribute o name apos) [] [] cpos) (tBM0 X.K T r to) := by
  intro pins s σ H Q I h
  refine wpAny_Call_method0_late hbase hline (thn (ho pins s σ H _ I h) fun v s1 ⟨x, H1, I1, r1, ty, q1⟩ => ?_)
  obtain ⟨h1, h2⟩ := tyV_is I1 r1 ty
  exact ⟨T, id, pa, slot, hty, h1, h2, Calls.callWith_builtin rfl (PySem.evalArgs_none (hm pins s1 σ H1 x [] v [] Q I1 r1 .nil q1))⟩
theorem pe_bm (pa : PlainAttrs T) (slot : Slot T name id) (hty : typeOf (.builtin id) = pure (.type "method_descriptor")) (hm : MtR X id r) (ho : PE X o to) (ha : PA X (e :: es) t)
    (hbase : attributeBase o name X.env (eval o X.env) = eval o X.env := by rfl)
    (hfew : ((backTo cpos (starEach (e :: es) X.env)).all (fun x => !x.1) && (backToKw cpos (keywordEach [] X.env)).all (fun x => x.1.isSome)
      && decide ((e :: es).length + ([] : List Keyword).length + (if ([] : List Keyword).isEmpty then 0 else 1) < 30)) = true := by rfl)
    (hline : (apos.endLine == cpos.line) = true := by rfl) (hs : starEach (e :: es) X.env = (false, eval e X.env) :: starEach es X.env := by rfl) (hplain : (backTo cpos (starEach es X.env)).any (·.1) = false := by rfl) :
    PE X (.Call (.Attribute o name apos) (e :: es) [] cpos) (tBM X.K T r to t) := by
  intro pins s σ H Q I h
  refine wpAny_Call_method_late hbase hfew hline rfl (thn (ho pins s σ H _ I h) fun v s1 ⟨x, H1, I1, r1, ty, q1⟩ => ?_)
  obtain ⟨h1, h2⟩ := tyV_is I1 r1 ty
  refine ⟨T, id, pa, slot, hty, h1, h2, ?_⟩
  have hA := ha cpos pins s1 σ H1 _ I1 q1
  rw [hs] at hA ⊢
  refine Calls.callWith_builtin (by show (false || (backTo cpos (starEach es X.env)).any (·.1)) = false; rw [hplain] <;> rfl) (Calls.evalArgs_plain ?_)
  exact thn hA fun us s2 ⟨vs, H2, I2, r2, q2⟩ => hm pins s2 σ H2 x vs v us Q I2 r1 r2 q2
end
end L2
namespace L2
open PySem PySem.Spec PyProof.Rows
def MtM (X : Cx) (id : String) (r : V → List V → Hp → VK → Prop) : Prop :=
  ∀ (pins : List (Addr × Obj)) (s : Shared) (σ : St) (H : Hp) (x : V) (xs : List V) (v : Value) (us : List Value) (Q : VK), Inv X pins σ H s → RelV x v → Vals xs us → r x xs H Q →
    wpAny (model X.prog X.w) X.A (call (.builtin id) (v :: us)) (EP X pins σ Q) X.xe s
theorem Vals.one : ∀ {x : V} {us : List Value}, Vals [x] us → ∃ u, us = [u] ∧ RelV x u
  | _, _, .cons r .nil => ⟨_, rfl, r⟩
theorem Vals.eraseIdx : ∀ {xs : List V} {us : List Value} (i : Nat), Vals xs us → Vals (xs.eraseIdx i) (us.eraseIdx i)
  | _, _, _, .nil => .nil
  | _, _, 0, .cons _ t => t
  | _, _, i + 1, .cons r t => .cons r (Vals.eraseIdx i t)
theorem Vals.reverse {xs : List V} {us : List Value} (h : Vals xs us) : Vals xs.reverse us.reverse := by
  induction h with
  | nil => exact .nil
  | cons r t ih => rw [List.reverse_cons, List.reverse_cons]; exact Vals.append ih (.cons r .nil)
theorem Vals.rep {xs : List V} {us : List Value} (h : Vals xs us) : ∀ k : Nat, Vals (List.replicate k xs).flatten (List.replicate k us).flatten
  | 0 => .nil
  | k + 1 => by
    rw [List.replicate_succ, List.replicate_succ, List.flatten_cons, List.flatten_cons]
    exact Vals.append h (Vals.rep h k)
theorem len_erase {α : Type} : ∀ (l : List α) (i : Nat), (l.eraseIdx i).length ≤ l.length
  | [], _ => Nat.le_refl _
  | _ :: _, 0 => Nat.le_succ _
  | _ :: r, i + 1 => Nat.succ_le_succ (len_erase r i)
theorem foldl_rep (its : List Value) : ∀ (k : Nat) (acc : List Value),
    List.foldl (fun x1 x2 => x1 ++ x2) acc.toArray (List.replicate k its.toArray) = (acc ++ (List.replicate k its).flatten).toArray
  | 0, acc => by simp
  | k + 1, acc => by
    have e : acc.toArray ++ its.toArray = (acc ++ its).toArray := by simp
    have e2 : (acc ++ its) ++ (List.replicate k its).flatten = acc ++ (List.replicate (k + 1) its).flatten := by
      rw [List.replicate_succ, List.flatten_cons, List.append_assoc]
    rw [← e2, ← foldl_rep its k (acc ++ its), ← e, List.replicate_succ, List.foldl_cons]
section
variable {X : Cx} {pins : List (Addr × Obj)} {σ : St} {H : Hp} {s : Shared} {l b : Addr} {xs ys zs : List V}
theorem Inv.lset {its its' : List Value} {n : Nat} {f : Array Value → Array Value} {t' : Nat} (I : Inv X pins σ H s) (hH : H l = some (.lst xs))
    (e : s.heap.get? l = some { cls := .type "list", data := .seq its.toArray n }) (hf : f its.toArray = its'.toArray) (hv : Vals ys its') (hz : ys.length ≤ sizeLine) :
    Inv X pins σ (upd H l (.lst ys)) { s with heap := s.heap.update l (Obj.mapSeq f), toks := t' } := by
  have q := PySem.IsL.update e f
  rw [hf] at q
  refine I.write (x := l) (e := l) (by rw [hH]; exact trivial) (.inl rfl) (fun b' u hb hu => (Heap.get?_update_other s.heap (Obj.mapSeq f) (Ne.symm hb)).trans hu) ⟨_, q⟩ ?_
  exact ⟨hz, its', _, hv, q⟩
theorem Inv.lnew {its : List Value} {t' : Nat} (I : Inv X pins σ H s) (hv : Vals ys its) (hz : ys.length ≤ sizeLine) :
    Inv X pins σ (upd H s.heap.objs.size (.lst ys)) { s with heap := s.heap.push { cls := .type "list", data := .seq its.toArray }, toks := t' } :=
  I.laid (fun _ _ q => Heap.get?_push_of_some _ q) (Nat.le_refl _) ⟨hz, its, 0, hv, Heap.get?_push_size _ rfl⟩
theorem Inv.fresh (I : Inv X pins σ H s) : H s.heap.objs.size = none := I.hok.fresh (Nat.le_refl _)
theorem Inv.lstM (I : Inv X pins σ H s) (hH : H l = some (.lst xs)) : xs.length ≤ sizeLine ∧ ∃ (its : List Value) (n : Nat), Vals xs its ∧ xs.length = its.length ∧ s.heap.get? l = some { cls := .type "list", data := .seq its.toArray n } := by
  obtain ⟨z, its, n, r, e⟩ := I.hok l _ hH
  exact ⟨z, its, n, r, r.length, e⟩
theorem notLongL {n : Nat} (h : n ≤ sizeLine) : Builtin.List.listTooLong n = false := by
  unfold Builtin.List.listTooLong
  exact decide_eq_false (by omega)
end
section
variable {X : Cx}
def rAppend : V → List V → Hp → VK → Prop := fun x vs H Q => ∃ l xs y, x = .ref l ∧ vs = [y] ∧ H l = some (.lst xs) ∧ xs.length < sizeLine ∧ Q .non (upd H l (.lst (xs ++ [y])))
theorem mt_append : MtM X "list.append" rAppend := by
  intro pins s σ H x vs v us Q I rx rv h
  obtain ⟨l, xs, y, rfl, rfl, hH, hz, q⟩ := h
  cases rx
  obtain ⟨u, rfl, ru⟩ := rv.one
  obtain ⟨z, its, n, r, hl, e⟩ := I.lstM hH
  refine call_meets F.slot_list_append ⟨_, e, rfl⟩ F.entry_list_append (F.args_list_append_2 _ _) (PySem.list_append l its.toArray n u (by rw [List.size_toArray]; omega)) ⟨e, ?_⟩
  refine ⟨.non, _, I.lset (its' := its ++ [u]) hH e (by simp) (r.append (.cons ru .nil)) ?_, rfl, q⟩
  rw [List.length_append, List.length_singleton]
  omega
def rPopAt : V → List V → Hp → VK → Prop := fun x vs H Q => ∃ l xs i k y, x = .ref l ∧ vs = [.int i] ∧ H l = some (.lst xs) ∧ -(2 ^ 63) ≤ i ∧ i < 2 ^ 63 ∧ seqIndex? i xs.length = some k ∧ xs[k]? = some y ∧ Q y (upd H l (.lst (xs.eraseIdx k)))
theorem mt_popAt : MtM X "list.pop" rPopAt := by
  intro pins s σ H x vs v us Q I rx rv h
  obtain ⟨l, xs, i, k, y, rfl, rfl, hH, h1, h2, hk, hy, q⟩ := h
  cases rx
  obtain ⟨u, rfl, ru⟩ := rv.one
  obtain ⟨t, rfl⟩ := ru
  obtain ⟨z, its, n, r, hl, e⟩ := I.lstM hH
  obtain ⟨w, hw, rw'⟩ := r.get hy
  refine call_meets F.slot_list_pop ⟨_, e, rfl⟩ F.entry_list_pop (F.args_list_pop_2 _ _)
    (MeetsSeq.list_pop_at l its.toArray n i t k w (fitsIndex_both h1 h2) (by rw [List.size_toArray, ← hl]; exact hk) (by rw [← Array.getElem?_toList]; exact hw) (by rw [List.size_toArray]; omega)) ⟨e, ?_⟩
  refine ⟨y, _, I.lset (its' := its.eraseIdx k) hH e ?_ (r.eraseIdx k) ?_, rw', q⟩
  · show its.toArray.eraseIdxIfInBounds k = (its.eraseIdx k).toArray
    rw [List.eraseIdxIfInBounds_toArray]
  · have := len_erase xs k
    omega
def rCat : R2 := fun x y H Q => ∃ l b xs zs, x = .ref l ∧ y = .ref b ∧ H l = some (.lst xs) ∧ H b = some (.lst zs) ∧ xs.length + zs.length ≤ sizeLine ∧ ∀ p, H p = none → Q (.ref p) (upd H p (.lst (xs ++ zs)))
theorem op_cat : OpR X (binaryOp .Add) rCat := by
  intro pins s σ H x y v u Q I rx ry h
  obtain ⟨l, b, xs, zs, rfl, rfl, hH, hB, hz, q⟩ := h
  cases rx
  cases ry
  obtain ⟨z, its, n, r, hl, e⟩ := I.lstM hH
  obtain ⟨z2, its2, n2, r2, hl2, e2⟩ := I.lstM hB
  refine PySem.P.add_list e e2 ?_ (by rw [List.size_toArray, List.size_toArray]; omega)
  have ea : its.toArray ++ its2.toArray = (its ++ its2).toArray := by simp
  rw [ea]
  exact ⟨.ref _, _, I.lnew (t' := s.toks) (r.append r2) (by rw [List.length_append]; omega), rfl, q _ I.fresh⟩
def rRep : R2 := fun x y H Q => ∃ l k xs, x = .ref l ∧ y = .int k ∧ H l = some (.lst xs) ∧ -(2 ^ 63) ≤ k ∧ k < 2 ^ 63 ∧ xs.length * k.toNat ≤ sizeLine ∧
  ∀ p, H p = none → Q (.ref p) (upd H p (.lst (List.replicate k.toNat xs).flatten))
theorem len_rep {α : Type} (xs : List α) (k : Nat) : (List.replicate k xs).flatten.length = k * xs.length := by
  induction k with
  | zero => simp
  | succ k ih => rw [List.replicate_succ, List.flatten_cons, List.length_append, ih, Nat.succ_mul, Nat.add_comm]
theorem op_rep : OpR X (binaryOp .Mult) rRep := by
  intro pins s σ H x y v u Q I rx ry h
  obtain ⟨l, k, xs, rfl, rfl, hH, h1, h2, hz, q⟩ := h
  cases rx
  obtain ⟨t, rfl⟩ := ry
  obtain ⟨z, its, n, r, hl, e⟩ := I.lstM hH
  have hlen : its.toArray.size * k.toNat ≤ sizeLine := by rw [List.size_toArray, ← hl]; exact hz
  have hcap : ¬ its.toArray.size * k.toNat > (2 ^ 63 - 1) / 8 := by
    have : (sizeLine : Nat) ≤ (2 ^ 63 - 1) / 8 := by decide
    omega
  have hfit : ¬ (!Builtin.List.listFitsIndex k) = true := by
    rw [fitsIndex_both h1 h2]
    exact Bool.false_ne_true
  have hlong : ¬ Builtin.List.listTooLong (its.toArray.size * k.toNat) = true := by
    rw [notLongL hlen]
    exact Bool.false_ne_true
  have hnew : List.foldl (fun x1 x2 => x1 ++ x2) #[] (List.replicate (if its.toArray.isEmpty = true then 0 else k.toNat) its.toArray) = (List.replicate k.toNat its).flatten.toArray := by
    have f0 : ∀ m : Nat, List.foldl (fun x1 x2 => x1 ++ x2) #[] (List.replicate m its.toArray) = (List.replicate m its).flatten.toArray := fun m => by
      have := foldl_rep its m []
      rw [List.nil_append] at this
      exact this
    rw [f0]
    cases its with
    | nil => simp
    | cons a r' => rw [if_neg (by simp)]
  refine wpAny_binaryOp_repeat_ref (T := "list") (U := "int") (by decide) ⟨_, e, rfl⟩ (fun s' => typeIs_int s' k t) noFill_list_mul F.fills_int_mul F.slot_int_rmul repeat_list F.slot_int_index.lookup
    (call_meets F.slot_int_rmul (typeIs_int s k t) F.entry_int_rmul (F.args_int_rmul_2 _ _) (int___rmul___int_list k t l its.toArray n)
      ⟨e, rfl, ⟨_, e, rfl⟩, call_meets F.slot_list_mul ⟨_, e, rfl⟩ F.entry_list_mul (F.args_list_mul_2 _ _) (AutoListH.list___mul___list_int_3 l its.toArray n k t hfit hcap hlong) ⟨e, ?_⟩⟩)
  rw [hnew]
  exact ⟨.ref _, _, I.lnew (t' := s.toks) (r.rep k.toNat) (by rw [len_rep, Nat.mul_comm]; exact hz), rfl, q _ I.fresh⟩
end
section
variable {prog : Program} {w : World} {A : Around} {E : Value → Shared → Prop} {s : Shared}
set_option maxRecDepth 100000 in
end
section
variable {X : Cx}
end
end L2
namespace Att
open PySem PySem.W PySem.Calls PyProof.Rows
theorem ints_of_wellAll {P : Params} {h : Heap} : ∀ (ns : List Int) (vs : List Value), WellAll P h vs (ns.map WData.int) → IntsAre vs ns := by
  intro ns
  induction ns with
  | nil =>
    intro vs w
    rw [List.map_nil] at w
    cases w
    exact .nil
  | cons n ns ih =>
    intro vs w
    rw [List.map_cons] at w
    cases w with
    | cons a b =>
      cases a
      exact .cons _ _ (ih _ b)
theorem script_of {l : OpenLaw} {n : Nat} (hn : l.most = some n) {P : Params} {h : Heap} {args : List WData} {vals : List Value}
    (hpre : l.row.toRowW.claim.pre args = true) (hwl : WellAll P h vals args) :
    ∃ a vs ns, vals = [Value.ref a] ∧ args = [WData.list (ns.map WData.int)] ∧ h.get? a = some { cls := .type "list", data := .seq vs.toArray } ∧ IntsAre vs ns ∧ ns.length ≤ n := by
  have hsh : WShape.hasAll [] args [.list .int] = true := (pre_splitW hpre).1
  have hc : l.pre.holds [] { args := args } = true := (pre_splitW hpre).2
  obtain ⟨d, r, rfl, h1, h2⟩ := hasAllW_cons hsh
  obtain rfl := hasAllW_nil h2
  obtain ⟨xs, rfl, h3⟩ := hasW_list h1
  obtain ⟨ns, rfl⟩ := items_int h3
  have hlen : ns.length ≤ n := by
    unfold OpenLaw.pre at hc
    have h4 : (WTm.not (.lt (.lit (.int (n : Int))) (.len (.arg 0)))).holds [] { args := [.list (ns.map .int)] } = true := by
      have h4 := (holds_andW hc).1
      rw [hn] at h4
      exact h4
    have h5 := condW_of h4 (w_not (w_lt w_lit (w_len_list (w_arg rfl))))
    rw [List.length_map] at h5
    refine Nat.le_of_not_lt fun q => ?_
    have q' : (n : Int) < ((ns.length : Nat) : Int) := by omega
    first
      | (rw [decide_eq_true q'] at h5; exact absurd h5 (by decide))
      | (simp at h5; omega)
  cases hwl with
  | cons w1 w2 =>
    cases w2
    cases w1 with
    | list ho hall => exact ⟨_, _, ns, rfl, rfl, ho, ints_of_wellAll ns _ hall, hlen⟩
theorem post_true (l : OpenLaw) (args : List WData) : l.row.toRowW.claim.post args (.bool true) args = true :=
  postW_of (r := l.row.toRowW) (X := (true == true))
    (show WShape.has [] (.bool true) .bool = true by first | rfl | decide | simp [WShape.has, WShape.arms, WShape.armsAll])
    (show (WTm.eq .res (.lit (.bool true))).value [] { args := args, res := some (.bool true), after := args } = some (.bool (true == true)) from w_eq_bool (w_res rfl) w_lit) rfl
theorem attach_call {l : OpenLaw} {n : Nat} {q : Program} {loose : List Str} {XP : (Str → Option Value) → Heap → Prop} {YP : World → Heap → Prop} {d : DefRec}
    (hn : l.most = some n) (hdf : d.params.defaults = [])
    (call : ∀ (w : World) (s₀ s₁ : Shared) (mg mb : Str → Option Value) (fa : Addr) (o : Obj) (pm cd doc : Value) (a : Addr) (vs : List Value) (ns : List Int),
      Ground q loose [] XP w s₀ mg mb s₁.heap → YP w s₁.heap →
      s₁.heap.get? fa = some o → o.data = .func (docDef d.name d.params d.body d.scope pm cd doc) → s₁.heap.CodeRec cd d.name → mg d.name = some (.ref fa) →
      s₁.heap.get? a = some { cls := .type "list", data := .seq vs.toArray } → IntsAre vs ns → ns.length ≤ n → s₁.gens = #[] →
      codeAny (model l.prog w) callerA (.call (.ref fa) ⟨[.ref a], []⟩) (fun r s' => r = .ok (.ret (.bool true)) ∧ OldK s₁.heap s'.heap ∧ s'.os = s₁.os ∧ AllBare s'.gens) s₁) :
    WalkO q loose XP YP l.row.toRowW d [] (fun f vs => PySem.call f vs) := by
  intro w s₀ s₁ mg mb G Y fa o pm cd doc dV kV ho hd hcd hD hmg hg args vals as hpre hlay hrd hwl hlo
  obtain rfl : dV = .none := Dflts.none hD hdf
  obtain rfl : kV = .none := Dflts.noKw hD
  obtain ⟨a, vs, ns, rfl, rfl, hobj, hints, hlen⟩ := script_of hn hpre hwl
  refine enter_call (codeAny_mono (call w s₀ s₁ mg mb fa o pm cd doc a vs ns G Y ho (fd_plain hd) hcd hmg hobj hints hlen hg) fun r s' hq => ?_)
  obtain ⟨rfl, h2, h3, h4⟩ := hq
  exact ⟨.inl ⟨.bool true, .bool true, [], rfl, fun _ => rfl, .bool true, post_true l _, fun _ => ⟨List.Pairwise.nil, fun _ hm => (nomatch hm)⟩⟩, h2, h3, h4⟩
section
variable {prog : Program} {w : World} {A : Around} {E : Value → Shared → Prop} {s : Shared} {K : Frag}
end
end Att
namespace L2
open PySem PySem.Spec PyProof.Rows
theorem vals_ints : ∀ {vs : List Value} {ns : List Int}, IntsAre vs ns → Vals (ns.map V.int) vs
  | _, _, .nil => .nil
  | _, _, .cons n t h => .cons ⟨t, rfl⟩ (vals_ints h)
def Only (H : Hp) : Prop := ∀ b, H b = none ∨ ∃ o xs, H b = some (.frz o (.lst xs))
theorem law_call {P : Program} {w : World} {K : PySem.W.Frag} {mg mb : Str → Option Value} {CX : CXT} {k : Nat} {fa a : Addr} {fd : FuncData} {x : Str} {sp : Sp} {s₁ : Shared} {vs : List Value} {ns : List Int}
    (KX : K.In s₁.heap) (hns : s₁.heap.Ns mainGlobals mg) (hb : s₁.heap.Ns builtinsNs mb) (hbb : ∀ x : Str, x ≠ "__name__" → mb x = bootBuiltins x) (hlim : s₁.heap.NoLimit) (hg : s₁.gens = #[])
    (ha : s₁.heap.get? a = some { cls := .type "list", data := .seq vs.toArray }) (hi : IntsAre vs ns) (hl : ns.length ≤ sizeLine) (hr : Room k callerA)
    (F : ∀ base : Heap, K.In base → base.Ns mainGlobals mg → FnOk P w K mg base CX k fa fd [x] sp) (hbind : ∀ (s : Shared) (u : Value), BindsTo s fd ⟨[u], []⟩ [(x, u)])
    (hsp : ∀ H : Hp, Only H → SqL K H a (ns.map V.int) → sp [.ref a] H (fun v _ => v = .bl true) fun _ _ _ => False)
    (hCX : ∀ H e s', CX [] H s₁ (fun _ _ _ => False) e s' → False) :
    codeAny (model P w) callerA (.call (.ref fa) ⟨[.ref a], []⟩) (fun r s' => r = .ok (.ret (.bool true)) ∧ OldK s₁.heap s'.heap ∧ s'.os = s₁.os ∧ AllBare s'.gens) s₁ := by
  have rv := vals_ints hi
  have lenV := hi.length
  have core : ∀ H : Hp, Only H → SqL K H a (ns.map V.int) → HOk P w H s₁.heap → (∀ b, H b ≠ none → b = a) → (H a ≠ none → K.lookup a = none) →
      codeAny (model P w) callerA (.call (.ref fa) ⟨[.ref a], []⟩) (fun r s' => r = .ok (.ret (.bool true)) ∧ OldK s₁.heap s'.heap ∧ s'.os = s₁.os ∧ AllBare s'.gens) s₁ := by
    intro H hO hS hok hA hK
    have base_of : ∀ {b : Addr} {o : Obj}, s₁.heap.get? b = some o → H b = none → (hidT s₁.heap H).get? b = some o := fun e n => hidT_get e n
    have noA : ∀ {b : Addr} {o : Obj} {es : Array DictEntry} {ep : Nat}, s₁.heap.get? b = some o → o.data = .dict es ep → H b = none := fun {b o es ep} e d => by
      cases q : H b with
      | none => rfl
      | some u =>
        have e' : b = a := hA b (by rw [q]; simp)
        subst e'
        rw [ha] at e; cases e
        have d' : Data.seq vs.toArray _ = Data.dict es ep := d
        cases d'
    have nsK : ∀ {b : Addr} {m : Str → Option Value}, s₁.heap.Ns b m → (hidT s₁.heap H).Ns b m := fun {b m} ⟨o, es, ep, e, d, r⟩ => ⟨o, es, ep, base_of e (noA e d), d, r⟩
    have hKb : K.In (hidT s₁.heap H) := fun b o e => base_of (KX b o e) (by
      cases q : H b with
      | none => rfl
      | some u =>
        have e' : b = a := hA b (by rw [q]; simp)
        subst e'
        rw [hK (by rw [q]; simp)] at e; cases e)
    have hM : Mod K mg (hidT s₁.heap H) := ⟨hKb, nsK hns, ⟨mb, nsK hb, hbb⟩, let ⟨mc, h1, h2⟩ := hlim; ⟨mc, nsK h1, h2⟩⟩
    have e0 : Env0 P w K mg (hidT s₁.heap H) callerA [] s₁ H := ⟨rfl, hM, fun b o e => of_hidT e, Nat.le_of_eq (hidT_size _ _), trivial, fun b hb => absurd (show b ∈ ([] : List Addr) from hb) (by simp), hok, .of_eq hg⟩
    refine codeAny_mono ((F _ hKb (nsK hns)).run callerA [] s₁ H ⟨[.ref a], []⟩ [.ref a] [.ref a] _ _ hr e0 (hbind s₁ (.ref a)) (.cons rfl .nil) (hsp H hO hS)) fun r s' h => ?_
    cases r with
    | error e => exact (hCX H e s' h).elim
    | ok fl =>
      cases fl with
      | next => exact False.elim h
      | brk => exact False.elim h
      | cont => exact False.elim h
      | ret u =>
        obtain ⟨v, H', os, bare, un, hok', r', q⟩ := h
        have q' : v = .bl true := q
        subst q'
        obtain rfl : u = Value.bool true := r'
        refine ⟨rfl, OldK.of_keep fun b o e => ?_, os, bare⟩
        cases q : H b with
        | none => exact un.keep b o e q (by intro z; exact absurd (show b ∈ ([] : List Addr) from z) (by simp)) (by simp)
        | some u =>
          rcases hO b with z | ⟨ob, xs, z⟩
          · rw [q] at z; cases z
          · have z2 := un.frzs b ob _ z
            obtain ⟨e1, _⟩ := hok b _ z
            obtain ⟨e2, _⟩ := hok' b _ z2
            rw [e] at e1; cases e1
            exact e2
  cases hk : K.lookup a with
  | some o =>
    have e := KX a o hk
    rw [ha] at e
    cases e
    refine core (fun _ => none) (fun _ => .inl rfl) (.inr ⟨_, vs.toArray, _, hk, rfl, rfl, rfl, by rw [List.size_toArray, lenV]; exact hl, by simpa using rv⟩) (fun b u z => by have z' : (none : Option HO) = some u := z; cases z') (fun b z => absurd rfl z) fun z => absurd rfl z
  | none =>
    refine core (fun b => if b = a then some (.frz { cls := .type "list", data := .seq vs.toArray } (.lst (ns.map V.int))) else none) (fun b => ?_) (.inl (.inr ⟨{ cls := .type "list", data := .seq vs.toArray }, if_pos rfl⟩)) (fun b u z => ?_) (fun b z => ?_) fun _ => hk
    · by_cases hb : b = a
      · exact .inr ⟨_, _, if_pos hb⟩
      · exact .inl (if_neg hb)
    · by_cases hb : b = a
      · have z' := (if_pos hb).symm.trans z
        cases z'
        subst hb
        exact ⟨ha, by rw [List.length_map]; exact hl, vs, _, rv, ha⟩
      · have z' := (if_neg hb).symm.trans z
        cases z'
    · by_cases hb : b = a
      · exact hb
      · exact absurd (if_neg hb) z
end L2
namespace L2
open PySem PySem.Spec PyProof.Rows
theorem walk_of {l : PySem.W.OpenLaw} {n k : Nat} {q : Program} {loose : List Str} {XP : (Str → Option Value) → Heap → Prop} {YP : World → Heap → Prop} {d : DefRec} {K : Params → PySem.W.Frag} {CX : World → CXT} {sp : World → Sp} {x : Str}
    (hn : l.most = some n) (hn2 : n ≤ sizeLine) (hdf : d.params.defaults = []) (hr : Room k callerA)
    (hY : ∀ (w : World) (h : Heap), YP w h → (K w.params).In h)
    (F : ∀ (w : World) (mg : Str → Option Value) (fa : Addr) (h : Heap), (K w.params).In h → h.Ns mainGlobals mg → mg d.name = some (.ref fa) →
      ∃ fd : FuncData, (∀ (s : Shared) (u : Value), BindsTo s fd ⟨[u], []⟩ [(x, u)]) ∧
        ∀ base : Heap, (K w.params).In base → base.Ns mainGlobals mg → FnOk l.prog w (K w.params) mg base (CX w) k fa fd [x] (sp w))
    (hsp : ∀ (w : World) (H : Hp) (a : Addr) (ns : List Int), ns.length ≤ n → Only H → SqL (K w.params) H a (ns.map V.int) → sp w [.ref a] H (fun v _ => v = .bl true) fun _ _ _ => False)
    (hCX : ∀ (w : World) (H : Hp) (s : Shared) (e : Value) (s' : Shared), CX w [] H s (fun _ _ _ => False) e s' → False) :
    PySem.W.WalkO q loose XP YP l.row.toRowW d [] (fun f vs => PySem.call f vs) := by
  refine Att.attach_call hn hdf fun w s₀ s₁ mg mb fa o pm cd doc a vs ns G Y ho hd hcd hmg hobj hints hlen hg => ?_
  have KX := hY w _ Y
  obtain ⟨fd, hb, hF⟩ := F w mg fa _ KX G.T.g hmg
  exact law_call KX G.T.g G.T.b G.T.builtins G.T.nolimit hg hobj hints (Nat.le_trans hlen hn2) hr hF hb (fun H hO hS => hsp w H a ns hlen hO hS) fun H e s' => hCX w H s₁ e s'
end L2
namespace L2
open PySem PySem.Spec PyProof.Rows
def inClass (s : Stmt) (j : Nat) : Stmt := match s with
  | .ClassDef _ _ _ body _ _ _ _ _ _ _ => body.getD j (.Pass ⟨0, 0, 0, 0⟩)
  | _ => .Pass ⟨0, 0, 0, 0⟩
def defArgs (s : Stmt) : Arguments := match s with
  | .FunctionDef _ a _ _ _ _ _ _ _ _ => a
  | _ => { posonlyargs := [], args := [], vararg := none, kwonlyargs := [], kw_defaults := [], kwarg := none, defaults := [] }
def defBody (s : Stmt) : List Stmt := match s with
  | .FunctionDef _ _ b _ _ _ _ _ _ _ => b
  | _ => []
def defScope (s : Stmt) : Scope := match s with
  | .FunctionDef _ _ _ _ _ _ sc _ _ _ => sc
  | _ => { kind := .function, names := [], isGenerator := false, isCoroutine := false }
abbrev CX0 : CXT := fun _ _ _ _ _ _ => False
abbrev E0 : XK := fun _ _ _ => False
theorem pass0 {X : Cx} : Passes CX0 X E0 := fun _ _ _ _ _ _ _ h => h.elim
structure Fun (K : PySem.W.Frag) (x qual : Str) (st : Stmt) (f : Addr) (fd : FuncData) : Prop where
  ex : ∃ (oc : Value) (od : Option Addr) (kV doc pm : Value) (an : Option Addr) (cdv ct : Value) (osl : Array (Option Value)),
    fd = PySem.W.fnOf x qual (defArgs st) (defBody st) (defScope st) .none kV doc pm an cdv ct ∧ K.lookup f = some ⟨oc, od, .func fd, osl⟩ ∧ PySem.W.codeIn K cdv qual = true
  kp : PySem.W.keepIn K (.ref f) = true
section
variable {P : Program} {w : World} {K : PySem.W.Frag} {mg : Str → Option Value} {base : Heap}
theorem Fun.ok {x qual : Str} {st : Stmt} {f : Addr} {fd : FuncData} {N ps : List Str} {k : Nat} {sp : Sp} (F : Fun K x qual st f fd) (S : FnScope N ps (defScope st)) (len : ∀ vs H Q E, sp vs H Q E → vs.length = ps.length)
    (hbody : ∀ (cdv : Value) (A : Around) (outer : List Env) (s : Shared) (H : Hp) (vs : List V) (Q : VK) (E : XK), Room k (A.deeper (envOfC qual (defScope st) s.heap.objs.size f cdv)) → sp vs H Q E →
      ∃ t, PSs (cxOf CX0 P w K mg base N qual (defScope st) f cdv A outer s H E).nox (defBody st) t ∧ t { nx := fun _ H' => Q .non H', rt := Q } (start N vs) H) : FnOk P w K mg base CX0 (k + 1) f fd ps sp := by
  obtain ⟨oc, od, kV, doc, pm, an, cdv, ct, osl, rfl, lk, hcd⟩ := F.ex
  refine fn_of lk hcd S len fun A outer s H vs Q E hr hsp => ?_
  obtain ⟨t, h, q⟩ := hbody cdv A outer s H vs Q E hr hsp
  exact ⟨t, h.nox, q⟩
theorem Fun.binds {x qual : Str} {st : Stmt} {f : Addr} {fd : FuncData} {ps : List Str} (F : Fun K x qual st f fd)
    (h : ∀ (kV doc pm : Value) (an : Option Addr) (cdv ct : Value) (us : List Value), us.length = ps.length → bindArgs (PySem.W.fnOf x qual (defArgs st) (defBody st) (defScope st) .none kV doc pm an cdv ct) ⟨us, []⟩ = pure (ps.zip us)) : Binds K fd ps [] := by
  obtain ⟨oc, od, kV, doc, pm, an, cdv, ct, osl, rfl, lk, hcd⟩ := F.ex
  exact .all (h kV doc pm an cdv ct)
theorem fun_mk {x qual : Str} {st : Stmt} {f : Addr} {oc : Value} {od an : Option Addr} {osl : Array (Option Value)} {kV doc pm cdv ct : Value} (l : K.lookup f = some ⟨oc, od, .func (PySem.W.fnOf x qual (defArgs st) (defBody st) (defScope st) .none kV doc pm an cdv ct), osl⟩)
    (c : PySem.W.codeIn K cdv qual = true) (k : PySem.W.keepIn K (.ref f) = true) : Fun K x qual st f (PySem.W.fnOf x qual (defArgs st) (defBody st) (defScope st) .none kV doc pm an cdv ct) := ⟨⟨oc, od, kV, doc, pm, an, cdv, ct, osl, rfl, l, c⟩, k⟩
end
theorem small1000 {n : Nat} (h : n ≤ 1000) : n < sizeLine := Nat.lt_of_le_of_lt h (by decide)
section
variable {X : Cx}
theorem pv (i : Nat) {x : Str} {pos : Pos} (hN : X.N[i]? = some x := by rfl) (hv : Vis X.env.scope x := by first | exact Or.inl rfl | exact Or.inr (Or.inl rfl) | exact Or.inr (Or.inr rfl)) (hd : (x == ("__debug__" : Str)) = false := by decide)
    (hcd : (x == ("__classdict__" : Str)) = false := by decide) : PE X (.Name x pos) (tVar i) := pe_var hN hv hd hcd
end
theorem iteF {A B : Prop} (h : B) : if false = true then A else B := by
  rw [if_neg Bool.false_ne_true]
  exact h
theorem iteT {A B : Prop} (h : A) : if true = true then A else B := by
  rw [if_pos rfl]
  exact h
theorem ite2 {c A B : Prop} [Decidable c] (h1 : c → A) (h2 : ¬ c → B) : if c then A else B := by
  by_cases h : c
  · rw [if_pos h]
    exact h1 h
  · rw [if_neg h]
    exact h2 h
def Same (H H' : Hp) : Prop := ∀ b o, H b = some o → H' b = some o
theorem Same.trans {H H1 H2 : Hp} (a : Same H H1) (b : Same H1 H2) : Same H H2 := fun c o h => b c o (a c o h)
theorem Same.seq {K : PySem.W.Frag} {H H' : Hp} {a : Addr} {xs : List V} (e : Same H H') (h : SqL K H a xs) : SqL K H' a xs := by
  rcases h with (h | ⟨o, h⟩) | h
  · exact .inl (.inl (e _ _ h))
  · exact .inl (.inr ⟨o, e _ _ h⟩)
  · exact .inr h
end L2
namespace L2
open PySem PySem.Spec PyProof.Rows
section
variable {κ : Type} [DecidableEq κ]
def valV (kvs : List (κ × V)) (k : κ) : Option V := (kvs.find? fun kv => decide (kv.1 = k)).map (·.2)
def putK (kvs : List (κ × V)) (k : κ) (v : V) : List (κ × V) :=
  if (kvs.any fun kv => decide (kv.1 = k)) = true then kvs.map (fun kv => if kv.1 = k then (kv.1, v) else kv) else kvs ++ [(k, v)]
theorem valV_pos {p : κ × V} {r : List (κ × V)} {k : κ} (e : p.1 = k) : valV (p :: r) k = some p.2 := by simp [valV, List.find?_cons, e]
theorem valV_neg {p : κ × V} {r : List (κ × V)} {k : κ} (e : ¬ p.1 = k) : valV (p :: r) k = valV r k := by simp [valV, List.find?_cons, e]
theorem valV_any (k : κ) : ∀ kvs : List (κ × V), (kvs.any fun kv => decide (kv.1 = k)) = (valV kvs k).isSome
  | [] => rfl
  | p :: r => by
    rw [List.any_cons]
    by_cases e : p.1 = k
    · simp only [valV_pos e, decide_eq_true e, Bool.true_or, Option.isSome_some]
    · rw [valV_neg e, decide_eq_false e, Bool.false_or]; exact valV_any k r
theorem length_putK (kvs : List (κ × V)) (k : κ) (v : V) : (putK kvs k v).length ≤ kvs.length + 1 := by
  unfold putK
  split
  · rw [List.length_map]; omega
  · rw [List.length_append, List.length_cons, List.length_nil]; omega
theorem RelO.isSome_eq {o : Option V} {u : Option Value} (r : RelO o u) : o.isSome = u.isSome := by
  cases o with
  | none => cases u with
    | none => rfl
    | some _ => exact (show False from r).elim
  | some _ => cases u with
    | none => exact (show False from r).elim
    | some _ => rfl
theorem RelO.getD {o : Option V} {u : Option Value} {d : V} {d' : Value} (r : RelO o u) (rd : RelV d d') : RelV (o.getD d) (u.getD d') := by
  cases o with
  | none => cases u with
    | none => exact rd
    | some _ => exact (show False from r).elim
  | some _ => cases u with
    | none => exact (show False from r).elim
    | some _ => exact r
theorem KV.val {kvs : List (κ × V)} {vs : List (κ × Value)} (r : KV kvs vs) (k : κ) : RelO (valV kvs k) (valueAt vs k) := by
  unfold KV at r
  induction r with
  | nil => exact True.intro
  | @cons p q ps qs h t ih =>
    obtain ⟨h1, h2⟩ := h
    by_cases e : p.1 = k
    · have e' : q.1 = k := h1.symm.trans e
      have b : valueAt (q :: qs) k = some q.2 := by simp [valueAt, List.find?_cons, e']
      rw [valV_pos e, b]; exact h2
    · have e' : ¬ q.1 = k := fun z => e (h1.trans z)
      have b : valueAt (q :: qs) k = valueAt qs k := by simp [valueAt, List.find?_cons, e']
      rw [valV_neg e, b]; exact ih
theorem KV.any {kvs : List (κ × V)} {vs : List (κ × Value)} (r : KV kvs vs) (k : κ) : (kvs.any fun kv => decide (kv.1 = k)) = vs.any fun kv => decide (kv.1 = k) := by
  unfold KV at r
  induction r with
  | nil => rfl
  | cons h t ih => rw [List.any_cons, List.any_cons, ih, h.1]
theorem KV.repl {kvs : List (κ × V)} {vs : List (κ × Value)} (r : KV kvs vs) (k : κ) {y : V} {u : Value} (ry : RelV y u) :
    KV (kvs.map fun kv => if kv.1 = k then (kv.1, y) else kv) (vs.map fun kv => if kv.1 = k then (kv.1, u) else kv) := by
  unfold KV at r ⊢
  induction r with
  | nil => exact .nil
  | @cons p q ps qs h t ih =>
    rw [List.map_cons, List.map_cons]
    refine .cons ?_ ih
    obtain ⟨h1, h2⟩ := h
    by_cases e : p.1 = k
    · rw [if_pos e, if_pos (h1.symm.trans e)]; exact ⟨h1, ry⟩
    · rw [if_neg e, if_neg (fun z => e (h1.trans z))]; exact ⟨h1, h2⟩
theorem KV.put {kvs : List (κ × V)} {vs : List (κ × Value)} (r : KV kvs vs) (k : κ) {y : V} {u : Value} (ry : RelV y u) : KV (putK kvs k y) (stored vs k u) := by
  unfold putK stored
  rw [r.any k]
  by_cases e : (vs.any fun kv => decide (kv.1 = k)) = true
  · rw [if_pos e, if_pos e]; exact r.repl k ry
  · rw [if_neg e, if_neg e]; exact Paired.snoc r ⟨rfl, ry⟩
theorem KV.length {kvs : List (κ × V)} {vs : List (κ × Value)} (r : KV kvs vs) : kvs.length = vs.length := Paired.length r
end
theorem kV_is {P : Program} {w : World} {k : Key} {u : Value} (r : RelV (kV k) u) : (mixKind P w).is k u = true := by
  cases k with
  | inl i => obtain ⟨t, e⟩ := (show ∃ t, u = Value.int i t from r); subst e; exact mixKind_int P w i t
  | inr x => obtain ⟨t, e⟩ := (show ∃ t, u = Value.str x t from r); subst e; exact mixKind_str P w x t
theorem items_are {P : Program} {w : World} : ∀ {ks : List Key} {us : List Value}, Vals (ks.map kV) us → ItemsAre (mixKind P w) ks us
  | [], _, r => by rw [List.map_nil] at r; cases r; exact .nil
  | k :: ks, _, r => by
    rw [List.map_cons] at r
    cases r with
    | cons h t => exact .cons (kV_is h) (items_are t)
abbrev KT (H : Hp) : List (List Key × V) → List (List Key × Addr × Value) → Prop := Paired fun p q => p.1 = q.1 ∧ H q.2.1 = some (.tup (p.1.map kV)) ∧ RelV p.2 q.2.2
theorem KT.val {H : Hp} {kvs : List (List Key × V)} {xs : List (List Key × Addr × Value)} (r : KT H kvs xs) (k : List Key) : RelO (valV kvs k) ((atKey xs k).map (·.2)) := by
  induction r with
  | nil => exact True.intro
  | @cons p q ps qs h t ih =>
    obtain ⟨h1, _, h2⟩ := h
    by_cases e : p.1 = k
    · have e' : q.1 = k := h1.symm.trans e
      have b : atKey (q :: qs) k = some q.2 := by simp [atKey, List.find?_cons, e']
      rw [valV_pos e, b]; exact h2
    · have e' : ¬ q.1 = k := fun z => e (h1.trans z)
      have b : atKey (q :: qs) k = atKey qs k := by simp [atKey, List.find?_cons, e']
      rw [valV_neg e, b]; exact ih
theorem KT.repl {H : Hp} {kvs : List (List Key × V)} {xs : List (List Key × Addr × Value)} (r : KT H kvs xs) (k : List Key) {y : V} {u : Value} (ry : RelV y u) :
    KT H (kvs.map fun kv => if kv.1 = k then (kv.1, y) else kv) (xs.map (putAt k u)) := by
  induction r with
  | nil => exact .nil
  | @cons p q ps qs h t ih =>
    rw [List.map_cons, List.map_cons]
    refine .cons ?_ ih
    obtain ⟨h1, h2, h3⟩ := h
    unfold putAt
    by_cases e : p.1 = k
    · rw [if_pos e, if_pos (h1.symm.trans e)]; exact ⟨h1, h2, ry⟩
    · rw [if_neg e, if_neg (fun z => e (h1.trans z))]; exact ⟨h1, h2, h3⟩
theorem KT.put {H : Hp} {kvs : List (List Key × V)} {xs : List (List Key × Addr × Value)} (r : KT H kvs xs) (k : List Key) {b : Addr} {y : V} {u : Value} (hb : H b = some (.tup (k.map kV))) (ry : RelV y u) :
    KT H (putK kvs k y) (storedH xs k b u) := by
  have e : (kvs.any fun kv => decide (kv.1 = k)) = (atKey xs k).isSome := by
    rw [valV_any, (r.val k).isSome_eq, Option.isSome_map]
  unfold putK storedH
  rw [e]
  by_cases q : (atKey xs k).isSome = true
  · rw [if_pos q, if_pos q]; exact r.repl k ry
  · rw [if_neg q, if_neg q]; exact Paired.snoc r ⟨rfl, hb, ry⟩
theorem KT.keeps {H H' : Hp} {kvs : List (List Key × V)} {xs : List (List Key × Addr × Value)} (r : KT H kvs xs) (ht : ∀ b ys, H b = some (.tup ys) → H' b = some (.tup ys)) : KT H' kvs xs :=
  Paired.mapP r fun _ _ z => ⟨z.1, ht _ _ z.2.1, z.2.2⟩
section
variable {P : Program} {w : World} {H : Hp} {h : Heap} {a : Addr}
theorem rd_of {u : HO} (ok : HOk P w H h) (e : Rd H a u) : ObjOk P w H h a u := e.ok ok
theorem dk_rd {kvs : List (Key × V)} (ok : HOk P w H h) (e : Rd H a (.dK kvs)) : kvs.length ≤ sizeLine ∧ (a == sysModules) = false ∧ ∃ vs, KV kvs vs ∧ h.DictOf (mixKind P w) a vs :=
  show ObjOk P w H h a (.dK kvs) from rd_of ok e
theorem dk_of {kvs : List (Key × V)} (ok : HOk P w H h) (e : H a = some (.dK kvs)) : kvs.length ≤ sizeLine ∧ (a == sysModules) = false ∧ ∃ vs, KV kvs vs ∧ h.DictOf (mixKind P w) a vs := dk_rd ok (.inl e)
theorem key_of {ks : List Key} (ok : HOk P w H h) (e : H a = some (.tup (ks.map kV))) : (tupleKind (mixKind P w)).is h ks a := by
  obtain ⟨_, its, r, o, h1, h2, n, h3⟩ := (show ObjOk P w H h a (.tup (ks.map kV)) from ok a _ e)
  exact ⟨o, its.toArray, n, h1, h2, h3, by simpa using items_are r⟩
theorem dt_rd {kvs : List (List Key × V)} (ok : HOk P w H h) (e : Rd H a (.dT kvs)) : kvs.length ≤ sizeLine ∧ (a == sysModules) = false ∧
    ∃ xs, KT H kvs xs ∧ h.DictOfH (tupleKind (mixKind P w)) a xs := by
  obtain ⟨z, y, xs, r, o, es, ep, h1, h2, h3, h4, h5⟩ := (show ObjOk P w H h a (.dT kvs) from rd_of ok e)
  refine ⟨z, y, xs, r, o, es, ep, h1, h2, h3, h4, fun x hx => ?_, h5⟩
  have all : ∀ {l : List (List Key × V)} {m : List (List Key × Addr × Value)}, KT H l m → ∀ x ∈ m, (tupleKind (mixKind P w)).is h x.1 x.2.1 := by
    intro l m q
    induction q with
    | nil => intro x hx; exact nomatch hx
    | @cons p q ps qs hq t ih =>
      intro x hx
      rcases List.mem_cons.mp hx with e | hx
      · subst e
        exact key_of ok (by rw [← hq.1]; exact hq.2.1)
      · exact ih x hx
  exact all r x hx
theorem dt_of {kvs : List (List Key × V)} (ok : HOk P w H h) (e : H a = some (.dT kvs)) : kvs.length ≤ sizeLine ∧ (a == sysModules) = false ∧
    ∃ xs, KT H kvs xs ∧ h.DictOfH (tupleKind (mixKind P w)) a xs := dt_rd ok (.inl e)
end
def DGet (H : Hp) (a : Addr) (y : V) (r : Option V) : Prop :=
  (∃ kvs k, Rd H a (.dK kvs) ∧ y = kV k ∧ r = valV kvs k) ∨ ∃ kvs k b, Rd H a (.dT kvs) ∧ y = .ref b ∧ H b = some (.tup (k.map kV)) ∧ r = valV kvs k
def DPut (H : Hp) (a : Addr) (y v : V) (H' : Hp) : Prop :=
  (∃ kvs k, H a = some (.dK kvs) ∧ y = kV k ∧ kvs.length < sizeLine ∧ H' = upd H a (.dK (putK kvs k v))) ∨
  ∃ kvs k b, H a = some (.dT kvs) ∧ y = .ref b ∧ H b = some (.tup (k.map kV)) ∧ kvs.length < sizeLine ∧ H' = upd H a (.dT (putK kvs k v))
theorem DGet.t {H : Hp} {a b : Addr} {kvs : List (List Key × V)} {k : List Key} (e : H a = some (.dT kvs)) (eb : H b = some (.tup (k.map kV))) : DGet H a (.ref b) (valV kvs k) := .inr ⟨kvs, k, b, .inl e, rfl, eb, rfl⟩
theorem DPut.t {H : Hp} {a b : Addr} {kvs : List (List Key × V)} {k : List Key} {v : V} (e : H a = some (.dT kvs)) (eb : H b = some (.tup (k.map kV))) (hl : kvs.length < sizeLine) :
    DPut H a (.ref b) v (upd H a (.dT (putK kvs k v))) := .inr ⟨kvs, k, b, e, rfl, eb, hl, rfl⟩
section
variable {X : Cx} {pins : List (Addr × Obj)} {σ : St} {H : Hp} {s : Shared} {a : Addr} {y v : V} {u r : Value} {o : Option V} {A : Around} {E : Value → Shared → Prop}
theorem Inv.big (I : Inv X pins σ H s) : sysModules < s.heap.objs.size := by
  have h : mainGlobals < s.heap.objs.size := (I.mod.glob.keeps I.bk).lt
  exact Nat.lt_trans (by decide) h
theorem d_getItem {Q : Value → Shared → Prop} (hu : A.units + 1 < cLine) (I : Inv X pins σ H s) (g : DGet H a y (some v)) (ry : RelV y u) (h : ∀ w' s', Inv X pins σ H s' → RelV v w' → Q w' s') :
    wpAny (model X.prog X.w) A (getItem (.ref a) u) Q E s := by
  rcases g with ⟨kvs, k, e, ey, l⟩ | ⟨kvs, k, b, e, ey, eb, l⟩
  · subst ey
    obtain ⟨z, hd, vs, rel, dd⟩ := dk_rd I.hok e
    obtain ⟨w', hw, rw'⟩ := RelO.some_of (v := v) (o := valueAt vs k) (by rw [l]; exact rel.val k)
    exact wpAny_getItem_of (kV_is ry) dd.mapOf hw (h w' _ (I.tok _) rw')
  · subst ey
    cases (show u = Value.ref b from ry)
    obtain ⟨z, hd, xs, rel, dd⟩ := dt_rd I.hok e
    obtain ⟨w', hw, rw'⟩ := RelO.some_of (v := v) (o := (atKey xs k).map (·.2)) (by rw [l]; exact rel.val k)
    obtain ⟨p, hp, hp2⟩ := Option.map_eq_some_iff.mp hw
    refine wpAny_getItem_heap (tupleKind_room_in1 hu) (key_of I.hok eb) dd hp ?_
    rw [hp2]
    exact h w' _ (I.tok _) rw'
theorem d_write {h' : Heap} {t' : Nat} {ob : HO} (I : Inv X pins σ H s) (mu : Mut (H a)) (hs : Heap.SameBut a s.heap h') (he : ∃ q, h'.get? a = some q) (new : ObjOk X.prog X.w (upd H a ob) h' a ob) :
    Inv X pins σ (upd H a ob) { s with heap := h', toks := t' } :=
  I.write (x := a) (e := a) mu (.inl rfl) (fun b q hb z => (hs.2 b hb).trans z) he new
theorem dk_new {P : Program} {w : World} {H' : Hp} {h' : Heap} {kvs : List (Key × V)} {vs : List (Key × Value)} (z : kvs.length ≤ sizeLine) (hd : (a == sysModules) = false) (rel : KV kvs vs) (dd : h'.DictOf (mixKind P w) a vs) :
    ObjOk P w H' h' a (.dK kvs) := ⟨z, hd, vs, rel, dd⟩
theorem d_setItem {H' : Hp} {Q : Unit → Shared → Prop} (hu : A.units + 1 < cLine) (I : Inv X pins σ H s) (g : DPut H a y v H') (ry : RelV y u) (rv : RelV v r) (h : ∀ s', Inv X pins σ H' s' → Q () s') :
    wpAny (model X.prog X.w) A (setItem (.ref a) u r) Q E s := by
  rcases g with ⟨kvs, k, e, ey, l, eH⟩ | ⟨kvs, k, b, e, ey, eb, l, eH⟩
  · subst ey eH
    obtain ⟨z, hd, vs, rel, dd⟩ := dk_of I.hok e
    have hz : vs.length ≤ sizeLine := by rw [← rel.length]; exact z
    have hl : (putK kvs k v).length ≤ sizeLine := by have := length_putK kvs k v; omega
    refine wpAny_setItem_pairs (hsz := hz) (kV_is ry) dd fun h' dd' hs => h _ ?_
    have he : ∃ q, h'.get? a = some q := let ⟨q, _, _, hq, _⟩ := dd'; ⟨q, hq⟩
    exact d_write I (by rw [e]; exact True.intro) hs he (dk_new hl hd (rel.put k rv) dd')
  · subst ey eH
    cases (show u = Value.ref b from ry)
    obtain ⟨z, hd, xs, rel, dd⟩ := dt_of I.hok e
    have hz : xs.length ≤ sizeLine := by rw [← Paired.length rel]; exact z
    have hl : (putK kvs k v).length ≤ sizeLine := by have := length_putK kvs k v; omega
    refine wpAny_setItem_heap (hsz := hz) (tupleKind_room_in1 hu) (key_of I.hok eb) dd fun h' dd' hs => h _ ?_
    obtain ⟨q, es, ep, hq, h2, h3, h4, _, h5⟩ := dd'
    refine d_write I (by rw [e]; exact True.intro) hs ⟨q, hq⟩ ⟨hl, hd, _, (rel.put k eb rv).keeps fun c ys ec => ?_, q, es, ep, hq, h2, h3, h4, h5⟩
    rw [upd_ne (ne_of ec e (fun z => nomatch z))]
    exact ec
end
section
variable {X : Cx} {pins : List (Addr × Obj)} {σ : St} {H : Hp} {s : Shared} {a : Addr} {kvs : List (Key × V)} {k : Key} {u : Value} {A : Around} {E : Value → Shared → Prop}
end
def NoSl (i : Expr) : Prop := ∀ ov iv, subscripted i false ov iv = operate [ov, iv] (getItem ov iv)
theorem subD_of {prog : Program} {w : World} {A : Around} {E : Value → Shared → Prop} {s : Shared} {env : Env} {value slice : Expr} {pos : Pos} {T id : String} {Q : Value → Shared → Prop}
    (hl : typeLookup (.type T) "__getitem__" = pure (some (.builtin id))) (hs : NoSl slice)
    (h : wpAny (model prog w) A (eval value env) (fun o s₁ => wpAny (model prog w) A (eval slice env) (fun i s₂ => s₂.TypeIs o T ∧ wpAny (model prog w) A (getItem o i) Q E s₂) E s₁) E s) :
    wpAny (model prog w) A (eval (.Subscript value slice pos) env) Q E s := by
  refine Subscript_ (wpAny_mono h (fun o s₁ h₁ => wpAny_mono h₁ (fun i s₂ h₂ => ?_) fun _ _ x => x) fun _ _ x => x)
  obtain ⟨hT, h₂⟩ := h₂
  unfold subscriptTail
  refine wpAny_bind ?_
  rw [getitemInPython_of_ne hT.not_modules]
  refine wpAny_bind (wpAny_specialOf hT hl ?_)
  have fin : wpAny (model prog w) A (subscripted slice false o i) (fun r s₃ => wpAny (model prog w) A (letTemporaryGo value o r >>= fun _ => pure r) Q E s₃) E s₂ := by
    rw [hs o i]
    exact wpAny_operating (wpAny_mono h₂ (fun r s₃ h₃ => wpAny_bind (wpAny_letTemporaryGo (wpAny_pure h₃))) fun _ _ x => x)
  first
    | exact wpAny_pure (wpAny_bind fin)
    | exact wpAny_bind (wpAny_pure (wpAny_bind fin))
    | exact wpAny_bind fin
theorem dict_typeIs {X : Cx} {pins : List (Addr × Obj)} {σ : St} {H : Hp} {s : Shared} {a : Addr} {y : V} {o : Option V} (I : Inv X pins σ H s) (g : DGet H a y o) : s.TypeIs (.ref a) "dict" := by
  rcases g with ⟨kvs, k, e, _, _⟩ | ⟨kvs, k, b, e, _, _, _⟩
  · obtain ⟨_, _, vs, _, dd⟩ := dk_rd I.hok e
    exact dd.typeIs
  · obtain ⟨_, _, xs, _, dd⟩ := dt_rd I.hok e
    exact dd.typeIs
def tDGet (td ty : TE) : TE := fun σ H Q => td σ H fun x H1 => ty σ H1 fun y H2 => ∃ a v, x = .ref a ∧ DGet H2 a y (some v) ∧ Q v H2
def sDPut (td ty tv : TE) : TS := fun D σ H => tv σ H fun v H1 => td σ H1 fun x H2 => ty σ H2 fun y H3 => ∃ a H4, x = .ref a ∧ DPut H3 a y v H4 ∧ D.nx σ H4
section
variable {X : Cx} {o i e value : Expr} {pos pos' tpos : Pos} {td ty tv : TE}
theorem pe_dget (hu : X.A.units + 1 < cLine) (ho : PE X o td) (hi : PE X i ty) (hs : NoSl i) : PE X (.Subscript o i pos) (tDGet td ty) := by
  intro pins s σ H Q I h
  refine subD_of PySem.F.slot_dict_getitem.lookup hs (thn (ho pins s σ H _ I h) fun u s1 ⟨x, H1, I1, rx, q1⟩ => thn (hi pins s1 σ H1 _ I1 q1) fun iv s2 ⟨y, H2, I2, ry, a, v, ex, g, q2⟩ => ?_)
  subst ex
  obtain rfl : u = Value.ref a := rx
  exact ⟨dict_typeIs I2 g, d_getItem hu I2 g ry fun w' s3 I3 rw' => ⟨v, H2, I3, rw', q2⟩⟩
theorem ps_dput (hu : X.A.units + 1 < cLine) (ho : PE X o td) (hi : PE X i ty) (hv : PE X value tv) (hs : swapsWith value (some (.Subscript o i pos')) pos.line X.env = pure false) :
    PS X (.Assign [.Subscript o i pos'] value pos) (sDPut td ty tv) := by
  intro pins s σ H D I h
  refine wpAny_Assign_Subscript (thn (hv pins s σ H _ I h) fun r s1 ⟨v, H1, I1, rv, q1⟩ => thn (ho pins s1 σ H1 _ I1 q1) fun u s2 ⟨x, H2, I2, rx, q2⟩ => thn (hi pins s2 σ H2 _ I2 q2) fun iv s3 ⟨y, H3, I3, ry, a, H4, ex, g, q3⟩ => ?_) hs
  subst ex
  obtain rfl : u = Value.ref a := rx
  exact d_setItem hu I3 g ry rv fun s4 I4 => ⟨σ, H4, I4, q3⟩
end
theorem dt_empty {P : Program} {w : World} {H : Hp} (h : Heap) (hb : sysModules < h.objs.size) : ObjOk P w H (h.push { cls := .type "dict", data := .dict #[] }) h.objs.size (.dT []) :=
  ⟨Nat.zero_le _, beq_eq_false_iff_ne.mpr (Ne.symm (Nat.ne_of_lt hb)), [], .nil, _, #[], 0, Heap.get?_push_size _ rfl, ⟨rfl, rfl, rfl⟩, rfl, rfl, List.nodup_nil⟩
def tDNewT : TE := fun _ H Q => ∀ p, H p = none → Q (.ref p) (upd H p (.dT []))
section
variable {X : Cx} {pos : Pos}
theorem pe_dnewT : PE X (.Dict [] [] pos) tDNewT := fun pins s σ H Q I h =>
  wpAny_Dict_empty ⟨.ref s.heap.objs.size, _, I.laid (a := s.heap.objs.size) (o := .dT []) (t' := s.toks) (fun _ _ q => Heap.get?_push_of_some _ q) (Nat.le_refl _) (dt_empty s.heap I.big), rfl, h _ (I.hok.fresh (Nat.le_refl _))⟩
end
structure M2 (X : Cx) (o : Expr) (m : Str) (apos : Pos) (e f : Expr) (cpos : Pos) : Prop where
  base : attributeBase o m X.env (eval o X.env) = eval o X.env
  few : ((backTo cpos (starEach [e, f] X.env)).all (fun x => !x.1) && (backToKw cpos (keywordEach [] X.env)).all (fun x => x.1.isSome)
    && decide (([e, f] : List Expr).length + ([] : List Keyword).length + (if ([] : List Keyword).isEmpty then 0 else 1) < 30)) = true
  line : (apos.endLine == cpos.line) = true
  trees : backTo cpos (starEach [e, f] X.env) = [(false, eval e X.env), (false, eval f X.env)]
def IsD (H : Hp) (a : Addr) : Prop := (∃ kvs, Rd H a (.dK kvs)) ∨ ∃ kvs, Rd H a (.dT kvs)
theorem isD_at {X : Cx} {pins : List (Addr × Obj)} {σ : St} {H : Hp} {s : Shared} {a : Addr} (I : Inv X pins σ H s) (d : IsD H a) :
    s.TypeIs (.ref a) "dict" ∧ (∀ b, Value.ref a = .ref b → ∃ ob, s.heap.get? b = some ob ∧ ob.dict = none) ∧ (a == sysModules) = false := by
  rcases d with ⟨kvs, e⟩ | ⟨kvs, e⟩
  · obtain ⟨_, hd, vs, _, dd⟩ := dk_rd I.hok e
    refine ⟨dd.typeIs, fun b q => ?_, hd⟩
    cases q
    obtain ⟨ob, _, _, h1, h2, _⟩ := dd
    exact ⟨ob, h1, h2.2.1⟩
  · obtain ⟨_, hd, xs, _, dd⟩ := dt_rd I.hok e
    refine ⟨dd.typeIs, fun b q => ?_, hd⟩
    cases q
    obtain ⟨ob, _, _, h1, h2, _⟩ := dd
    exact ⟨ob, h1, h2.2.1⟩
section
variable {X : Cx} {pins : List (Addr × Obj)} {σ : St} {H : Hp} {s : Shared} {a : Addr} {y d : V} {u r : Value} {o : Option V} {A : Around} {E : Value → Shared → Prop}
theorem d_get2 {Q : Value → Shared → Prop} (hu : A.units + 1 < cLine) (I : Inv X pins σ H s) (g : DGet H a y o) (ry : RelV y u) (rd : RelV d r) (h : ∀ w' s', Inv X pins σ H s' → RelV (o.getD d) w' → Q w' s') :
    wpAny (model X.prog X.w) A (call (.builtin "dict.get") [.ref a, u, r]) Q E s := by
  rcases g with ⟨kvs, k, e, ey, l⟩ | ⟨kvs, k, b, e, ey, eb, l⟩
  · subst ey
    obtain ⟨z, hd, vs, rel, dd⟩ := dk_rd I.hok e
    refine call_meetsIn PySem.F.slot_dict_get dd.typeIs PySem.F.entry_dict_get (PySem.F.args_dict_get_3 _ _ _) (meets_dict_get_default (mixKind X.prog X.w) a (kV_is ry) hd r) ⟨_, dd.mapOf, h _ _ (I.tok _) ?_⟩
    rw [l]
    exact (rel.val k).getD rd
  · subst ey
    cases (show u = Value.ref b from ry)
    obtain ⟨z, hd, xs, rel, dd⟩ := dt_rd I.hok e
    refine call_meetsIn PySem.F.slot_dict_get dd.typeIs PySem.F.entry_dict_get (PySem.F.args_dict_get_3 _ _ _) (meetsH_dict_get_default (tupleKind (mixKind X.prog X.w)) a b hd r) ⟨tupleKind_room_in1 hu, k, xs, key_of I.hok eb, dd, h _ _ (I.tok _) ?_⟩
    rw [l]
    exact (rel.val k).getD rd
end
def tDGet2 (td ty tx : TE) : TE := fun σ H Q => td σ H fun x H1 => ∃ a, x = .ref a ∧ IsD H1 a ∧ ty σ H1 fun y H2 => tx σ H2 fun z H3 => ∃ o, DGet H3 a y o ∧ Q (o.getD z) H3
section
variable {X : Cx} {o e f : Expr} {apos cpos : Pos} {td ty tx : TE}
theorem pe_dget2 (hu : X.A.units + 1 < cLine) (ho : PE X o td) (he : PE X e ty) (hf : PE X f tx) (m : M2 X o "get" apos e f cpos) : PE X (.Call (.Attribute o "get" apos) [e, f] [] cpos) (tDGet2 td ty tx) := by
  intro pins s σ H Q I h
  refine wpAny_Call_method m.base m.few m.line PySem.F.plainAttrs_dict PySem.F.slot_dict_get PySem.F.type_dict_get (thn (ho pins s σ H _ I h) fun u s1 ⟨x, H1, I1, rx, a, ex, d, q1⟩ => ?_)
  subst ex
  obtain rfl : u = Value.ref a := rx
  obtain ⟨t1, t2, _⟩ := isD_at I1 d
  refine ⟨t1, t2, ?_⟩
  rw [m.trees]
  refine Calls.callWith_builtin rfl (Calls.evalArgs_plain (Calls.spliced_cons (thn (he pins s1 σ H1 _ I1 q1) fun iv s2 ⟨y, H2, I2, ry, q2⟩ =>
    Calls.spliced_cons (thn (hf pins s2 σ H2 _ I2 q2) fun fv s3 ⟨z, H3, I3, rz, ov, g, q3⟩ => Calls.spliced_nil ?_))))
  exact d_get2 hu I3 g ry rz fun w' s4 I4 rw' => ⟨_, H3, I4, rw', q3⟩
end
section
variable {X : Cx} {pins : List (Addr × Obj)} {σ : St} {H : Hp} {s : Shared} {a : Addr} {kvs : List (Key × V)} {A : Around} {E : Value → Shared → Prop}
end
section
variable {X : Cx} {pins : List (Addr × Obj)} {σ : St} {H : Hp} {s : Shared} {a : Addr} {y : V} {u : Value} {A : Around} {E : Value → Shared → Prop}
end
end L2
namespace L2
open PySem PySem.Spec PyProof.Rows
section
variable {κ : Type} [DecidableEq κ]
theorem valV_not {kvs : List (κ × V)} {k : κ} (h : valV kvs k = none) : ¬ k ∈ kvs.map (·.1) := by
  intro m
  obtain ⟨p, hp, e⟩ := List.mem_map.mp m
  have q : (kvs.any fun kv => decide (kv.1 = k)) = true := List.any_eq_true.mpr ⟨p, hp, decide_eq_true e⟩
  rw [valV_any, h] at q
  exact absurd q (by simp)
end
end L2
namespace L2
open PySem PySem.Spec PyProof.Rows
def Sz (n : Nat) (x : Int) : Prop := x.natAbs < 2 ^ n
section
variable {m n : Nat} {x y : Int}
theorem Sz.bits (h : Sz n x) : Builtin.Int.intBits x ≤ n := intBits_le_iff.mpr h
theorem Sz.of_bits (h : Builtin.Int.intBits x ≤ n) : Sz n x := intBits_le_iff.mp h
theorem Sz.mono (h : Sz m x) (l : m ≤ n) : Sz n x := .of_bits (Nat.le_trans h.bits l)
theorem Sz.mul (h : Sz m x) (k : Sz n y) : Sz (m + n) (x * y) := .of_bits (intBits_mul_le h.bits k.bits)
theorem Sz.add (h : Sz m x) (k : Sz n y) : Sz (max m n + 1) (x + y) := .of_bits (intBits_add_le h.bits k.bits)
theorem Sz.fdiv (h : Sz m x) : Sz m (x.fdiv y) := .of_bits (intBits_fdiv_le h.bits)
theorem szd (n : Nat) {x : Int} (h : decide (x.natAbs < 2 ^ n) = true := by decide +kernel) : Sz n x := (show x.natAbs < 2 ^ n from of_decide_eq_true h)
theorem sz_of (h : -(2 ^ n : Nat) < x) (k : x < (2 ^ n : Nat)) : Sz n x := by
  unfold Sz
  generalize 2 ^ n = p at h k ⊢
  omega
end
def CMulB (i j : Int) : Prop := ∃ m n, Sz m i ∧ Sz n j ∧ m + n ≤ 134217728
theorem mulB {i j : Int} {m n : Nat} (h : Sz m i) (k : Sz n j) (l : decide (m + n ≤ 134217728) = true := by decide +kernel) : CMulB i j := ⟨m, n, h, k, of_decide_eq_true l⟩
def CDivB (_ j : Int) : Prop := j ≠ 0 ∧ Sz 9000 j
section
variable {X : Cx}
theorem op_mulB : OpR X (binaryOp .Mult) (rI CMulB fun i j => .int (i * j)) := opI fun _ _ _ _ _ _ _ hc q =>
  mul_int q (let ⟨_, _, a, b, c⟩ := hc; IntMulOk.of_le a.bits b.bits c)
theorem op_fdivB : OpR X (binaryOp .FloorDiv) (rI CDivB fun i j => .int (i.fdiv j)) := opI fun _ j _ _ _ _ _ hc q =>
  floordiv_int hc.1 q (.inl (PyProof.noPylong_of_log2 ((Nat.log2_lt (by have := hc.1; omega)).mpr hc.2)))
theorem noPylong_wide {x y : Int} (h : Sz 13500 x) : Builtin.divisionGoesByPylong x y = false := by
  have key : (if x == 0 then 0 else x.natAbs.log2 / 30 + 1) ≤ 450 := by
    by_cases hy : (x == 0) = true
    · rw [if_pos hy]; exact Nat.zero_le _
    · rw [if_neg hy]
      have nz : x.natAbs ≠ 0 := by
        have : ¬ x = 0 := fun e => hy (by rw [e]; rfl)
        omega
      have := (Nat.log2_lt nz).mpr h
      omega
  show (decide ((if y == 0 then 0 else y.natAbs.log2 / 30 + 1) > 300) && decide ((if x == 0 then 0 else x.natAbs.log2 / 30 + 1) > (if y == 0 then 0 else y.natAbs.log2 / 30 + 1) + 150)) = false
  generalize (if y == 0 then 0 else y.natAbs.log2 / 30 + 1) = dy
  generalize (if x == 0 then 0 else x.natAbs.log2 / 30 + 1) = dx at key
  by_cases c : dy > 300
  · rw [decide_eq_false (show ¬ dx > dy + 150 by omega), Bool.and_false]
  · rw [decide_eq_false c, Bool.false_and]
theorem op_fdivW : OpR X (binaryOp .FloorDiv) (rI (fun i j => j ≠ 0 ∧ Sz 13500 i) fun i j => .int (i.fdiv j)) := opI fun _ _ _ _ _ _ _ hc q => floordiv_int hc.1 q (.inl (noPylong_wide hc.2))
theorem all_eq_ints (ns ms : List Int) : ((List.range (min ns.length ms.length)).all (fun j => ns.getD j 0 == ms.getD j 0) && ns.length == ms.length) = decide (ns = ms) := by
  rw [Bool.eq_iff_iff]
  simp only [Bool.and_eq_true, List.all_eq_true, List.mem_range, beq_iff_eq, decide_eq_true_eq]
  constructor
  · rintro ⟨h, l⟩
    refine List.ext_getElem l fun i h1 h2 => ?_
    have := h i (by omega)
    simpa [List.getD_eq_getElem?_getD, h1, h2] using this
  · rintro rfl
    exact ⟨fun _ _ => rfl, rfl⟩
theorem op_eqT (hu : X.A.units < cLine) : OpR X (compareOp .Eq) (fun x y H Q => ∃ (a b : Addr) (ns ms : List Int), x = .ref a ∧ y = .ref b ∧ SqT X.K H a (ns.map V.int) ∧ SqT X.K H b (ms.map V.int) ∧ Q (.bl (decide (ns = ms))) H) := by
  intro pins s σ H x y v u Q I rx ry h
  obtain ⟨a, b, ns, ms, rfl, rfl, ha, hb, q⟩ := h
  cases rx
  cases ry
  obtain ⟨its, rv, ht, _⟩ := I.tuple ha
  obtain ⟨its2, rv2, ht2, _⟩ := I.tuple hb
  have l1 : ns.length = its.length := by rw [← rv.length, List.length_map]
  have l2 : ms.length = its2.length := by rw [← rv2.length, List.length_map]
  refine SeqAt.eq_tupleAt (e := fun j => ns.getD j 0 == ms.getD j 0) (show s.heap.IsTuple a its.toArray from ht) (show s.heap.IsTuple b its2.toArray from ht2) hu (fun j h1 h2 => ?_) ?_
  · have h1' : j < ns.length := by rw [l1]; simpa using h1
    have h2' : j < ms.length := by rw [l2]; simpa using h2
    obtain ⟨u1, e1, r1⟩ := rv.get (i := j) (x := .int ns[j]) (by rw [List.getElem?_map, List.getElem?_eq_getElem h1'] <;> rfl)
    obtain ⟨u2, e2, r2⟩ := rv2.get (i := j) (x := .int ms[j]) (by rw [List.getElem?_map, List.getElem?_eq_getElem h2'] <;> rfl)
    obtain ⟨t1, rfl⟩ := r1
    obtain ⟨t2, rfl⟩ := r2
    have f1 : its.toArray[j] = .int ns[j] t1 := by
      have := (List.getElem?_eq_some_iff.mp e1).2
      simpa using this
    have f2 : its2.toArray[j] = .int ms[j] t2 := by
      have := (List.getElem?_eq_some_iff.mp e2).2
      simpa using this
    rw [f1, f2]
    have g1 : ns.getD j 0 = ns[j] := by simp [List.getD_eq_getElem?_getD, h1']
    have g2 : ms.getD j 0 = ms[j] := by simp [List.getD_eq_getElem?_getD, h2']
    show SeqAt.EqAt X.A.in1 s (.int ns[j] t1) (.int ms[j] t2) (ns.getD j 0 == ms.getD j 0)
    rw [g1, g2]
    exact SeqAt.EqAt.int_int _ _ _ _
  · have e : ((List.range (min its.toArray.size its2.toArray.size)).all (fun j => ns.getD j 0 == ms.getD j 0) && its.toArray.size == its2.toArray.size) = decide (ns = ms) := by
      rw [List.size_toArray, List.size_toArray, ← l1, ← l2]
      exact all_eq_ints ns ms
    rw [e]
    exact ⟨.bl _, H, I, rfl, q⟩
theorem call_isi : CallR X (.builtin "isinstance") (fun xs H Q => ∃ x t c b, xs = [x, .ty c] ∧ TyOf X.K H x t ∧ PySem.W.kitOne X.K t (.type c) = some b ∧ Q (.bl b) H) := by
  intro pins s σ H xs us Q I rv h
  obtain ⟨x, t, c, b, rfl, ty, e, q⟩ := h
  obtain ⟨u, u', rfl, r1, r2⟩ := vals2 rv
  cases (show u' = Value.type c from r2)
  exact isinst_ok I r1 ty e fun tk => ⟨.bl b, H, I.tok tk, rfl, q⟩
end
section
variable {K : PySem.W.Frag}
theorem kit_int_int : PySem.W.kitOne K (.type "int") (.type "int") = some true := by
  show (if ((Value.type "int") == (Value.type "int")) = true then some true else (if PySem.W.kitMeta "int" = true then (PySem.fastBuiltinMro "int").map (·.contains (Value.type "int")) else none)) = some true
  decide +kernel
theorem kit_int_bool : PySem.W.kitOne K (.type "int") (.type "bool") = some false := by
  show (if ((Value.type "int") == (Value.type "bool")) = true then some true else (if PySem.W.kitMeta "bool" = true then (PySem.fastBuiltinMro "int").map (·.contains (Value.type "bool")) else none)) = some false
  decide +kernel
theorem kit_tuple_tuple : PySem.W.kitOne K (.type "tuple") (.type "tuple") = some true := by
  show (if ((Value.type "tuple") == (Value.type "tuple")) = true then some true else (if PySem.W.kitMeta "tuple" = true then (PySem.fastBuiltinMro "tuple").map (·.contains (Value.type "tuple")) else none)) = some true
  decide +kernel
theorem kit_list_list : PySem.W.kitOne K (.type "list") (.type "list") = some true := by
  show (if ((Value.type "list") == (Value.type "list")) = true then some true else (if PySem.W.kitMeta "list" = true then (PySem.fastBuiltinMro "list").map (·.contains (Value.type "list")) else none)) = some true
  decide +kernel
end
def tIfJ (c : TT) (t u : TS) : TS := fun D σ H => ∃ M : St → Hp → Prop, (c σ H fun b H1 => if b = true then t { D with nx := M } σ H1 else u { D with nx := M } σ H1) ∧ ∀ σ' H', M σ' H' → D.nx σ' H'
theorem ps_ifJ {X : Cx} {c : Expr} {a b : List Stmt} {tc : TT} {t u : TS} {pos : Pos} (hc : PT X c tc) (ha : PSs X a t) (hb : PSs X b u) : PS X (.If c a b pos) (tIfJ tc t u) := by
  intro pins s σ H D I h
  obtain ⟨M, h, hM⟩ := h
  have up : ∀ (f : Flow) (s' : Shared), SP X pins { D with nx := M } f s' → SP X pins D f s' := fun f s' q => by
    cases f with
    | next =>
      obtain ⟨σ', H', I', q⟩ := q
      exact ⟨σ', H', I', hM σ' H' q⟩
    | ret v => exact q
    | brk => exact q
    | cont => exact q
  refine wpAny_If (thn (hc pins s σ H _ I h) fun d s1 ⟨H1, I1, q1⟩ => ?_)
  cases d with
  | true => exact thn (ha pins s1 σ H1 _ I1 q1) up
  | false => exact thn (hb pins s1 σ H1 _ I1 q1) up
theorem cpow40 : CPow 10 40 := ⟨by decide, by decide, by decide⟩
theorem small63 {n : Nat} (h : n ≤ 1000) : n ≤ sizeLine := Nat.le_of_lt (small1000 h)
theorem item_at {ns : List Int} {k : Int} (h0 : 0 ≤ k) (h : k < (ns.length : Int)) : ∃ v : Int, atI (ns.map V.int) k = some (.int v) := by
  have hk : k.toNat < ns.length := by omega
  have ek : k = ((k.toNat : Nat) : Int) := by omega
  have q : atI (ns.map V.int) ((k.toNat : Nat) : Int) = some (.int ns[k.toNat]) := atI_nat (by rw [List.getElem?_map, List.getElem?_eq_getElem hk] <;> rfl)
  rw [← ek] at q
  exact ⟨_, q⟩
end L2
namespace L2
open PySem PySem.Spec PyProof.Rows
def Cx.inComp (X : Cx) (Nc : List Str) (sc : Scope) (cl : List (Str × Addr)) (s : Shared) (H : Hp) (ex : List Addr) : Cx :=
  { X with N := Nc, s₀ := s, H₀ := H, env := compEnvC sc cl s.heap.objs.size X.env, outer := X.stack, stack := X.stack, ex := ex, fn := fun _ => false, pn := [], xe := fun _ _ => False }
theorem closure_go {env : Env} {f : Str × NameKind → List (Str × Addr) → Sem (ForInStep (List (Str × Addr)))}
    (hf : ∀ n k r, f (n, k) r = if (k == NameKind.free) = true then (cellOf env n >>= fun c => pure (ForInStep.yield ((n, c) :: r))) else pure (ForInStep.yield r)) :
    ∀ (l : List (Str × NameKind)) (cs : List (Str × Addr)), (∀ x ∈ l, x.2 = .free → ∃ c, env.cells.lookup x.1 = some c) →
      ∃ cl, (forIn l cs f : Sem (List (Str × Addr))) = pure cl ∧ (∀ p ∈ cl, p ∈ cs ∨ env.cells.lookup p.1 = some p.2) ∧ (∀ p ∈ cs, p ∈ cl) ∧ ∀ x ∈ l, x.2 = .free → ∃ c, (x.1, c) ∈ cl := by
  intro l
  induction l with
  | nil =>
    intro cs _
    exact ⟨cs, by rw [List.forIn_nil], fun p hp => .inl hp, fun p hp => hp, fun x hx => absurd hx (by simp)⟩
  | cons y r ih =>
    intro cs h
    obtain ⟨n, k⟩ := y
    by_cases hk : k = .free
    · subst hk
      obtain ⟨c, hc⟩ := h (n, .free) (by simp) rfl
      have e : cellOf env n = pure c := by
        unfold cellOf
        rw [show env.cells.lookup n = some c from hc]
      obtain ⟨cl, h1, h2, h3, h4⟩ := ih ((n, c) :: cs) fun x hx => h x (List.mem_cons_of_mem _ hx)
      refine ⟨cl, ?_, fun p hp => ?_, fun p hp => h3 p (List.mem_cons_of_mem _ hp), fun x hx hf' => ?_⟩
      · rw [List.forIn_cons, hf, if_pos (by decide), e]
        simp only [pure_bind]
        exact h1
      · rcases h2 p hp with z | z
        · rcases List.mem_cons.mp z with z | z
          · subst z; exact .inr hc
          · exact .inl z
        · exact .inr z
      · rcases List.mem_cons.mp hx with z | z
        · subst z; exact ⟨c, h3 _ (by simp)⟩
        · exact h4 x z hf'
    · have hb : (k == NameKind.free) = false := by simpa using hk
      obtain ⟨cl, h1, h2, h3, h4⟩ := ih cs fun x hx => h x (List.mem_cons_of_mem _ hx)
      refine ⟨cl, ?_, h2, h3, fun x hx hf' => ?_⟩
      · rw [List.forIn_cons, hf, hb, if_neg (by decide)]
        simp only [pure_bind]
        exact h1
      · rcases List.mem_cons.mp hx with z | z
        · subst z; exact absurd hf' hk
        · exact h4 x z hf'
theorem lookup_has {α : Type} : ∀ {l : List (Str × α)} {n : Str} {c : α}, (n, c) ∈ l → ∃ d, l.lookup n = some d
  | (k, v) :: r, n, c, h => by
    rw [List.lookup_cons]
    cases hx : (n == k) with
    | true => exact ⟨v, rfl⟩
    | false =>
      rcases List.mem_cons.mp h with z | z
      · cases z
        simp at hx
      · exact lookup_has z
theorem closure_ok {env : Env} {sc : Scope} (h : ∀ x ∈ sc.names, x.2 = .free → ∃ c, env.cells.lookup x.1 = some c) :
    ∃ cl, closureFor sc env = pure cl ∧ (∀ y c, cl.lookup y = some c → env.cells.lookup y = some c) ∧ ∀ x ∈ sc.names, x.2 = .free → ∃ c, cl.lookup x.1 = some c := by
  obtain ⟨cl, h1, h2, _, h4⟩ := closure_go (env := env) (f := fun x r => if (x.2 == NameKind.free) = true then (cellOf env x.1 >>= fun c => pure (ForInStep.yield ((x.1, c) :: r))) else pure (ForInStep.yield r)) (fun _ _ _ => rfl) sc.names [] h
  refine ⟨cl, ?_, fun y c e => ?_, fun x hx hf => ?_⟩
  · unfold closureFor
    have : (forIn sc.names ([] : List (Str × Addr)) fun x r => (match x with | (name, kind) => if (kind == NameKind.free) = true then (do let __do_lift ← cellOf env name; pure (ForInStep.yield ((name, __do_lift) :: r))) else pure (ForInStep.yield r)) : Sem (List (Str × Addr))) = pure cl := h1
    first
      | (simp only [this, pure_bind]; done)
      | (simp only [h1, pure_bind]; done)
      | (rw [show (forIn sc.names ([] : List (Str × Addr)) _ : Sem (List (Str × Addr))) = pure cl from h1]; rfl)
  · rcases h2 (y, c) (PySem.mem_of_lookup e) with z | z
    · exact absurd z (by simp)
    · exact z
  · obtain ⟨c, hc⟩ := h4 x hx hf
    exact lookup_has hc
theorem lookup_relabel (env : Env) : ∀ (names : List (Str × NameKind)) (y : Str),
    (names.map fun (n, k) => if (k == NameKind.free && env.scope.kind == .function && env.kindOf n == some .cell) then (n, NameKind.cell) else (n, k)).lookup y
      = (names.lookup y).map fun k => if (k == NameKind.free && env.scope.kind == .function && env.kindOf y == some .cell) then NameKind.cell else k
  | [], y => rfl
  | (n, k) :: r, y => by
    have ih := lookup_relabel env r y
    rw [List.map_cons]
    dsimp only
    cases hx : (y == n) with
    | true =>
      have e : y = n := by simpa using hx
      subst e
      by_cases c : (k == NameKind.free && env.scope.kind == .function && env.kindOf y == some .cell) = true
      · rw [if_pos c]; simp only [List.lookup_cons, hx, Option.map_some]; rw [if_pos c]
      · rw [if_neg c]; simp only [List.lookup_cons, hx, Option.map_some]; rw [if_neg c]
    | false =>
      by_cases c : (k == NameKind.free && env.scope.kind == .function && env.kindOf n == some .cell) = true
      · rw [if_pos c]; simp only [List.lookup_cons, hx]; exact ih
      · rw [if_neg c]; simp only [List.lookup_cons, hx]; exact ih
def PIfs (X : Cx) (ifs : List Expr) (t : TT) : Prop :=
  ∀ (pins : List (Addr × Obj)) (s : Shared) (σ : St) (H : Hp) (Q : Bool → Hp → Prop), Inv X pins σ H s → t σ H Q →
    wpAny (model X.prog X.w) X.A (forIn ifs true fun c r => if r = true then do let ok ← isTrue c X.env (eval c X.env); pure (ForInStep.yield ok) else pure (ForInStep.yield r)) (TP X pins σ Q) X.xe s
def tYes : TT := fun _ H Q => Q true H
theorem yes {σ : St} {H : Hp} {Q : Bool → Hp → Prop} (h : Q true H) : tYes σ H Q := h
theorem pif_nil {X : Cx} : PIfs X [] tYes := by
  intro pins s σ H Q I h
  rw [List.forIn_nil]
  exact wpAny_pure ⟨H, I, h⟩
theorem pif_one {X : Cx} {c : Expr} {t : TT} (hc : PT X c t) : PIfs X [c] t := by
  intro pins s σ H Q I h
  rw [List.forIn_cons, if_pos rfl]
  refine wpAny_bind (wpAny_bind (thn (hc pins s σ H Q I h) fun b s1 q => wpAny_pure ?_))
  dsimp only
  rw [List.forIn_nil]
  exact wpAny_pure q
theorem thnF {α : Type} {t : Sem α} {Q Q' : α → Shared → Prop} {M : Model} {A : Around} {E : Value → Shared → Prop} {s : Shared} (h : wpAny M A t Q (fun _ _ => False) s) (hQ : ∀ a s, Q a s → Q' a s) : wpAny M A t Q' E s := wpAny_mono h hQ fun _ _ z => z.elim
def tComp (wi : TI) (tt : TT) (te : TE) : TE := fun σ H Q => wi σ H fun J H1 => ∀ D, H1 D = none → ∃ W : Nat → Nat → List V → Hp → Prop, (∃ m, W 0 m [] (upd H1 D (.lst []))) ∧ ∀ i m ys H2, W i m ys H2 →
  H2 D = some (.lst ys) ∧ ((J.stop i H2 ∧ Q (.ref D) H2) ∨ (J.go i H2 ∧ ys.length < sizeLine ∧ ∀ x H3, J.yld i H2 x H3 → tt (σ ++ [some x]) H3 fun b H4 => if b = true then te (σ ++ [some x]) H4 fun y H5 => H5 D = some (.lst ys) ∧ ∃ m', m' < m ∧ W (i + 1) m' (ys ++ [y]) (upd H5 D (.lst (ys ++ [y])))
    else ∃ m', m' < m ∧ W (i + 1) m' ys H4))
structure CompN (N Nc : List Str) (x : Str) (sc fsc : Scope) : Prop where
  kind : sc.kind = .function
  cell : ∀ y ∈ sc.names, y.2 ≠ .cell
  nm : ∀ y ∈ sc.names, y.2 = .local → sc.names.lookup y.1 = some .local
  own : sc.names.lookup x = some .local
  fr : ∀ y ∈ sc.names, y.2 = .free → fsc.names.lookup y.1 = some .cell ∨ fsc.names.lookup y.1 = some .free
  len : Nc.length = N.length + 1
  nd : Nc.Nodup
  last : Nc[N.length]? = some x
  slot : ((List.range N.length).all fun i => match Nc[i]? with
    | some y => (match sc.names.lookup y with | some .free => N[i]? == some y | some .local => false | some .cell => false | _ => true)
    | none => true) = true
theorem CompN.at {N Nc : List Str} {x : Str} {sc fsc : Scope} (C : CompN N Nc x sc fsc) {i : Nat} {y : Str} (hi : i < N.length) (h : Nc[i]? = some y) : sc.names.lookup y ≠ some .local ∧ sc.names.lookup y ≠ some .cell ∧ (sc.names.lookup y = some .free → N[i]? = some y) := by
  have q := List.all_eq_true.mp C.slot i (List.mem_range.mpr hi)
  rw [h] at q
  dsimp only at q
  cases e : sc.names.lookup y with
  | none => exact ⟨fun z => (nomatch z), fun z => (nomatch z), fun z => (nomatch z)⟩
  | some k =>
    rw [e] at q
    cases k with
    | «local» => exact absurd (show false = true from q) Bool.false_ne_true
    | cell => exact absurd (show false = true from q) Bool.false_ne_true
    | free => exact ⟨fun z => (nomatch z), fun z => (nomatch z), fun _ => by simpa using q⟩
    | _ => exact ⟨fun z => (nomatch z), fun z => (nomatch z), fun z => (nomatch z)⟩
section
variable {X : Cx} {elt iter : Expr} {x : Str} {px pos : Pos} {ifs : List Expr} {sc fsc : Scope} {N Nc : List Str} {wi : TI} {tt : TT} {te : TE}
structure CLoc (X : Cx) (pins : List (Addr × Obj)) (H : Hp) (C : Addr) : Prop where
  free : H C = none
  ne : C ≠ X.env.locals
  new : X.s₀.heap.objs.size ≤ C
  cells : ∀ x c, X.env.cells.lookup x = some c → c ≠ C
  pins : ∀ p ∈ X.pn ++ pins, p.1 ≠ C
theorem Inv.sameBut {pins : List (Addr × Obj)} {σ : St} {H : Hp} {s : Shared} {C : Addr} {h' : Heap} (I : Inv X pins σ H s) (c : CLoc X pins H C) (k : Heap.SameBut C s.heap h') : Inv X pins σ H { s with heap := h' } :=
  I.turned (t' := s.toks) (it := C) (fun b o hb e => (k.2 b hb).trans e) c.free c.ne (.inr c.new) c.cells c.pins
theorem set_last {σ : St} {o v : Option V} : (σ ++ [o]).set σ.length v = σ ++ [v] := by
  rw [List.set_append_right _ _ (Nat.le_refl _), Nat.sub_self]
  rfl
theorem comp_core (hE : X.env.scope = fsc) (hXN : X.N = N) (cn : CompN N Nc x sc fsc) (hc : X.calm = true)
    (ht : ∀ cl s H ex, PIfs (X.inComp Nc sc cl s H ex) ifs tt) (he : ∀ cl s H ex, PE (X.inComp Nc sc cl s H ex) elt te)
    {cl : List (Str × Addr)} (clS : ∀ y c, cl.lookup y = some c → X.env.cells.lookup y = some c) (clH : ∀ y ∈ sc.names, y.2 = .free → ∃ c, cl.lookup y.1 = some c)
    {pins : List (Addr × Obj)} {σ : St} {H2 : Hp} {s2 : Shared} {it : Addr} {fp : List Addr} {tn : Nat → Heap → Prop} {J : It} {Q : VK} {E : Value → Shared → Prop}
    (I2 : Inv X pins σ H2 s2) (T : Turn X.prog X.w X.K (.Name x px) J fp it tn) (st2 : tn 0 s2.heap) (f2 : ∀ b ∈ fp, FpOk X pins H2 b)
    (h2 : ∀ D, H2 D = none → ∃ W : Nat → Nat → List V → Hp → Prop, (∃ m, W 0 m [] (upd H2 D (.lst []))) ∧ ∀ i m ys H2, W i m ys H2 →
      H2 D = some (.lst ys) ∧ ((J.stop i H2 ∧ Q (.ref D) H2) ∨ (J.go i H2 ∧ ys.length < sizeLine ∧ ∀ x H3, J.yld i H2 x H3 → tt (σ ++ [some x]) H3 fun b H4 => if b = true then te (σ ++ [some x]) H4 fun y H5 => H5 D = some (.lst ys) ∧ ∃ m', m' < m ∧ W (i + 1) m' (ys ++ [y]) (upd H5 D (.lst (ys ++ [y])))
        else ∃ m', m' < m ∧ W (i + 1) m' ys H4))) :
    wpAny (model X.prog X.w) X.A (newList []) (fun acc s₃ => wpAny (model X.prog X.w) X.A (newFunctionEnv sc X.env.globals cl [] X.env.qual none .none (some X.env)) (fun cenv s₄ =>
      codeAny (model X.prog X.w) X.A (.compStart (.ListComp elt [⟨.Name x px, iter, ifs, 0⟩] sc pos) 0 (.ref it) acc { cenv with scope := relabel sc X.env })
        (fun r s' => r = .ok .next ∧ ∃ D H', acc = .ref D ∧ Inv X pins σ H' s' ∧ Q (.ref D) H' ∧ CLoc X pins H' cenv.locals ∧ ∃ m, s'.heap.Ns cenv.locals m) s₄) E s₃) E s2 := by
  refine wpAny_newObj_type (wpAny_newFunctionEnv cn.cell (by intro y hy; simp at hy) (fun h₁ hns₁ hsb₁ => ?_) cn.kind)
  dsimp only at hns₁ hsb₁ ⊢
  have hD : H2 s2.heap.objs.size = none := I2.hok.fresh (Nat.le_refl _)
  obtain ⟨W, ⟨m0, w0⟩, turn⟩ := h2 s2.heap.objs.size hD
  have I3 : Inv X pins σ (upd H2 s2.heap.objs.size (.lst [])) { s2 with heap := s2.heap.push { cls := .type "list", dict := none, data := .seq ([] : List Value).toArray } } :=
    I2.laid (t' := s2.toks) (fun b u e => Heap.get?_push_of_some _ e) (Nat.le_refl _) ⟨Nat.zero_le _, [], 0, .nil, Heap.get?_push_size _ rfl⟩
  generalize hs3 : ({ s2 with heap := s2.heap.push { cls := .type "list", dict := none, data := .seq ([] : List Value).toArray } } : Shared) = s3 at I3
  have eh : s3.heap = s2.heap.push { cls := .type "list", dict := none, data := .seq ([] : List Value).toArray } := by rw [← hs3]
  have e2 : ({ s2 with heap := h₁, toks := s2.toks + ([] : List (Str × Value)).length } : Shared) = { s3 with heap := h₁, toks := s3.toks } := by rw [← hs3]; rfl
  generalize hH3 : upd H2 s2.heap.objs.size (.lst []) = H3 at I3 w0
  rw [← eh] at hns₁ hsb₁ ⊢
  rw [e2]
  have below2 : ∀ b, b ∈ fp → b < s3.heap.objs.size := fun b hb => by
    obtain ⟨o, e, _⟩ := T.obj _ _ st2 b hb
    have : s2.heap.objs.size ≤ s3.heap.objs.size := by rw [eh, Heap.size_push]; exact Nat.le_succ _
    exact Nat.lt_of_lt_of_le (Heap.lt_size e) this
  have old : ∀ b o, s3.heap.get? b = some o → h₁.get? b = some o := fun b o e => (hsb₁.2 b (Nat.ne_of_lt (Heap.lt_size e))).trans (Heap.get?_push_of_some _ e)
  have old2 : ∀ b o, s2.heap.get? b = some o → s3.heap.get? b = some o := fun b o e => by rw [eh]; exact Heap.get?_push_of_some _ e
  have hsz3 : s2.heap.objs.size < s3.heap.objs.size := by rw [eh, Heap.size_push]; exact Nat.lt_succ_self _
  have fpFree : ∀ b ∈ fp, H3 b = none := fun b hb => by
    rw [← hH3, upd_ne (fun z => ?_)]
    · exact (f2 b hb).1
    · obtain ⟨o, e, _⟩ := T.obj _ _ st2 b hb
      have := Heap.lt_size e
      rw [z] at this
      exact Nat.lt_irrefl _ this
  have rl : ∀ y, (relabel sc X.env).names.lookup y = (sc.names.lookup y).map fun k => if (k == NameKind.free && X.env.scope.kind == .function && X.env.kindOf y == some .cell) then NameKind.cell else k := fun y => lookup_relabel X.env sc.names y
  have freeOf : ∀ y, sc.names.lookup y = some .free → ∃ c, cl.lookup y = some c := fun y e => clH (y, .free) (PySem.mem_of_lookup e) rfl
  have noCell : ∀ y, sc.names.lookup y ≠ some .cell := fun y e => cn.cell (y, .cell) (PySem.mem_of_lookup e) rfl
  have isFree : ∀ y, ((relabel sc X.env).names.lookup y = some .cell ∨ (relabel sc X.env).names.lookup y = some .free) → sc.names.lookup y = some .free := fun y h => by
    rw [rl y] at h
    cases e : sc.names.lookup y with
    | none => rw [e] at h; rcases h with z | z <;> exact absurd z (by simp)
    | some k =>
      rw [e] at h
      cases k with
      | free => rfl
      | cell => exact absurd e (noCell y)
      | «local» => rcases h with z | z <;> exact absurd z (by simp)
      | _ => rcases h with z | z <;> exact absurd z (by simp)
  have ownLoc : (relabel sc X.env).names.lookup x = some .local := by rw [rl x, cn.own]; rfl
  have exOk : ∀ b ∈ fp, b ≠ s3.heap.objs.size ∧ (∀ y c, X.env.cells.lookup y = some c → c ≠ b) ∧ b ∉ frs X.stack := fun b hb => by
    obtain ⟨g0, g1, g2, g3, g4, g5⟩ := f2 b hb
    refine ⟨Nat.ne_of_lt (below2 b hb), g4, fun z => ?_⟩
    rcases List.mem_cons.mp (I2.stkSub b z) with z | z
    · exact g1 z
    · exact g2 z
  have hCnew : X.s₀.heap.objs.size ≤ s3.heap.objs.size := I3.sz
  have hCcell : ∀ y c, X.env.cells.lookup y = some c → c ≠ s3.heap.objs.size := fun y c e z => by
    obtain ⟨v, q⟩ := I3.cell y c e
    have := q.lt
    rw [z] at this
    exact Nat.lt_irrefl _ this
  have hCpin : ∀ p ∈ X.pn ++ pins, p.1 ≠ s3.heap.objs.size := fun p hp z => by
    have := Heap.lt_size (I3.pin p hp).1
    rw [z] at this
    exact Nat.lt_irrefl _ this
  have okc : (X.inComp Nc sc cl s3 H3 fp).Ok := by
    refine ⟨I3.ok.mod, cn.kind, I3.ok.glob, I3.ok.blt, Nat.le_refl _, fun y z c h1 h2 => I3.ok.inj y z c (clS y c h1) (clS z c h2), fun y hy => freeOf y (isFree y hy), fun y c hf => absurd (show false = true from hf) Bool.false_ne_true, I3.ok.hd, I3.ok.frames, .inl rfl,
      fun b hb => ⟨(exOk b hb).1, fun y c e => (exOk b hb).2.1 y c (clS y c e)⟩, fun b o e => I3.bs b o e, Nat.le_trans I3.ok.bsz I3.sz, fun b o e hb => ?_, fun b hb => (exOk b hb).2.2, I3.stack, I3.stkFree⟩
    obtain ⟨g0, g1, g2, g3, g4, g5⟩ := f2 b hb
    rcases g3 with z | z
    · exact I3.ok.noex b o e z
    · exact absurd (Heap.lt_size (I3.ok.bs b o e).1) (Nat.not_lt.mpr z)
  have hlen : σ.length = N.length := by rw [I3.len, hXN]
  have Ic : Inv (X.inComp Nc sc cl s3 H3 fp) [] (σ ++ [none]) H3 { s3 with heap := h₁, toks := s3.toks } := by
    refine ⟨okc, rfl, I3.bare, Un.kept old, ⟨_, hns₁, fun i y v h1 h2 h3 => ?_⟩, fun y c e => ?_, I3.hok.fresh (Nat.le_refl _), fun y c e => I3.freeC y c (clS y c e), fun p hp => absurd (show p ∈ ([] : List (Addr × Obj)) from hp) (by simp), I3.hok.kept old, ?_⟩
    · have hi : i < σ.length := by
        by_cases hi : i < σ.length
        · exact hi
        · rw [List.getElem?_append_right (Nat.not_lt.mp hi)] at h2
          cases e : i - σ.length with
          | zero => rw [e] at h2; cases h2
          | succ k => rw [e] at h2; simp at h2
      rw [List.getElem?_append_left hi] at h2
      have hi' : i < N.length := by rw [← hlen]; exact hi
      obtain ⟨n1, n2, n3⟩ := cn.at hi' h1
      have hf : sc.names.lookup y = some .free := by
        rcases h3 with z | z
        · exfalso
          have z' : (relabel sc X.env).names.lookup y = some .local := z
          rw [rl y] at z'
          cases e : sc.names.lookup y with
          | none => rw [e] at z'; simp at z'
          | some k =>
            rw [e] at z'
            cases k with
            | «local» => exact n1 e
            | cell => exact n2 e
            | free =>
              simp only [Option.map_some, Option.some.injEq] at z'
              split at z' <;> cases z'
            | _ => simp at z'
        · exact isFree y z
      have hN : X.N[i]? = some y := by rw [hXN]; exact n3 hf
      obtain ⟨m, hn, hl⟩ := I3.loc
      have hv : fsc.names.lookup y = some .cell ∨ fsc.names.lookup y = some .free := cn.fr (y, .free) (PySem.mem_of_lookup hf) rfl
      have hv' : X.env.scope.names.lookup y = some .cell ∨ X.env.scope.names.lookup y = some .free := by rw [hE]; exact hv
      obtain ⟨u, ru, lk⟩ := hl i y v hN h2 (.inr hv')
      refine ⟨u, ru, .inr ⟨?_, ?_⟩⟩
      · show (relabel sc X.env).names.lookup y = some .cell ∨ (relabel sc X.env).names.lookup y = some .free
        rw [rl y, hf]
        simp only [Option.map_some, Option.some.injEq]
        split
        · exact .inl rfl
        · exact .inr rfl
      · rcases lk with ⟨kl, _⟩ | ⟨_, c, hc, hcell⟩
        · exfalso
          have kl' : X.env.scope.names.lookup y = some .local := kl
          rw [kl'] at hv'
          rcases hv' with z | z <;> cases z
        · obtain ⟨d, hd⟩ := freeOf y hf
          have ed := clS y d hd
          rw [hc] at ed
          cases ed
          exact ⟨c, hd, hcell.keeps old⟩
    · obtain ⟨v, q⟩ := I3.cell y c (clS y c e)
      exact ⟨v, q.keeps old⟩
    · show (σ ++ [none]).length = Nc.length
      rw [List.length_append, hlen, cn.len]
      rfl
  have stc : tn 0 ({ s3 with heap := h₁, toks := s3.toks } : Shared).heap := T.keep _ _ _ st2 fun b _ o e => old b o (old2 b o e)
  have hDf : s2.heap.objs.size ∉ fp := fun hm => by
    obtain ⟨o, e, _⟩ := T.obj _ _ st2 _ hm
    exact Nat.lt_irrefl _ (Heap.lt_size e)
  have fpc : ∀ {pins' : List (Addr × Obj)} {H' : Hp}, pins' = [] → (∀ b ∈ fp, H' b = none) → ∀ b ∈ fp, FpOk (X.inComp Nc sc cl s3 H3 fp) pins' H' b := fun {pins' H'} hp hn b hb => by
    subst hp
    exact ⟨hn b hb, (exOk b hb).1, (exOk b hb).2.2, .inl hb, fun y c e => (exOk b hb).2.1 y c (clS y c e), fun p hp => absurd (show p ∈ ([] : List (Addr × Obj)) from hp) (by simp)⟩
  have hg : PG (X.inComp Nc sc cl s3 H3 fp) (.Name x px) (gName σ.length) := pg_name (X := X.inComp Nc sc cl s3 H3 fp) cn.nd (by show Nc[σ.length]? = some x; rw [hlen]; exact cn.last) (.inl ownLoc) (.inr ownLoc)
  have loop : ∀ s₄ : Shared, s₄ = { s3 with heap := h₁, toks := s3.toks } →
      codeAny (model X.prog X.w) X.A (.compLoop (.ListComp elt [⟨.Name x px, iter, ifs, 0⟩] sc pos) 0 (.ref it) (.ref s2.heap.objs.size) (compEnvC sc cl s3.heap.objs.size X.env))
        (fun r s' => r = .ok .next ∧ ∃ D H', (Value.ref s2.heap.objs.size) = .ref D ∧ Inv X pins σ H' s' ∧ Q (.ref D) H' ∧ CLoc X pins H' s3.heap.objs.size ∧ ∃ m, s'.heap.Ns s3.heap.objs.size m) s₄ := by
    rintro s₄ rfl
    refine codeAny_compLoop_tests (fun n s' => ∃ (i : Nat) (o : Option V) (H' : Hp) (ys : List V), Inv (X.inComp Nc sc cl s3 H3 fp) [] (σ ++ [o]) H' s' ∧ tn i s'.heap ∧ (∀ b ∈ fp, H' b = none) ∧ W i n ys H') ?_ m0 ⟨0, none, H3, [], Ic, stc, fpFree, w0⟩
    rintro n s' ⟨i, o, H', ys, I', st', fr', w'⟩
    obtain ⟨hDl, tw⟩ := turn i n ys H' w'
    rcases tw with ⟨stop, q⟩ | ⟨go, hz, step⟩
    ·
      refine thn (T.done (X.inComp Nc sc cl s3 H3 fp) rfl rfl rfl hc i [] s' _ H' _ I' (fpc rfl fr') st' stop) fun r s5 ⟨hr, I5⟩ => ?_
      subst hr
      have Ix : Inv X pins σ H' s5 := I3.call' (ch := fp) I5.os I5.base I5.hok I5.bare fun b hb => by
        obtain ⟨g0, g1, g2, g3, g4, g5⟩ := f2 b hb
        exact ⟨g3, g1, g4, g5⟩
      have hCf : H' s3.heap.objs.size = none := I5.free
      obtain ⟨m, hn, _⟩ := I5.loc
      exact ⟨rfl, s2.heap.objs.size, H', rfl, Ix, q, ⟨hCf, fun z => Nat.lt_irrefl _ (by have := I3.lt; rw [← z] at this; exact this), hCnew, hCcell, hCpin⟩, m, hn⟩
    ·
      refine thn (T.item (X.inComp Nc sc cl s3 H3 fp) rfl rfl rfl hc i [] s' _ H' _ I' (fpc rfl fr') st' go) fun r s5 ⟨u, hr, h4⟩ => ?_
      subst hr
      dsimp only
      have e0 : letOwnedTupleGo (.Name x px) (.ref it) u = pure () := rfl
      have e1 : (letOwnedTupleGo (.Name x px) (.ref it) u >>= fun _ => assign (.Name x px) (compEnvC sc cl s3.heap.objs.size X.env) u) = assign (.Name x px) (compEnvC sc cl s3.heap.objs.size X.env) u := by rw [e0, pure_bind]
      rw [← e1]
      refine wpAny_bind (thn h4 fun _ s6 ⟨xv, H5, I5, r5, y5, st5, fr5⟩ => ?_)
      have I5' := I5.pinned (fpc rfl fr5) (T.obj _ _ st5)
      have again : ∀ {H7 : Hp} {s7 : Shared} {m' : Nat} {ys' : List V}, Inv (X.inComp Nc sc cl s3 H3 fp) ([] ++ pinsAt fp s6.heap) (σ ++ [some xv]) H7 s7 → m' < n → W (i + 1) m' ys' H7 →
          ∃ m, m < n ∧ ∃ (i : Nat) (o : Option V) (H' : Hp) (ys : List V), Inv (X.inComp Nc sc cl s3 H3 fp) [] (σ ++ [o]) H' s7 ∧ tn i s7.heap ∧ (∀ b ∈ fp, H' b = none) ∧ W i m ys H' := fun {H7 s7 m' ys'} I7 hm w7 => by
        refine ⟨m', hm, i + 1, some xv, H7, ys', I7.unpinned, T.keep _ _ _ st5 fun b hb o e => (I7.pin (b, o) (List.mem_append_right _ (List.mem_append_right _ (mem_pinsAt hb e)))).1, fun b hb => ?_, w7⟩
        obtain ⟨o', e, d⟩ := T.obj _ _ st5 b hb
        exact (I7.pin (b, o') (List.mem_append_right _ (List.mem_append_right _ (mem_pinsAt hb e)))).2.1
      refine thnF (hg _ s6 _ H5 xv u (fun σ' H'' => σ' = σ ++ [some xv] ∧ H'' = H5) I5' r5 ⟨set_last, rfl⟩) fun _ s7 ⟨σ7, H7, I7, e7, e7'⟩ => ?_
      subst e7
      subst e7'
      refine thnF (ht cl s3 H3 fp _ s7 _ _ _ I7 (step xv _ y5)) fun b s8 ⟨H8, I8, q8⟩ => ?_
      cases b with
      | false =>
        rw [if_neg Bool.false_ne_true] at q8 ⊢
        obtain ⟨m', hm, w8⟩ := q8
        exact again I8 hm w8
      | true =>
        rw [if_pos rfl] at q8 ⊢
        refine thnF (he cl s3 H3 fp _ s8 _ H8 _ I8 q8) fun y s9 ⟨yv, H9, I9, r9, hD9, m', hm, w9⟩ => ?_
        refine thnF (mt_append _ s9 _ H9 (.ref s2.heap.objs.size) [yv] (.ref s2.heap.objs.size) [y] (fun v H => v = .non ∧ H = upd H9 s2.heap.objs.size (.lst (ys ++ [yv]))) I9 rfl (.cons r9 .nil) ⟨_, ys, yv, rfl, rfl, hD9, hz, rfl, rfl⟩) fun _ s10 ⟨v10, H10, I10, r10, e10, e11⟩ => ?_
        subst e11
        exact again I10 hm w9
  exact codeAny_compStart_list (loop _ rfl) (T.self _ 0 _ _ _ stc (loop _ rfl))
theorem comp_has (I : ∀ y, (X.env.kindOf y = some .cell ∨ X.env.kindOf y = some .free) → ∃ c, X.env.cells.lookup y = some c) (hE : X.env.scope = fsc) (cn : CompN N Nc x sc fsc) : ∀ y ∈ sc.names, y.2 = .free → ∃ c, X.env.cells.lookup y.1 = some c := fun y hy hf => by
  refine I y.1 ?_
  show X.env.scope.names.lookup y.1 = some .cell ∨ X.env.scope.names.lookup y.1 = some .free
  rw [hE]
  exact cn.fr y hy hf
theorem pe_comp (hE : X.env.scope = fsc) (hXN : X.N = N) (cn : CompN N Nc x sc fsc) (hc : X.calm = true) (hi : PI X (.Name x px) iter wi)
    (ht : ∀ cl s H ex, PIfs (X.inComp Nc sc cl s H ex) ifs tt) (he : ∀ cl s H ex, PE (X.inComp Nc sc cl s H ex) elt te)
    (hs : ∀ v, foldedSetIterable iter X.env v = pure v := by intro _; rfl) : PE X (.ListComp elt [⟨.Name x px, iter, ifs, 0⟩] sc pos) (tComp wi tt te) := by
  intro pins s σ H Q I h
  obtain ⟨cl, hcl, clS, clH⟩ := closure_ok (env := X.env) (sc := sc) (comp_has I.ok.has hE cn)
  rw [eval_ListComp]
  refine wpAny_comprehension_free (use := none) rfl hs hcl cn.kind cn.nm (thn (hi pins s σ H _ I h) fun v s1 h1 => thn h1 fun itv s2 h2 => ?_)
  obtain ⟨it, fp, tn, J, H2, rfl, I2, T, st2, f2, h2⟩ := h2
  refine thn (comp_core (pos := pos) (iter := iter) hE hXN cn hc ht he clS clH I2 T st2 f2 h2) fun acc s3 h3 => thn h3 fun cenv s4 h4 => codeAny_mono h4 fun r s' h5 => ?_
  obtain ⟨rfl, D, H', rfl, I', q, cloc, m, hn⟩ := h5
  exact ⟨m, hn, fun h' k => ⟨.ref D, H', I'.sameBut cloc k, rfl, q⟩⟩
theorem ps_setC {j : Nat} {y : Str} {py spos : Pos} (hE : X.env.scope = fsc) (hXN : X.N = N) (cn : CompN N Nc x sc fsc) (hc : X.calm = true) (hnd : X.N.Nodup) (hj : X.N[j]? = some y) (hy : X.env.scope.names.lookup y = some .local) (hi : PI X (.Name x px) iter wi)
    (ht : ∀ cl s H ex, PIfs (X.inComp Nc sc cl s H ex) ifs tt) (he : ∀ cl s H ex, PE (X.inComp Nc sc cl s H ex) elt te)
    (hsw : swapsWith (.ListComp elt [⟨.Name x px, iter, ifs, 0⟩] sc pos) (some (.Name y py)) spos.line X.env = pure true)
    (hs : ∀ v, foldedSetIterable iter X.env v = pure v := by intro _; rfl) : PS X (.Assign [.Name y py] (.ListComp elt [⟨.Name x px, iter, ifs, 0⟩] sc pos) spos) (tAsg (tComp wi tt te) (gName j)) := by
  intro pins s σ H D I h
  obtain ⟨cl, hcl, clS, clH⟩ := closure_ok (env := X.env) (sc := sc) (comp_has I.ok.has hE cn)
  rw [exec_Assign_Name_used _ _ _ _ hsw]
  refine wpAny_bind (wpAny_standAt (wpAny_bind ?_))
  show wpAny _ X.A (do let _ ← comprehension (.ListComp elt [⟨.Name x px, iter, ifs, 0⟩] sc pos) sc X.env _ (newList []) false (eval iter X.env) (some (assign (.Name y py) X.env))) _ _ s
  refine wpAny_bind (thn (wpAny_comprehension_free (Q := fun _ s' => SP X pins D .next s') rfl hs hcl cn.kind cn.nm (thn (hi pins s σ H _ I h) fun v s1 h1 => thn h1 fun itv s2 h2 => ?_)) fun _ s' hq => wpAny_pure (wpAny_pure hq))
  obtain ⟨it, fp, tn, J, H2, rfl, I2, T, st2, f2, h2⟩ := h2
  refine thn (comp_core (pos := pos) (iter := iter) (Q := fun x H1 => gName j x σ H1 D.nx) hE hXN cn hc ht he clS clH I2 T st2 f2 h2) fun acc s3 h3 => thn h3 fun cenv s4 h4 => codeAny_mono h4 fun r s' h5 => ?_
  obtain ⟨rfl, D', H', rfl, I', q, cloc, m, hn⟩ := h5
  refine wpAny_assign_Name (store_ok2 (v := .ref D') I' hnd hj (.inl hy) rfl (fun s6 I6 sb => ?_) (.inr hy))
  obtain ⟨a, k, ha⟩ := sb
  refine ⟨m, hn.sameBut k (fun z => ?_), fun h' k' => ⟨_, H', I6.sameBut cloc k', q⟩⟩
  rcases ha with ha | ha
  · exact cloc.ne (z.trans ha)
  · exact cloc.cells _ _ ha z.symm
end
theorem comp_range {lo : Int} {n : Nat} {tt : TT} {te : TE} {σ : St} {H1 : Hp} {Q : Addr → Hp → Prop} (hn : n ≤ sizeLine) (Pv : Addr → Nat → List V → Hp → Prop)
    (h0 : ∀ D, H1 D = none → Pv D 0 [] (upd H1 D (.lst []))) (hD : ∀ D i ys H, Pv D i ys H → H D = some (.lst ys) ∧ ys.length ≤ i)
    (hs : ∀ D i ys H (K1 : VK) (K2 : Hp → Prop), H1 D = none → i < n → Pv D i ys H → (∀ y H5, H5 D = some (.lst ys) → Pv D (i + 1) (ys ++ [y]) (upd H5 D (.lst (ys ++ [y]))) → K1 y H5) → (∀ H4, Pv D (i + 1) ys H4 → K2 H4) →
      tt (σ ++ [some (.int (lo + i))]) H fun b H4 => if b = true then te (σ ++ [some (.int (lo + i))]) H4 K1 else K2 H4)
    (hd : ∀ D ys H, H1 D = none → Pv D n ys H → Q D H) :
    ∀ D, H1 D = none → ∃ W : Nat → Nat → List V → Hp → Prop, (∃ m, W 0 m [] (upd H1 D (.lst []))) ∧ ∀ i m ys H2, W i m ys H2 →
      H2 D = some (.lst ys) ∧ (((Itr lo n).stop i H2 ∧ Q D H2) ∨ ((Itr lo n).go i H2 ∧ ys.length < sizeLine ∧ ∀ x H3, (Itr lo n).yld i H2 x H3 → tt (σ ++ [some x]) H3 fun b H4 => if b = true then te (σ ++ [some x]) H4 fun y H5 => H5 D = some (.lst ys) ∧ ∃ m', m' < m ∧ W (i + 1) m' (ys ++ [y]) (upd H5 D (.lst (ys ++ [y])))
        else ∃ m', m' < m ∧ W (i + 1) m' ys H4)) := by
  intro D hDn
  refine ⟨fun i m ys H => m = n - i ∧ i ≤ n ∧ Pv D i ys H, ⟨n, rfl, Nat.zero_le _, h0 D hDn⟩, ?_⟩
  rintro i m ys H2 ⟨rfl, hi, p⟩
  obtain ⟨e, l⟩ := hD D i ys H2 p
  refine ⟨e, ?_⟩
  by_cases hlt : i < n
  · refine .inr ⟨hlt, Nat.lt_of_le_of_lt l (Nat.lt_of_lt_of_le hlt hn), fun x H3 y => ?_⟩
    obtain ⟨e1, e2⟩ := y
    subst e1 e2
    exact hs D i ys _ _ _ hDn hlt p (fun y H5 h5 p5 => ⟨h5, n - (i + 1), by omega, rfl, hlt, p5⟩) fun H4 p4 => ⟨n - (i + 1), by omega, rfl, hlt, p4⟩
  · have ei : i = n := by omega
    subst ei
    exact .inl ⟨Nat.le_refl _, hd D ys H2 hDn p⟩
theorem comp_list {K : PySem.W.Frag} {a : Addr} {xs : List V} {tt : TT} {te : TE} {σ : St} {H1 : Hp} {Q : Addr → Hp → Prop} (hn : xs.length ≤ sizeLine) (Pv : Addr → Nat → List V → Hp → Prop)
    (h0 : ∀ D, H1 D = none → Pv D 0 [] (upd H1 D (.lst []))) (hD : ∀ D i ys H, Pv D i ys H → H D = some (.lst ys) ∧ ys.length ≤ i) (hl : ∀ D i ys H, H1 D = none → Pv D i ys H → SqL K H a xs)
    (hs : ∀ D i x ys H (K1 : VK) (K2 : Hp → Prop), H1 D = none → xs[i]? = some x → Pv D i ys H → (∀ y H5, H5 D = some (.lst ys) → Pv D (i + 1) (ys ++ [y]) (upd H5 D (.lst (ys ++ [y]))) → K1 y H5) → (∀ H4, Pv D (i + 1) ys H4 → K2 H4) →
      tt (σ ++ [some x]) H fun b H4 => if b = true then te (σ ++ [some x]) H4 K1 else K2 H4)
    (hd : ∀ D ys H, H1 D = none → Pv D xs.length ys H → Q D H) :
    ∀ D, H1 D = none → ∃ W : Nat → Nat → List V → Hp → Prop, (∃ m, W 0 m [] (upd H1 D (.lst []))) ∧ ∀ i m ys H2, W i m ys H2 →
      H2 D = some (.lst ys) ∧ (((Itl K a).stop i H2 ∧ Q D H2) ∨ ((Itl K a).go i H2 ∧ ys.length < sizeLine ∧ ∀ x H3, (Itl K a).yld i H2 x H3 → tt (σ ++ [some x]) H3 fun b H4 => if b = true then te (σ ++ [some x]) H4 fun y H5 => H5 D = some (.lst ys) ∧ ∃ m', m' < m ∧ W (i + 1) m' (ys ++ [y]) (upd H5 D (.lst (ys ++ [y])))
        else ∃ m', m' < m ∧ W (i + 1) m' ys H4)) := by
  intro D hDn
  refine ⟨fun i m ys H => m = xs.length - i ∧ i ≤ xs.length ∧ Pv D i ys H, ⟨xs.length, rfl, Nat.zero_le _, h0 D hDn⟩, ?_⟩
  rintro i m ys H2 ⟨rfl, hi, p⟩
  obtain ⟨e, l⟩ := hD D i ys H2 p
  have q := hl D i ys H2 hDn p
  refine ⟨e, ?_⟩
  by_cases hlt : i < xs.length
  · refine .inr ⟨⟨xs, xs[i], q, by simp [hlt]⟩, Nat.lt_of_le_of_lt l (Nat.lt_of_lt_of_le hlt hn), fun x H3 y => ?_⟩
    obtain ⟨e1, y⟩ := y
    subst e1
    exact hs D i x ys _ _ _ hDn (y xs q) p (fun y H5 h5 p5 => ⟨h5, xs.length - (i + 1), by omega, rfl, hlt, p5⟩) fun H4 p4 => ⟨xs.length - (i + 1), by omega, rfl, hlt, p4⟩
  · have ei : i = xs.length := by omega
    subst ei
    exact .inl ⟨⟨xs, q, Nat.le_refl _⟩, hd D ys H2 hDn p⟩
section
variable {X : Cx}
theorem ix_listK (K : PySem.W.Frag) (h : X.K = K := by rfl) : IxR X (rIxL K) := by subst h; exact ix_list
theorem ix_tupK (K : PySem.W.Frag) (h : X.K = K := by rfl) : IxR X (rIxT K) := by subst h; exact ix_tup
end
end L2
namespace L2
open PySem PySem.Spec PyProof.Rows
section
variable {X : Cx}
theorem call_sum (hc : X.calm = true) : CallR X (.builtin "sum") (fun xs H Q => ∃ (p : Addr) (ns : List Int), xs = [.ref p] ∧ SqL X.K H p (ns.map V.int) ∧ Q (.int ns.sum) H) := by
  intro pins s σ H xs us Q I rv h
  obtain ⟨p, ns, rfl, hS, q⟩ := h
  obtain ⟨u, rfl, r⟩ := vals1 rv
  cases r
  obtain ⟨its, rv, pl, hz⟩ := I.list hS
  have hi := intsAre_of rv
  obtain ⟨xs, e⟩ := hi.allInts.items
  have en : xs.toList.map (·.1) = ns := by
    have := nums_intItems xs
    rw [← e, show its.toArray.toList = its from rfl, hi.numsOf] at this
    exact this.symm
  refine sum_intListG (I.ok.hd hc) (by rw [← e]; exact pl.isList) fun h' tk t' hk => ?_
  rw [preSum_eq, List.take_of_length_le (by simp), en]
  exact ⟨.int ns.sum, H, I.kept hk, ⟨_, rfl⟩, q⟩
theorem mt_bits : MtR X "int.bit_length" (fun x xs H Q => ∃ i : Int, x = .int i ∧ xs = [] ∧ Q (.int (Builtin.Int.intBits i : Nat)) H) := by
  intro pins s σ H x xs v us Q I rx rv h
  obtain ⟨i, rfl, rfl, q⟩ := h
  obtain ⟨t, rfl⟩ := rx
  cases rv
  exact call_int_bit_length ⟨.int _, H, I.tok _, ⟨_, rfl⟩, q⟩
end
theorem cut_take {xs : List V} {j : Nat} : cutV xs none (some (j : Int)) = xs.take j := by
  unfold cutV
  rw [HT.sIx_none, HT.sIx_nat, List.drop_zero, Nat.sub_zero]
  by_cases h : j ≤ xs.length
  · rw [Nat.min_eq_left h]
  · rw [Nat.min_eq_right (by omega), List.take_of_length_le (Nat.le_refl _), List.take_of_length_le (by omega)]
end L2
namespace L2
open PySem PySem.Spec PyProof.Rows
section
variable {M : Model} {A : Around} {E : Value → Shared → Prop} {s : Shared} {env : Env} {outer : List Env} {L e : Addr} {base : Heap}
end
end L2
namespace L2
open PySem PySem.Spec PyProof.Rows
section
variable {X : Cx} {pins : List (Addr × Obj)} {σ : St} {H : Hp} {s : Shared} {e : Addr} {cls : Value} {od : Option Addr}
end
section
variable {X : Cx} {pins : List (Addr × Obj)} {σ : St} {H : Hp} {s s' : Shared} {E : XK} {ev : Value}
end
section
variable {X : Cx} {W : St → XK} {k : Nat} {f : Addr} {fd : FuncData} {ps : List Str} {sp : Sp} {dvs : List V} {ds : List Value} {x : Str} {p pos : Pos} {e : Expr} {es : List Expr} {t : TA}
end
end L2
namespace L2
open PySem PySem.Spec PyProof.Rows
section
variable {X : Cx} {W : St → XK} {C : Addr} {x : Str} {p cpos pos : Pos} {e : Expr} {es : List Expr} {t : TA}
end
section
variable {X : Cx} {pins : List (Addr × Obj)} {σ : St} {H : Hp} {s : Shared} {e : Addr} {cls : Value} {od : Option Addr}
end
section
variable {X : Cx} {pins : List (Addr × Obj)} {σ : St} {H : Hp} {s : Shared} {e C : Addr} {cls : Value} {od : Option Addr} {x n : Str} {i : Nat} {np pos : Pos} {b₀ : Stmt} {suite : List Stmt} {rest : List ExceptHandler} {ts : TS} {tr : TH}
end
end L2
namespace L2
open PySem PySem.Spec PyProof.Rows
section
variable {prog : Program} {w : World} {A : Around} {E : Value → Shared → Prop} {s : Shared} {K : PySem.W.Frag} {a C : Addr} {o : Obj} {od : Option Obj} {name : Str} {tk : Tok}
end
section
variable {X : Cx}
end
end L2
namespace L2
open PySem PySem.Spec PyProof.Rows
section
variable {X : Cx}
end
section
variable {K : PySem.W.Frag} {H H' : Hp} {x : V} {b : Bool}
end
section
variable {K : PySem.W.Frag} {A B : Addr}
end
end L2
namespace L2
open PySem PySem.Spec PyProof.Rows
end L2
namespace L2
open PySem PySem.Spec PyProof.Rows
section
variable {prog : Program} {w : World} {A : Around} {E : Value → Shared → Prop} {s : Shared} {K : PySem.W.Frag} {C P f x : Addr} {ox : Obj} {od : Option Obj} {name : Str} {v : Value}
end
end L2
namespace L2
open PySem PySem.Spec PyProof.Rows
section
variable {prog : Program} {w : World} {A : Around} {E : Value → Shared → Prop} {h : Heap} {g : Array GenState} {d : Drawn} {t : Nat} {os : OsState}
variable {nm q : Str} {C N : Addr} {bs bm : List Value} {hd : Bool} {sn : List Str} {sub : List Value} {ab : Bool} {col : Option Bool} {dd : Option Addr} {k0 k1 k2 k3 k5 : Option Value}
end
section
variable {X : Cx} {W : St → XK} {C P fi : Addr} {k : Nat} {fd : FuncData} {ps ns : List Str} {x : Str} {p cpos pos : Pos} {e : Expr} {es : List Expr} {t : TA}
end
end L2
namespace L2
open PySem PySem.Spec PyProof.Rows
mutual
inductive Rep (K : PySem.W.Frag) (H : Hp) : V → PyData → Prop
  | non : Rep K H .non .none
  | bl (b : Bool) : Rep K H (.bl b) (.bool b)
  | int (i : Int) : Rep K H (.int i) (.int i)
  | str (x : Str) : Rep K H (.str x) (.str x)
  | lst {a : Addr} {xs : List V} {ds : List PyData} : SqL K H a xs → Reps K H xs ds → Rep K H (.ref a) (.list ds)
  | tup {a : Addr} {xs : List V} {ds : List PyData} : SqT K H a xs → Reps K H xs ds → Rep K H (.ref a) (.tuple ds)
inductive Reps (K : PySem.W.Frag) (H : Hp) : List V → List PyData → Prop
  | nil : Reps K H [] []
  | cons {x : V} {xs : List V} {d : PyData} {ds : List PyData} : Rep K H x d → Reps K H xs ds → Reps K H (x :: xs) (d :: ds)
end
section
variable {K : PySem.W.Frag} {H H' : Hp}
mutual
theorem Rep.same (e : Same H H') : ∀ {x : V} {d : PyData}, Rep K H x d → Rep K H' x d
  | _, _, .non => .non
  | _, _, .bl b => .bl b
  | _, _, .int i => .int i
  | _, _, .str x => .str x
  | _, _, .lst h r => .lst (e.seq h) (Reps.same e r)
  | _, _, .tup h r => .tup (by
      rcases h with (h | ⟨o, h⟩) | h
      · exact .inl (.inl (e _ _ h))
      · exact .inl (.inr ⟨o, e _ _ h⟩)
      · exact .inr h) (Reps.same e r)
theorem Reps.same (e : Same H H') : ∀ {xs : List V} {ds : List PyData}, Reps K H xs ds → Reps K H' xs ds
  | _, _, .nil => .nil
  | _, _, .cons r t => .cons (Rep.same e r) (Reps.same e t)
end
theorem Reps.ints : ∀ (ns : List Int), Reps K H (ns.map V.int) (ns.map PyData.int)
  | [] => .nil
  | n :: ns => .cons (.int n) (Reps.ints ns)
end
section
variable {X : Cx} {pins : List (Addr × Obj)} {σ : St} {H : Hp} {s : Shared}
mutual
theorem Inv.reads (I : Inv X pins σ H s) : ∀ {x : V} {d : PyData}, Rep X.K H x d → ∀ {v : Value}, RelV x v → ∃ as, Reads s.heap v d as
  | _, _, .non, v, r => by cases (show v = Value.none from r); exact ⟨_, .none⟩
  | _, _, .bl b, v, r => by cases (show v = Value.bool b from r); exact ⟨_, .bool b⟩
  | _, _, .int i, v, r => by obtain ⟨t, e⟩ := (show ∃ t, v = Value.int i t from r); cases e; exact ⟨_, .int i t⟩
  | _, _, .str x, v, r => by obtain ⟨t, e⟩ := (show ∃ t, v = Value.str x t from r); cases e; exact ⟨_, .str x t⟩
  | _, _, .lst (a := a) h rs, v, r => by
    cases (show v = Value.ref a from r)
    obtain ⟨its, rv, ⟨o, n, e1, e2, _, e4⟩, _⟩ := I.list h
    obtain ⟨as, q⟩ := Inv.readsAll I rs rv
    exact ⟨_, .list e1 e2 e4 q⟩
  | _, _, .tup (a := a) h rs, v, r => by
    cases (show v = Value.ref a from r)
    obtain ⟨its, rv, ⟨o, e1, e2, n, e4⟩, _⟩ := I.tuple h
    obtain ⟨as, q⟩ := Inv.readsAll I rs rv
    exact ⟨_, .tuple e1 e2 e4 q⟩
theorem Inv.readsAll (I : Inv X pins σ H s) : ∀ {xs : List V} {ds : List PyData}, Reps X.K H xs ds → ∀ {vs : List Value}, Vals xs vs → ∃ as, ReadsAll s.heap vs ds as
  | _, _, .nil, _, .nil => ⟨_, .nil⟩
  | _, _, .cons r t, _, .cons q u => by
    obtain ⟨a1, h1⟩ := Inv.reads I r q
    obtain ⟨a2, h2⟩ := Inv.readsAll I t u
    exact ⟨_, .cons h1 h2⟩
end
def rEqD (K : PySem.W.Frag) : R2 := fun x y H Q => ∃ d e, Rep K H x d ∧ Rep K H y e ∧ PySem.SeqAt.shaped d = true ∧ PySem.SeqAt.shaped e = true ∧ Q (.bl (PyData.eqv d e)) H
def rNeD (K : PySem.W.Frag) : R2 := fun x y H Q => ∃ d e, Rep K H x d ∧ Rep K H y e ∧ PySem.SeqAt.shaped d = true ∧ PySem.SeqAt.shaped e = true ∧ Q (.bl (!PyData.eqv d e)) H
theorem op_eqD {K : PySem.W.Frag} (hu : X.A.units + 64 < cLine) (hK : X.K = K := by rfl) : OpR X (compareOp .Eq) (rEqD K) := by
  subst hK
  intro pins s σ H x y v u Q I rx ry h
  obtain ⟨d, e, hx, hy, s1, s2, q⟩ := h
  obtain ⟨as, r1⟩ := I.reads hx rx
  obtain ⟨bs, r2⟩ := I.reads hy ry
  exact eq_dataH r1 r2 s1 s2 hu ⟨.bl _, H, I, rfl, q⟩
theorem op_neD {K : PySem.W.Frag} (hu : X.A.units + 64 < cLine) (hK : X.K = K := by rfl) : OpR X (compareOp .NotEq) (rNeD K) := by
  subst hK
  intro pins s σ H x y v u Q I rx ry h
  obtain ⟨d, e, hx, hy, s1, s2, q⟩ := h
  obtain ⟨as, r1⟩ := I.reads hx rx
  obtain ⟨bs, r2⟩ := I.reads hy ry
  exact ne_dataH r1 r2 s1 s2 hu ⟨.bl _, H, I, rfl, q⟩
end
end L2
namespace L2
open PySem PySem.Spec PyProof.Rows
theorem lri_nolen : typeLookup (.type "list_reverseiterator") "__len__" = pure none := by rw [typeLookup_type, builtinLookup_eq_fast]; kernel_rfl
theorem lri_hint : typeLookup (.type "list_reverseiterator") "__length_hint__" = pure (some (.builtin "list_reverseiterator.__length_hint__")) := by rw [typeLookup_type, builtinLookup_eq_fast]; kernel_rfl
section
variable {prog : Program} {w : World} {A : Around} {E : Value → Shared → Prop} {s : Shared}
theorem lri_size {I : Addr} {Q : Bool → Shared → Prop} (hT : s.TypeIs (.ref I) "list_reverseiterator") (h : Q false s) : wpAny (model prog w) A (Builtin.List.listLengthHint (.ref I)) Q E s := by
  unfold Builtin.List.listLengthHint
  refine wpAny_bind (wpAny_specialOf hT lri_nolen ?_)
  show wpAny _ A (specialOf (Value.ref I) (Str.ofString "__length_hint__") >>= _) _ _ _
  refine wpAny_bind (wpAny_specialOf hT lri_hint ?_)
  generalize hid : ("list_reverseiterator.__length_hint__" : String) = id0
  wp_delta
  rw [show splitId id0 = some ("list_reverseiterator", "__length_hint__") from by subst hid; decide +kernel]
  subst hid
  refine wpAny_bind (wpAny_isInstance (b := true) hT (by rw [isSubtype_type]; kernel_rfl) ?_)
  exact wpAny_pure h
theorem rev_items {items acc : Array Value} (h : ItemsOf (fun i v => items[items.size - 1 - i]? = some v) acc items.size) : acc = items.toList.reverse.toArray := by
  obtain ⟨h1, h2⟩ := h
  apply Array.ext
  · simpa using h1
  · intro i hi hj
    have e : items[items.size - 1 - i]? = some acc[i] := h2 i acc[i] (by simp [hi])
    have hi' : i < items.size := by omega
    rw [Array.getElem?_eq_getElem (by omega)] at e
    simp only [List.getElem_toArray, List.getElem_reverse, Array.getElem_toList, Array.length_toList]
    exact (Option.some.inj e).symm
theorem lri_extend {I l S : Addr} {items : Array Value} {R : Result → Shared → Prop} {c₀ : Nat} (hh : A.handled = none) (hne : l ≠ I) (hit : s.heap.IsRevIter I l ((items.size : Int) - 1)) (hl : s.heap.IsList l items)
    (hSI : S ≠ I) (hSl : S ≠ l) (hz : items.size ≤ sizeLine) (hS : s.heap.get? S = some { cls := .type "list", data := .seq #[] c₀ })
    (hR : ∀ s' c', Moved [S, I] (fun a b => b = a) s s' → s'.heap.get? S = some { cls := .type "list", dict := none, data := .seq items.toList.reverse.toArray c', slots := #[] } → R (.ok (.ret .none)) s') :
    wpAny (model prog w) A.in1 (Builtin.List.listExtendWith (.ref S) (.ref I) .none)
      (fun fin s' => match fin with | .done f => R (.ok f) s' | .again c' => c'.quiet = true ∧ codeAny (model prog w) A c' R s') (fun e s' => R (.error e) s') s := by
  have W := (Walks.listRev (prog := prog) (w := w) (A := A.in1) hh I l hne items).toS
  have st : (0 : Nat) ≤ items.size ∧ s.heap.IsRevIter I l ((items.size : Int) - 1 - ((0 : Nat) : Int)) ∧ s.heap.IsList l items := ⟨Nat.zero_le _, by simpa using hit, hl⟩
  have hT := hit.typeIs
  unfold Builtin.List.listExtendWith
  refine wpAny_bind (wpAny_typeOf hT ?_)
  have h1 : Builtin.List.listSameRef (.ref S) (.ref I) = false := by simp [Builtin.List.listSameRef, hSI]
  rw [if_neg (by rw [h1]; decide)]
  refine wpAny_bind (wpAny_pyIter_revIter hit ?_)
  refine wpAny_bind (wpAny_holding (lri_size hT ?_))
  rw [if_neg (by decide)]
  refine wpAny_pure ⟨plainId_quiet F.plain_extend_loop _, codeAny_extend_loopS W hz S (by simp [hSI, hSl]) .none items.size 0 _ _ _ rfl (Nat.zero_le _) st hS (ItemsOf.nil _) fun s' acc c' hm hS' hacc => ?_⟩
  rw [rev_items hacc] at hS'
  exact hR s' c' hm hS'
theorem call_list_rev {I l : Addr} {items : Array Value} {Q : Value → Shared → Prop} (hh : A.handled = none) (hne : l ≠ I) (hit : s.heap.IsRevIter I l ((items.size : Int) - 1)) (hl : s.heap.IsList l items) (hz : items.size ≤ sizeLine)
    (hQ : ∀ h' tk c', (∀ b o, b ≠ I → s.heap.get? b = some o → h'.get? b = some o) → h'.get? s.heap.objs.size = some { cls := .type "list", dict := none, data := .seq items.toList.reverse.toArray c', slots := #[] } →
      Q (.ref s.heap.objs.size) { s with heap := h', toks := tk }) : wpAny (model prog w) A (call (.type "list") [.ref I]) Q E s := by
  refine callType_codes (Q₁ := fun obj s₁ => obj = .ref s.heap.objs.size ∧ s₁ = { s with heap := s.heap.push { cls := .type "list", data := .seq #[] } }) F.called_list (F.typeCall_list_1 _) F.entry_list_init (code_list_new _ ⟨rfl, rfl⟩) ?_
  rintro obj s₁ ⟨rfl, rfl⟩
  have hS : (s.heap.push { cls := .type "list", data := .seq #[] }).get? s.heap.objs.size = some { cls := .type "list", data := .seq #[] } := Heap.get?_push_size _ rfl
  refine ⟨⟨_, hS, rfl⟩, F.args_list_init_2 _ _, ?_⟩
  have lI : I < s.heap.objs.size := by obtain ⟨o, ho, _⟩ := hit; exact Heap.lt_size ho
  have ll : l < s.heap.objs.size := by obtain ⟨o, ho, _⟩ := hl; exact Heap.lt_size ho
  show wpAny _ A.in1.in1 (do let old ← Builtin.List.listItems (.ref s.heap.objs.size); Builtin.List.listUpdate (.ref s.heap.objs.size) (fun _ => #[]); letGo old.toList.reverse; Builtin.List.listExtendWith (.ref s.heap.objs.size) (.ref I) .none) _ _ _
  refine wpAny_bind ?_
  unfold Builtin.List.listItems
  refine wpAny_bind (wpAny_seqItems hS rfl (wpAny_pure ?_))
  show wpAny _ A.in1.in1 (updateSeq s.heap.objs.size (fun _ => #[]) >>= fun _ => letGo (#[] : Array Value).toList.reverse >>= fun _ => Builtin.List.listExtendWith (.ref s.heap.objs.size) (.ref I) .none) _ _ _
  refine wpAny_bind (wpAny_updateSeq hS rfl ?_)
  have hS₂ := Heap.get?_update_self (Obj.mapSeq (fun _ => (#[] : Array Value))) hS rfl
  have oth : ∀ b o, s.heap.get? b = some o → ((s.heap.push { cls := .type "list", data := .seq #[] }).update s.heap.objs.size (Obj.mapSeq (fun _ => (#[] : Array Value)))).get? b = some o :=
    fun b o e => (Heap.get?_update_other _ _ (Ne.symm (Nat.ne_of_lt (Heap.lt_size e)))).trans (Heap.get?_push_of_some _ e)
  refine wpAny_bind (wpAny_letGo ?_)
  refine lri_extend (A := A.in1) hh hne (hit.at (oth I)) (hl.at (oth l)) (Ne.symm (Nat.ne_of_lt lI)) (Ne.symm (Nat.ne_of_lt ll)) hz hS₂ fun s' c' hm hS' => ?_
  refine ⟨rfl, ?_⟩
  rw [Moved.eq_with hm]
  exact hQ s'.heap s'.toks c' (fun b o hb e => hm.heap b o (by simp [hb, Nat.ne_of_lt (Heap.lt_size e)]) (oth b o e)) hS'
end
section
variable {X : Cx} {e : Expr} {te : TE} {p p2 pos pos2 : Pos}
def tRev (K : PySem.W.Frag) (te : TE) : TE := fun σ H Q => te σ H fun x H1 => ∃ a ys, x = .ref a ∧ SqL K H1 a ys ∧ ∀ l, H1 l = none → Q (.ref l) (upd H1 l (.lst ys.reverse))
theorem pe_listrev (hc : X.calm = true) (hg : Gl X "list") (hm : X.mg "list" = none) (hg2 : Gl X "reversed") (hm2 : X.mg "reversed" = none) (he : PE X e te)
    (hs : starEach [e] X.env = [(false, eval e X.env)] := by rfl)
    (hs2 : starEach [(.Call (.Name "reversed" p2) [e] [] pos2 : Expr)] X.env = [(false, eval (.Call (.Name "reversed" p2) [e] [] pos2) X.env)] := by rfl) :
    PE X (.Call (.Name "list" p) [.Call (.Name "reversed" p2) [e] [] pos2] [] pos) (tRev X.K te) := by
  intro pins s σ H Q I h
  refine wpAny_Call_Name_kw (ld_blt I hg hm boot_list ?_ (by decide) (by decide))
  refine callWith_type1 ?_ hs2 rfl
  rw [hs2]
  refine Calls.spliced_cons ?_
  refine wpAny_Call_Name_kw (ld_blt I hg2 hm2 boot_reversed ?_ (by decide) (by decide))
  refine callWith_type1 ?_ hs rfl
  rw [hs]
  refine Calls.spliced_cons (thn (he pins s σ H _ I h) fun u s1 ⟨x, H1, I1, r1, a, ys, hx, hq, q⟩ => ?_)
  subst hx
  cases r1
  refine Calls.spliced_nil ?_
  obtain ⟨its, rv, pl, hz⟩ := I1.list hq
  have hl := pl.isList
  have hlen := rv.length
  refine call_reversed_list hl ?_
  refine Calls.spliced_nil ?_
  have la : a < s1.heap.objs.size := by obtain ⟨o, ho, _⟩ := hl; exact Heap.lt_size ho
  refine call_list_rev (items := its.toArray) (I1.ok.hd hc) (Nat.ne_of_lt la) ⟨_, Heap.get?_push_size _ rfl, rfl, rfl⟩ (hl.at fun o e => Heap.get?_push_of_some _ e) (by simp only [List.size_toArray]; omega) fun h' tk c' kp eS => ?_
  have kp' : ∀ b o, s1.heap.get? b = some o → h'.get? b = some o := fun b o e => kp b o (Nat.ne_of_lt (Heap.lt_size e)) (Heap.get?_push_of_some _ e)
  have hp : s1.heap.objs.size ≤ (s1.heap.push (revObj a ((its.toArray.size : Int) - 1))).objs.size := by simp [Heap.push]
  refine ⟨.ref _, _, I1.laid (t' := tk) kp' hp (show ObjOk X.prog X.w _ h' _ (.lst ys.reverse) from ⟨by simpa using hz, its.reverse, c', rv.reverse, by simpa using eS⟩), rfl, q _ (I1.hok.fresh hp)⟩
end
end L2
namespace L2
open PySem PySem.W PySem.Spec PyProof.Rows
section
variable {O : KeyOrd} {ky : Nat → O.α} {n : Nat} {cmp : Nat → Nat → (Bool → Shared → Prop) → Shared → Prop} {J : Shared → Prop}
def kk (ky : Nat → O.α) (p : Array Nat) (i : Nat) : O.α := ky (p.getD i 0)
def Srt (ky : Nat → O.α) (p : Array Nat) (m : Nat) : Prop := ∀ i j, i ≤ j → j < m → O.kle (kk ky p i) (kk ky p j)
def Fal (ky : Nat → O.α) (p : Array Nat) (m : Nat) : Prop := ∀ i j, i ≤ j → j < m → O.kle (kk ky p j) (kk ky p i)
def Prm (n : Nat) (p : Array Nat) : Prop := p.toList.Perm (List.range n)
def Asks (O : KeyOrd) (ky : Nat → O.α) (n : Nat) (cmp : Nat → Nat → (Bool → Shared → Prop) → Shared → Prop) (J : Shared → Prop) : Prop :=
  ∀ i j (C : Bool → Shared → Prop) s, i < n → j < n → J s → (∀ s', J s' → C (O.blt (ky i) (ky j)) s') → cmp i j C s
theorem Prm.size {p : Array Nat} (h : Prm n p) : p.size = n := by
  have := h.length_eq
  rw [List.length_range] at this
  exact this
theorem Prm.lt {p : Array Nat} (h : Prm n p) {k : Nat} (hk : k < n) : p.getD k 0 < n := by
  have hz := h.size
  have e : p.getD k 0 = p[k]'(by omega) := by simp [Array.getD, hz, hk]
  rw [e]
  exact List.mem_range.mp (h.mem_iff.mp (by simp))
theorem Prm.rev {p : Array Nat} (h : Prm n p) (i j : Nat) : Prm n (kas_rev p i j) := (mirror_perm p i j _).toList.trans h
theorem Prm.bub {p : Array Nat} (h : Prm n p) (k d : Nat) : Prm n (bubble p k d) := (bubble_perm p k d).toList.trans h
theorem getD_of {p q : Array Nat} {i j : Nat} (e : p[i]? = q[j]?) : p.getD i 0 = q.getD j 0 := by
  rw [Array.getD_eq_getD_getElem?, Array.getD_eq_getD_getElem?, e]
theorem kk_rev {p : Array Nat} {i j : Nat} (hj : j ≤ p.size) (k : Nat) : kk ky (kas_rev p i j) k = if i ≤ k ∧ k < j then kk ky p (i + j - 1 - k) else kk ky p k := by
  have e := getElem?_mirror_all (xs := p) (i := i) hj k
  unfold kk kas_rev
  by_cases c : i ≤ k ∧ k < j
  · rw [if_pos c] at e ⊢
    rw [getD_of e]
  · rw [if_neg c] at e ⊢
    rw [getD_of e]
theorem kk_bub {p : Array Nat} {src d : Nat} (hs : src < p.size) (hd : d ≤ src) (k : Nat) :
    kk ky (bubble p src d) k = if k = src - d then kk ky p src else if src - d < k ∧ k ≤ src then kk ky p (k - 1) else kk ky p k := by
  have e := getElem?_bubble hs d hd k
  unfold kk
  by_cases c : k = src - d
  · rw [if_pos c] at e ⊢
    rw [getD_of e]
  · rw [if_neg c] at e ⊢
    by_cases c2 : src - d < k ∧ k ≤ src
    · rw [if_pos c2] at e ⊢
      rw [getD_of e]
    · rw [if_neg c2] at e ⊢
      rw [getD_of e]
theorem Srt.succ {p : Array Nat} {m : Nat} (h : Srt ky p m) (h1 : 1 ≤ m) (c : O.kle (kk ky p (m - 1)) (kk ky p m)) : Srt ky p (m + 1) := fun i j hij hj => by
  by_cases e : j = m
  · subst e
    by_cases e2 : i = j
    · subst e2
      exact KeyOrd.kle_refl _
    · exact KeyOrd.kle_trans (h i (j - 1) (by omega) (by omega)) c
  · exact h i j hij (by omega)
theorem Fal.succ {p : Array Nat} {m : Nat} (h : Fal ky p m) (h1 : 1 ≤ m) (c : O.kle (kk ky p m) (kk ky p (m - 1))) : Fal ky p (m + 1) := fun i j hij hj => by
  by_cases e : j = m
  · subst e
    by_cases e2 : i = j
    · subst e2
      exact KeyOrd.kle_refl _
    · exact KeyOrd.kle_trans c (h i (j - 1) (by omega) (by omega))
  · exact h i j hij (by omega)
theorem Srt.one {p : Array Nat} : Srt ky p 1 := fun i j hij hj => by
  have : i = j := by omega
  subst this
  exact KeyOrd.kle_refl _
theorem Fal.rev {p : Array Nat} {m : Nat} (hz : m ≤ p.size) (h : Fal ky p m) : Srt ky (kas_rev p 0 m) m := fun i j hij hj => by
  rw [kk_rev hz, kk_rev hz, if_pos ⟨Nat.zero_le _, by omega⟩, if_pos ⟨Nat.zero_le _, hj⟩]
  exact h _ _ (by omega) (by omega)
theorem Fal.revEq {p : Array Nat} {i j m : Nat} (hz : j ≤ p.size) (hm : j ≤ m) (h : Fal ky p m) (eq : ∀ a b, i ≤ a → a < j → i ≤ b → b < j → O.kle (kk ky p a) (kk ky p b)) : Fal ky (kas_rev p i j) m := fun a b hab hb => by
  rw [kk_rev hz, kk_rev hz]
  by_cases c1 : i ≤ a ∧ a < j
  · rw [if_pos c1]
    by_cases c2 : i ≤ b ∧ b < j
    · rw [if_pos c2]
      exact eq _ _ (by omega) (by omega) (by omega) (by omega)
    · rw [if_neg c2]
      exact h _ _ (by omega) hb
  · rw [if_neg c1]
    by_cases c2 : i ≤ b ∧ b < j
    · rw [if_pos c2]
      exact h _ _ (by omega) (by omega)
    · rw [if_neg c2]
      exact h _ _ hab hb
theorem asc_ok (ac : Asks O ky n cmp J) {p : Array Nat} (hp : Prm n p) {R : Nat → Shared → Prop} : ∀ (f a : Nat) (s : Shared), 1 ≤ a → a + f ≤ n → Srt ky p a → J s →
    (∀ m s', a ≤ m → m ≤ a + f → Srt ky p m → (m < a + f → O.klt (kk ky p m) (kk ky p (m - 1))) → J s' → R m s') → (kas_asc p f a).kasWp cmp R s
  | 0, a, s, h1, hz, hs, hJ, k => k a s (Nat.le_refl _) (Nat.le_refl _) hs (fun h => absurd h (Nat.lt_irrefl _)) hJ
  | f + 1, a, s, h1, hz, hs, hJ, k => by
    refine ac _ _ _ s (hp.lt (by omega)) (hp.lt (by omega)) hJ fun s' hJ' => ?_
    cases e : O.blt (ky (p.getD a 0)) (ky (p.getD (a - 1) 0)) with
    | true =>
      dsimp only
      rw [if_pos rfl]
      exact k a s' (Nat.le_refl _) (by omega) hs (fun _ => e) hJ'
    | false =>
      dsimp only
      rw [if_neg Bool.false_ne_true]
      refine asc_ok ac hp f (a + 1) s' (by omega) (by omega) (hs.succ h1 e) hJ' fun m s2 l1 l2 q1 q2 q3 => ?_
      exact k m s2 (by omega) (by omega) q1 (fun h => q2 (by omega)) q3
theorem desc_ok (ac : Asks O ky n cmp J) {R : Array Nat × Nat × Nat → Shared → Prop} : ∀ (f : Nat) (p : Array Nat) (m q : Nat) (s : Shared), Prm n p → q + 1 ≤ m → m + f ≤ n → Fal ky p m →
    (∀ a b, m - (q + 1) ≤ a → a < m → m - (q + 1) ≤ b → b < m → O.kle (kk ky p a) (kk ky p b)) → J s →
    (∀ p' m' q' s', Prm n p' → q' + 1 ≤ m' → m ≤ m' → m' ≤ m + f → Fal ky p' m' → (∀ a b, m' - (q' + 1) ≤ a → a < m' → m' - (q' + 1) ≤ b → b < m' → O.kle (kk ky p' a) (kk ky p' b)) → J s' → R (p', m', q') s') →
    (kas_desc f p m q).kasWp cmp R s
  | 0, p, m, q, s, hp, hq, hz, hf, he, hJ, k => k p m q s hp hq (Nat.le_refl _) (Nat.le_refl _) hf he hJ
  | f + 1, p, m, q, s, hp, hq, hz, hf, he, hJ, k => by
    have hsz := hp.size
    refine ac _ _ _ s (hp.lt (by omega)) (hp.lt (by omega)) hJ fun s' hJ' => ?_
    cases e : O.blt (ky (p.getD m 0)) (ky (p.getD (m - 1) 0)) with
    | true =>
      dsimp only
      rw [if_pos rfl]
      have hf' : Fal ky p (m + 1) := hf.succ (by omega) (KeyOrd.kle_of_klt e)
      have one : ∀ p' : Array Nat, ∀ a b, m + 1 - (0 + 1) ≤ a → a < m + 1 → m + 1 - (0 + 1) ≤ b → b < m + 1 → O.kle (kk ky p' a) (kk ky p' b) := fun p' a b _ _ _ _ => by
        have : a = b := by omega
        subst this
        exact KeyOrd.kle_refl _
      by_cases c : q > 0
      · rw [if_pos c]
        refine desc_ok ac f (kas_rev p (m - (q + 1)) m) (m + 1) 0 s' (hp.rev _ _) (by omega) (by omega) (hf'.revEq (by omega) (by omega) he) (one _) hJ' fun p' m' q' s2 a1 a2 a3 a4 a5 a6 a7 => ?_
        exact k p' m' q' s2 a1 a2 (by omega) (by omega) a5 a6 a7
      · rw [if_neg c]
        refine desc_ok ac f p (m + 1) 0 s' hp (by omega) (by omega) hf' (one _) hJ' fun p' m' q' s2 a1 a2 a3 a4 a5 a6 a7 => ?_
        exact k p' m' q' s2 a1 a2 (by omega) (by omega) a5 a6 a7
    | false =>
      dsimp only
      rw [if_neg Bool.false_ne_true]
      refine ac _ _ _ s' (hp.lt (by omega)) (hp.lt (by omega)) hJ' fun s2 hJ2 => ?_
      cases e2 : O.blt (ky (p.getD (m - 1) 0)) (ky (p.getD m 0)) with
      | true =>
        dsimp only
        rw [if_pos rfl]
        exact k p m q s2 hp hq (Nat.le_refl _) (by omega) hf he hJ2
      | false =>
        dsimp only
        rw [if_neg Bool.false_ne_true]
        have g1 : O.kle (kk ky p (m - 1)) (kk ky p m) := e
        have g2 : O.kle (kk ky p m) (kk ky p (m - 1)) := e2
        refine desc_ok ac f p (m + 1) (q + 1) s2 hp (by omega) (by omega) (hf.succ (by omega) g2) (fun a b a1 a2 b1 b2 => ?_) hJ2 fun p' m' q' s3 c1 c2 c3 c4 c5 c6 c7 => ?_
        · by_cases ea : a = m
          · by_cases eb : b = m
            · rw [ea, eb]
              exact KeyOrd.kle_refl _
            · rw [ea]
              exact KeyOrd.kle_trans g2 (he (m - 1) b (by omega) (by omega) (by omega) (by omega))
          · by_cases eb : b = m
            · rw [eb]
              exact KeyOrd.kle_trans (he a (m - 1) (by omega) (by omega) (by omega) (by omega)) g1
            · exact he a b (by omega) (by omega) (by omega) (by omega)
        · exact k p' m' q' s3 c1 c2 (by omega) (by omega) c5 c6 c7
theorem tail3_ok (ac : Asks O ky n cmp J) {p : Array Nat} (hp : Prm n p) {m nrem : Nat} {R : Nat × Array Nat → Shared → Prop} {s : Shared} (h1 : 1 ≤ m) (h2 : m ≤ nrem) (h3 : nrem ≤ n) (hf : Fal ky p m) (hJ : J s)
    (k : ∀ m' p' s', 1 ≤ m' → m' ≤ nrem → Prm n p' → Srt ky p' m' → J s' → R (m', p') s') : (kas_tail3 m nrem p).kasWp cmp R s := by
  have hsz := hp.size
  unfold kas_tail3
  rw [KasT.kasWp_bind]
  refine asc_ok ac (hp.rev 0 m) (nrem - m) m s h1 (by omega) (hf.rev (by omega)) hJ fun m' s' a1 a2 a3 _ a5 => ?_
  exact k m' _ s' (by omega) (by omega) (hp.rev _ _) a3 a5
theorem descPart_ok (ac : Asks O ky n cmp J) {p : Array Nat} (hp : Prm n p) {m nrem : Nat} {R : Nat × Array Nat → Shared → Prop} {s : Shared} (h2 : m + 1 ≤ nrem) (h3 : nrem ≤ n) (hf : Fal ky p (m + 1)) (hJ : J s)
    (k : ∀ m' p' s', 1 ≤ m' → m' ≤ nrem → Prm n p' → Srt ky p' m' → J s' → R (m', p') s') : (kas_descPart m nrem p).kasWp cmp R s := by
  unfold kas_descPart
  rw [KasT.kasWp_bind]
  refine desc_ok ac (nrem - (m + 1)) p (m + 1) 0 s hp (by omega) (by omega) hf (fun a b _ _ _ _ => ?_) hJ fun p' m' q' s' a1 a2 a3 a4 a5 a6 a7 => ?_
  · have : a = b := by omega
    subst this
    exact KeyOrd.kle_refl _
  · have hsz := a1.size
    dsimp only
    by_cases c : q' > 0
    · rw [if_pos c]
      exact tail3_ok ac (a1.rev _ _) (by omega) (by omega) h3 (a5.revEq (by omega) (Nat.le_refl _) a6) a7 k
    · rw [if_neg c]
      exact tail3_ok ac a1 (by omega) (by omega) h3 a5 a7 k
theorem count_ok (ac : Asks O ky n cmp J) {p : Array Nat} (hp : Prm n p) {R : Nat × Array Nat → Shared → Prop} {s : Shared} (h1 : 1 ≤ n) (hJ : J s)
    (k : ∀ m' p' s', 1 ≤ m' → m' ≤ n → Prm n p' → Srt ky p' m' → J s' → R (m', p') s') : (kas_count n p).kasWp cmp R s := by
  have hsz := hp.size
  unfold kas_count
  rw [KasT.kasWp_bind]
  refine asc_ok ac hp (n - 1) 1 s (Nat.le_refl _) (by omega) Srt.one hJ fun m s' a1 a2 a3 a4 a5 => ?_
  by_cases c : m = n
  · rw [if_pos (by simpa using c)]
    exact k m p s' a1 (by omega) hp a3 a5
  · rw [if_neg (by simpa using c)]
    have lt := a4 (by omega)
    by_cases c1 : m > 1
    · rw [if_pos c1]
      refine ac _ _ _ s' (hp.lt (by omega)) (hp.lt (by omega)) a5 fun s2 hJ2 => ?_
      cases e : O.blt (ky (p.getD 0 0)) (ky (p.getD (m - 1) 0)) with
      | true =>
        dsimp only
        rw [if_pos rfl]
        exact k m p s2 a1 (by omega) hp a3 hJ2
      | false =>
        dsimp only
        rw [if_neg Bool.false_ne_true]
        have g : O.kle (kk ky p (m - 1)) (kk ky p 0) := e
        have eq : ∀ a b, a < m → b < m → O.kle (kk ky p a) (kk ky p b) := fun a b ha hb =>
          KeyOrd.kle_trans (a3 a (m - 1) (by omega) (by omega)) (KeyOrd.kle_trans g (a3 0 b (by omega) hb))
        refine descPart_ok ac (hp.rev 0 m) (by omega) (Nat.le_refl _) ?_ hJ2 k
        intro i j hij hj
        rw [kk_rev (by omega), kk_rev (by omega)]
        by_cases cj : j < m
        · rw [if_pos ⟨Nat.zero_le _, cj⟩, if_pos ⟨Nat.zero_le _, by omega⟩]
          exact eq _ _ (by omega) (by omega)
        · have ej : j = m := by omega
          subst ej
          rw [if_neg (by omega)]
          by_cases ci : i < j
          · rw [if_pos ⟨Nat.zero_le _, ci⟩]
            exact KeyOrd.kle_trans (KeyOrd.kle_of_klt lt) (eq _ _ (by omega) (by omega))
          · rw [if_neg (by omega)]
            have : i = j := by omega
            subst this
            exact KeyOrd.kle_refl _
    · rw [if_neg c1]
      have em : m = 1 := by omega
      subst em
      refine descPart_ok ac hp (by omega) (Nat.le_refl _) ?_ a5 k
      have f1 : Fal ky p 1 := fun i j hij hj => by
        have : i = j := by omega
        subst this
        exact KeyOrd.kle_refl _
      exact f1.succ (Nat.le_refl _) (KeyOrd.kle_of_klt lt)
theorem place_ok (ac : Asks O ky n cmp J) {p : Array Nat} (hp : Prm n p) {t : Nat} (ht : t < n) {R : Nat → Shared → Prop} : ∀ (f l r : Nat) (s : Shared), l ≤ r → r ≤ t → r - l ≤ f → (∀ i, i < l → O.kle (kk ky p i) (kk ky p t)) → (∀ i, r ≤ i → i < t → O.klt (kk ky p t) (kk ky p i)) →
    Srt ky p t → J s → (∀ l' s', l' ≤ t → (∀ i, i < l' → O.kle (kk ky p i) (kk ky p t)) → (∀ i, l' ≤ i → i < t → O.klt (kk ky p t) (kk ky p i)) → J s' → R l' s') → (kas_place p t f l r).kasWp cmp R s
  | 0, l, r, s, h1, h2, h3, h4, h5, _, hJ, k => k l s (by omega) h4 (fun i a b => h5 i (by omega) b) hJ
  | f + 1, l, r, s, h1, h2, h3, h4, h5, hs, hJ, k => by
    unfold kas_place
    by_cases c : l ≥ r
    · rw [if_pos c]
      exact k l s (by omega) h4 (fun i a b => h5 i (by omega) b) hJ
    · rw [if_neg c]
      refine ac _ _ _ s (hp.lt ht) (hp.lt (by omega)) hJ fun s' hJ' => ?_
      cases e : O.blt (ky (p.getD t 0)) (ky (p.getD ((l + r) / 2) 0)) with
      | true =>
        dsimp only
        rw [if_pos rfl]
        have g : O.klt (kk ky p t) (kk ky p ((l + r) / 2)) := e
        exact place_ok ac hp ht f l ((l + r) / 2) s' (by omega) (by omega) (by omega) h4 (fun i a b => KeyOrd.klt_of_klt_of_kle g (hs _ _ a b)) hs hJ' k
      | false =>
        dsimp only
        rw [if_neg Bool.false_ne_true]
        have g : O.kle (kk ky p ((l + r) / 2)) (kk ky p t) := e
        exact place_ok ac hp ht f ((l + r) / 2 + 1) r s' (by omega) h2 (by omega) (fun i a => KeyOrd.kle_trans (hs i ((l + r) / 2) (by omega) (by omega)) g) h5 hs hJ' k
theorem bin_ok (ac : Asks O ky n cmp J) {R : Array Nat → Shared → Prop} : ∀ (f : Nat) (p : Array Nat) (t : Nat) (s : Shared), Prm n p → t + f = n → Srt ky p t → J s → (∀ p' s', Prm n p' → Srt ky p' n → J s' → R p' s') → (kas_bin f p t).kasWp cmp R s
  | 0, p, t, s, hp, hz, hs, hJ, k => k p s hp (by have : t = n := by omega
                                                  subst this; exact hs) hJ
  | f + 1, p, t, s, hp, hz, hs, hJ, k => by
    have hsz := hp.size
    unfold kas_bin
    rw [KasT.kasWp_bind]
    refine place_ok ac hp (by omega) t 0 t s (Nat.zero_le _) (Nat.le_refl _) (by omega) (fun i h => absurd h (Nat.not_lt_zero _)) (fun i a b => absurd b (by omega)) hs hJ fun l s' a1 a2 a3 hJ' => ?_
    refine bin_ok ac f (bubble p t (t - l)) (t + 1) s' (hp.bub _ _) (by omega) ?_ hJ' k
    intro i j hij hj
    have el : t - (t - l) = l := by omega
    rw [kk_bub (by omega) (by omega), kk_bub (by omega) (by omega), el]
    by_cases ci : i = l
    · rw [if_pos ci]
      by_cases cj : j = l
      · rw [if_pos cj]
        exact KeyOrd.kle_refl _
      · rw [if_neg cj, if_pos ⟨by omega, by omega⟩]
        exact KeyOrd.kle_of_klt (a3 _ (by omega) (by omega))
    · rw [if_neg ci]
      by_cases ci2 : l < i ∧ i ≤ t
      · rw [if_pos ci2, if_neg (by omega), if_pos ⟨by omega, by omega⟩]
        exact hs _ _ (by omega) (by omega)
      · rw [if_neg ci2]
        by_cases cj : j = l
        · rw [if_pos cj]
          exact a2 _ (by omega)
        · rw [if_neg cj]
          by_cases cj2 : l < j ∧ j ≤ t
          · rw [if_pos cj2]
            exact hs _ _ (by omega) (by omega)
          · rw [if_neg cj2]
            exact hs _ _ hij (by omega)
theorem sort_ok (ac : Asks O ky n cmp J) {R : Array Nat → Shared → Prop} {s : Shared} (h1 : 1 ≤ n) (hJ : J s) (k : ∀ p s', Prm n p → Srt ky p n → J s' → R p s') : (kas_sort n).kasWp cmp R s := by
  unfold kas_sort
  rw [KasT.kasWp_bind]
  refine count_ok ac (List.Perm.refl _) h1 hJ fun m p s' a1 a2 a3 a4 a5 => ?_
  dsimp only
  by_cases c : m < n
  · rw [if_pos c]
    have e : max m 1 = m := by omega
    rw [e]
    exact bin_ok ac (n - m) p m s' a3 (by omega) a4 a5 k
  · rw [if_neg c]
    have e : m = n := by omega
    subst e
    exact k p s' a3 a4 a5
end
end L2
namespace L2
open PySem PySem.W PySem.Spec PyProof.Rows
theorem lex_dec : ∀ a b : List Int, HT.lexLt a b = decide (a < b)
  | [], [] => by simp [HT.lexLt]
  | [], _ :: _ => by simp [HT.lexLt]
  | _ :: _, [] => by simp [HT.lexLt]
  | x :: xs, y :: ys => by
    rw [HT.lexLt_cons, lex_dec xs ys]
    by_cases e : x = y
    · subst e
      rw [if_pos rfl]
      simp [List.cons_lt_cons_iff]
    · rw [if_neg e]
      simp [List.cons_lt_cons_iff, e]
def lexO : KeyOrd where
  α := List Int
  blt a b := HT.lexLt a b
  irrefl a := by rw [lex_dec]; simpa using List.lt_irrefl a
  trans a b c h1 h2 := by
    rw [lex_dec] at *
    simp only [decide_eq_true_eq] at *
    exact List.lt_trans h1 h2
  negTrans a b c h := by
    rw [lex_dec] at h
    rw [lex_dec, lex_dec]
    simp only [decide_eq_true_eq] at *
    by_cases hab : a < b
    · exact .inl hab
    · exact .inr (List.lt_of_le_of_lt (List.not_lt.mp hab) h)
  total a b h1 h2 := by
    rw [lex_dec] at *
    simp only [decide_eq_false_iff_not] at *
    exact List.le_antisymm (List.not_lt.mp h2) (List.not_lt.mp h1)
def IsRow (h : Heap) (v : Value) (ns : List Int) : Prop := ∃ a its, v = .ref a ∧ IsTup h a its ∧ IntsAre its.toList ns
section
variable {prog : Program} {w : World} {A : Around} {E : Value → Shared → Prop} {s : Shared} {Q : Bool → Shared → Prop}
theorem row_lex {fin bb : Bool} : ∀ {vs us : List Value} {ns ms : List Int} (i : Nat), IntsAre vs ns → IntsAre us ms → Q (HT.lexLt ns ms) s → fin = decide (vs.length < us.length) → KatLex prog w A bb fin Q (vs.zip us) i s
  | _, _, _, _, i, .nil, .nil, h, e => by
    refine kat_nil ?_
    rw [e]
    exact h
  | _, _, _, _, i, .nil, .cons _ _ _, h, e => by
    refine kat_nil ?_
    rw [e]
    simpa [HT.lexLt] using h
  | _, _, _, _, i, .cons _ _ _, .nil, h, e => by
    refine kat_nil ?_
    rw [e]
    simpa [HT.lexLt] using h
  | _, _, _, _, i, .cons (vs := vs) (ns := ns) x t hv, .cons (vs := us) (ns := ms) y u hu, h, e => by
    refine kat_cons (wpAny_eqBool_int (kat_go (fun c => ?_) (fun c => ?_)))
    · have xy : x = y := by simpa using c
      subst xy
      refine kat_yes (row_lex (i + 1) hv hu ?_ ?_)
      · simpa [HT.lexLt] using h
      · rw [e]
        simp
    · have xy : ¬ x = y := by simpa using c
      refine kat_no ?_
      have h' : Q (decide (x < y)) s := by simpa [HT.lexLt, xy] using h
      cases (bb && i == 0) with
      | true => exact oneLt_int h'
      | false => exact kat_one _ _ (lt_int h')
def RowKind (κ : SortKind) : Prop := (∃ b, κ = tuples' b) ∨ κ = general' ∨ κ = oneType'
theorem row_lt {κ : SortKind} {x y : Value} {ns ms : List Int} (hk : RowKind κ) (hx : IsRow s.heap x ns) (hy : IsRow s.heap y ms) (hu : A.units < cLine) (h : Q (HT.lexLt ns ms) s) : wpAny (model prog w) A (keyLt' κ x y) Q E s := by
  obtain ⟨a, its, rfl, ta, ia⟩ := hx
  obtain ⟨b, jts, rfl, tb, ib⟩ := hy
  rcases hk with ⟨bb, rfl⟩ | rfl | rfl
  · obtain ⟨o, ho, hc, n, hd⟩ := ta
    obtain ⟨o2, ho2, hc2, n2, hd2⟩ := tb
    exact kat_lt ho hd ho2 hd2 (row_lex 0 ia ib h (by simp))
  · exact kat_one _ _ (HT.lt_tupInts ta tb ia ib hu h)
  · rw [keyLt'_oneType, oneLt'_eq]
    simp only [if_true]
    refine wpAny_bind (wpAny_cRoomFor hu ?_)
    obtain ⟨⟨cls, dd, data, sl⟩, ho, hc, n, hd⟩ := id ta
    obtain ⟨⟨cls2, dd2, data2, sl2⟩, ho2, hc2, n2, hd2⟩ := id tb
    simp only at hc hd hc2 hd2
    subst hc hd hc2 hd2
    refine wpAny_bind (wpAny_callSpecialIfBound?_slot (T := "tuple") ⟨_, ho, rfl⟩ PySem.F.slot_tuple_lt (call_meets PySem.F.slot_tuple_lt ⟨_, ho, rfl⟩ PySem.F.entry_tuple_lt (PySem.F.args_tuple_lt_2 _ _) (HT.tuple_lt_ints a b its jts n n2 dd dd2 sl sl2 ns ms ia ib) ⟨ho, ho2, ?_⟩))
    exact wpAny_truthy_bool h
theorem ints_first : ∀ {l : List Value} {ns : List Int}, IntsAre l ns → ∀ {v : Value}, l[0]? = some v → ∃ n t, v = Value.int n t
  | _, _, .nil, v, e => by simp at e
  | _, _, .cons n t _, v, e => ⟨n, t, by simpa using e.symm⟩
theorem mapM_any {α β : Type} {f : α → Sem β} : ∀ (l : List α) {R : List β → Shared → Prop}, (∀ v ∈ l, ∀ (Q' : β → Shared → Prop), (∀ r, Q' r s) → wpAny (model prog w) A (f v) Q' E s) → (∀ rs, R rs s) → wpAny (model prog w) A (l.mapM f) R E s
  | [], _, _, h => by
    rw [List.mapM_nil]
    exact wpAny_pure (h [])
  | x :: l, R, hf, h => by
    rw [List.mapM_cons]
    exact wpAny_bind (hf x (.head _) _ fun r => wpAny_bind (mapM_any l (R := fun bs s' => wpAny (model prog w) A (pure (r :: bs)) R E s') (fun v hv => hf v (.tail _ hv)) fun rs => wpAny_pure (h _)))
theorem one_type {l : List Value} {R : Option Value → Shared → Prop} (hf : ∀ v ∈ l, ∀ (Q' : Value → Shared → Prop), (∀ r, Q' r s) → wpAny (model prog w) A (typeOf v) Q' E s) (h : ∀ r, R r s) : wpAny (model prog w) A (oneTypeOnly' l.toArray) R E s := by
  rw [oneTypeOnly'_eq, List.mapM_toArray, map_eq_pure_bind]
  refine wpAny_bind (wpAny_bind (mapM_any l hf fun rs => wpAny_pure ?_))
  cases rs.toArray[0]? with
  | none => exact wpAny_pure (h _)
  | some t => exact wpAny_pure (h _)
theorem row_firsts {rows : List (List Int)} : ∀ {vs : List Value}, Paired (IsRow s.heap) vs rows → ∀ {R : List (Option Value) → Shared → Prop}, (∀ fs, fs.length = vs.length → (∀ f ∈ fs, ∀ v, f = some v → ∃ n t, v = Value.int n t) → R fs s) →
    wpAny (model prog w) A (vs.mapM firstOfTuple') R E s := by
  intro vs hp
  induction hp with
  | nil =>
    intro R h
    rw [List.mapM_nil]
    exact wpAny_pure (h [] rfl (fun f m => nomatch m))
  | cons hx hr ih =>
    intro R h
    obtain ⟨a, its, rfl, ⟨o, ho, hc, n, hd⟩, ia⟩ := hx
    rw [List.mapM_cons]
    refine wpAny_bind ?_
    rw [kas_first_eq]
    refine wpAny_bind (Looks.here (show Looks (model prog w) s.heap (typeOf (.ref a)) o.cls from (Looks.ld ho).andThen .now) ?_)
    rw [hc, if_neg (by first | decide | simp)]
    refine wpAny_bind (listItems_at ho hd (wpAny_pure ?_))
    refine wpAny_bind (ih fun fs l1 l2 => wpAny_pure (h _ (by rw [List.length_cons, List.length_cons, l1]) fun f m v e => ?_))
    rcases List.mem_cons.mp m with m | m
    · subst m
      have e' : its.toList[0]? = some v := by simpa using e
      exact ints_first ia e'
    · exact l2 f m v e
theorem row_kind {vs : List Value} {rows : List (List Int)} (hp : Paired (IsRow s.heap) vs rows) {R : SortKind → Shared → Prop} (h : ∀ κ, RowKind κ → R κ s) : wpAny (model prog w) A (keyKind' vs.toArray) R E s := by
  rw [kat_kind_eq, List.mapM_toArray, map_eq_pure_bind]
  refine wpAny_bind (wpAny_bind (row_firsts hp fun fs l1 l2 => wpAny_pure ?_))
  by_cases c : (fs.toArray.all fun x => x.isSome) = true
  · rw [if_pos c]
    refine wpAny_bind (wpAny_rule ?_)
    have e : fs.toArray.filterMap id = (fs.filterMap id).toArray := by simp
    rw [e]
    refine wpAny_bind (one_type (fun v hv Q' hq => ?_) fun r => wpAny_pure (h _ (.inl ⟨_, rfl⟩)))
    obtain ⟨f, fm, fe⟩ := List.mem_filterMap.mp hv
    obtain ⟨n, t, rfl⟩ := l2 f fm v fe
    exact wpAny_of_eq (a := Value.type "int") rfl (hq _)
  · rw [if_neg c]
    by_cases c2 : (fs.toArray[0]?.bind id).isSome = true
    · rw [if_pos c2]
      exact wpAny_pure (h _ (.inr (.inl rfl)))
    · rw [if_neg c2]
      refine wpAny_bind (one_type (fun v hv Q' hq => ?_) fun r => ?_)
      · obtain ⟨ns, hr⟩ : ∃ ns, IsRow s.heap v ns := by
          clear l1 l2 c c2
          induction hp with
          | nil => cases hv
          | cons hx _ ih =>
            rcases List.mem_cons.mp hv with m | m
            · exact ⟨_, m ▸ hx⟩
            · exact ih m
        obtain ⟨a, its, rfl, ⟨o, ho, hc, n, hd⟩, ia⟩ := hr
        exact Looks.here (show Looks (model prog w) s.heap (typeOf (.ref a)) o.cls from (Looks.ld ho).andThen .now) (hq _)
      · cases r with
        | none => exact wpAny_pure (h _ (.inr (.inl rfl)))
        | some t => exact wpAny_pure (h _ (.inr (.inr rfl)))
theorem paired_at {α β : Type} {R : α → β → Prop} (d : α) (e : β) : ∀ {xs : List α} {ys : List β}, Paired R xs ys → ∀ i, i < xs.length → R (xs.getD i d) (ys.getD i e)
  | _, _, .nil, i, h => absurd h (Nat.not_lt_zero _)
  | _, _, .cons r _, 0, _ => r
  | _, _, .cons _ t, i + 1, h => paired_at d e t i (by simpa using h)
theorem map_range_getD (vs : List Value) : (List.range vs.length).map (fun i => vs.getD i Value.none) = vs := by
  apply List.ext_getElem
  · simp
  · intro i h1 h2
    simp [h2]
theorem IsRow.keep {h h' : Heap} {v : Value} {ns : List Int} (x : IsRow h v ns) (k : ∀ b o, o.cls = .type "tuple" → h.get? b = some o → h'.get? b = some o) : IsRow h' v ns := by
  obtain ⟨a, its, rfl, ⟨o, ho, hc, n, hd⟩, ia⟩ := x
  exact ⟨a, its, rfl, ⟨o, k a o hc ho, hc, n, hd⟩, ia⟩
theorem row_sort {a : Addr} {vs : List Value} {rows : List (List Int)} {n : Nat} {P : PySem.Fin → Shared → Prop} (ho : s.heap.get? a = some (seqObj "list" vs.toArray n)) (hp : Paired (IsRow s.heap) vs rows) (h64 : vs.length < 64) (hu : A.units < cLine)
    (h : ∀ p : Array Nat, Prm vs.length p → Srt (O := lexO) (fun i => rows.getD i []) p vs.length → P (.done (.ret .none)) { s with heap := sortedHeap s.heap a vs (List.toArray (p.toList.map fun i => vs.getD i Value.none)) }) :
    wpAny (model prog w) A (Builtin.«list.sort» ⟨[.ref a], []⟩) P E s := by
  rw [list_sort_plain]
  have ha : a < s.heap.objs.size := Heap.lt_size ho
  refine wpAny_bind (listItems_at ho rfl ?_)
  refine wpAny_bind (listUpdate_at ho rfl ?_)
  obtain ⟨e1, ho1⟩ : ∃ e1, (s.heap.update a (Obj.mapSeq fun _ => #[])).get? a = some (seqObj "list" #[] e1) := ⟨_, get?_update_seq ho (fun _ => #[])⟩
  refine wpAny_bind (seqEpoch_at ho1 rfl ?_)
  refine wpAny_bind (wpAny_newTuple ?_)
  refine wpAny_bind (wpAny_newList ?_)
  refine wpAny_holding ?_
  have ho6 : (((s.heap.update a (Obj.mapSeq fun _ => #[])).push (seqObj "tuple" vs.toArray 0)).push (seqObj "list" #[] 0)).get? a = some (seqObj "list" #[] e1) := by
    rw [Heap.get?_push_ne _ _ _ (by rw [size_push', Heap.size_update]; exact Nat.ne_of_lt (Nat.lt_succ_of_lt ha)), Heap.get?_push_ne _ _ _ (by rw [Heap.size_update]; exact Nat.ne_of_lt ha)]
    exact ho1
  have hp6 : Paired (IsRow (((s.heap.update a (Obj.mapSeq fun _ => #[])).push (seqObj "tuple" vs.toArray 0)).push (seqObj "list" #[] 0))) vs rows := Paired.mapP hp fun v ns x => x.keep fun b o hc e => by
    have hb : b ≠ a := fun z => by
      rw [z, ho] at e
      cases e
      exact absurd (show Value.type "list" = Value.type "tuple" from hc) (by decide)
    exact Heap.get?_push_of_some _ (Heap.get?_push_of_some _ ((Heap.get?_update_other _ _ (Ne.symm hb)).trans e))
  show wpAny (model prog w) A _ P E { s with heap := ((s.heap.update a (Obj.mapSeq fun _ => #[])).push (seqObj "tuple" vs.toArray 0)).push (seqObj "list" #[] 0) }
  dsimp only
  have hsz : vs.toArray.size = vs.length := by simp
  by_cases h2 : vs.toArray.size < 2
  · rw [if_pos h2, if_pos h2]
    refine wpAny_bind (wpAny_pure ?_)
    rw [StateT.run_pure]
    refine wpAny_bind (wpAny_pure ?_)
    dsimp only
    refine wpAny_bind (seqEpoch_at ho6 rfl ?_)
    refine wpAny_bind (listUpdate_at ho6 rfl ?_ (hsz2 := by rw [Array.size_map]; show (pairsOf vs).size ≤ _; rw [pairsOf_size, sizeLine_eq]; omega))
    simp only [bne_self_eq_false, Bool.false_eq_true, if_false]
    have hh := h (List.range vs.length).toArray (List.Perm.refl _) (fun i j hij hj => by
      have : i = j := by omega
      subst this
      exact KeyOrd.kle_refl _)
    rw [show (List.range vs.length).toArray.toList.map (fun i => vs.getD i Value.none) = vs from map_range_getD vs] at hh
    have e : (arrOf (SortSt.mk' general' (vs.toArray.zip vs.toArray) #[] 7 none)).map (·.2) = vs.toArray := by
      show (vs.toArray.zip vs.toArray).map (·.2) = vs.toArray
      apply Array.ext
      · simp
      · intro i h1 h2
        simp
    refine wpAny_pure ?_
    have hh' := hh
    rw [← e] at hh'
    exact hh'
  · rw [if_neg h2, if_neg h2]
    refine wpAny_bind (row_kind hp6 fun κ hκ => ?_)
    have ac : Asks lexO (fun i => rows.getD i []) vs.length (kas_ask prog w A κ vs) (fun s' => s' = { s with heap := ((s.heap.update a (Obj.mapSeq fun _ => #[])).push (seqObj "tuple" vs.toArray 0)).push (seqObj "list" #[] 0) }) := by
      intro i j C s' hi hj e k
      subst e
      exact row_lt hκ (paired_at Value.none [] hp6 i hi) (paired_at Value.none [] hp6 j hj) hu (k _ rfl)
    refine wpAny_bind (wpAny_mono (kat_run (ks := vs) (vs := vs) (Q := fun st' s' => ∃ p : Array Nat, arrOf st' = p.map (kas_item (vs.toArray.zip vs.toArray)) ∧ failedOf st' = none ∧ s' = { s with heap := ((s.heap.update a (Obj.mapSeq fun _ => #[])).push (seqObj "tuple" vs.toArray 0)).push (seqObj "list" #[] 0) } ∧ Prm vs.length p ∧ Srt (O := lexO) (fun i => rows.getD i []) p vs.length)
      (G := fun p s' => s' = { s with heap := ((s.heap.update a (Obj.mapSeq fun _ => #[])).push (seqObj "tuple" vs.toArray 0)).push (seqObj "list" #[] 0) } ∧ Prm vs.length p ∧ Srt (O := lexO) (fun i => rows.getD i []) p vs.length)
      rfl (by omega) h64 (fun p st' s' _ a2 a3 g => ⟨p, a2, a3, g⟩) (sort_ok ac (by omega) rfl fun p s' q1 q2 e => ⟨e, q1, q2⟩)) ?_ fun _ _ e => e)
    rintro ⟨⟨⟩, st'⟩ s' ⟨p, har, hf, rfl, q1, q2⟩
    dsimp only
    have hout := kat_snds rfl har
    refine wpAny_bind (seqEpoch_at ho6 rfl ?_)
    rw [hout]
    refine wpAny_bind (listUpdate_at ho6 rfl ?_ (hsz2 := by rw [List.size_toArray, List.length_map, Array.length_toList, q1.size, sizeLine_eq]; omega))
    rw [hf]
    simp only [bne_self_eq_false, Bool.false_eq_true, if_false]
    exact wpAny_pure (h p q1 q2)
theorem sorted_rows {l : Addr} {vs : List Value} {rows : List (List Int)} {R : Value → Shared → Prop} (hl : s.heap.IsList l vs.toArray) (hp : Paired (IsRow s.heap) vs rows) (h64 : vs.length < 64) (hu : A.in1.in1.units < cLine)
    (h : ∀ p : Array Nat, Prm vs.length p → Srt (O := lexO) (fun i => rows.getD i []) p vs.length → R (.ref (s.heap.objs.size + 1)) { s with heap := sortedAll s.heap vs (List.toArray (p.toList.map fun i => vs.getD i Value.none)) }) :
    wpAny (model prog w) A (call (.builtin "sorted") [.ref l]) R E s := by
  refine Calls.call_function_entry kind_sorted plain_sorted entry_sorted (args_sorted1 _) ?_
  unfold Builtin.«sorted»
  refine wpAny_bind (m := checkCount "sorted" 1 1 _) (wpAny_pure ?_)
  refine wpAny_bind (collect_list hl ?_)
  refine wpAny_bind (wpAny_newList ?_)
  have hsz : ((s.heap.push (seqObj "list" #[] 0)).update s.heap.objs.size (Obj.mapSeq (· ++ vs.toArray))).objs.size = s.heap.objs.size + 1 := by
    rw [Heap.size_update, size_push']
  have hoL : (((s.heap.push (seqObj "list" #[] 0)).update s.heap.objs.size (Obj.mapSeq (· ++ vs.toArray))).push (seqObj "list" vs.toArray 0)).get? (s.heap.objs.size + 1) = some (seqObj "list" vs.toArray 0) := by
    rw [← hsz]; exact Heap.get?_push_size _ rfl
  have hp6 : Paired (IsRow (((s.heap.push (seqObj "list" #[] 0)).update s.heap.objs.size (Obj.mapSeq (· ++ vs.toArray))).push (seqObj "list" vs.toArray 0))) vs rows := Paired.mapP hp fun v ns x => x.keep fun b o hc e =>
    Heap.get?_push_of_some _ ((Heap.get?_update_other _ _ (Ne.symm (Nat.ne_of_lt (Heap.lt_size e)))).trans (Heap.get?_push_of_some _ e))
  show wpAny _ _ _ _ _ { s with heap := ((s.heap.push (seqObj "list" #[] 0)).update s.heap.objs.size (Obj.mapSeq (· ++ vs.toArray))).push (seqObj "list" vs.toArray 0) }
  rw [hsz]
  refine wpAny_bind (wpAny_holding (wpAny_call_entry slot_list_sort ⟨_, hoL, rfl⟩ entry_list_sort (row_sort hoL hp6 h64 hu fun p a1 a2 => ⟨_, rfl, ?_⟩) (args_list_sort _)))
  exact wpAny_pure ⟨_, rfl, h p a1 a2⟩
end
section
variable {X : Cx}
theorem call_sortedI : CallR X (.builtin "sorted") (fun xs H Q => ∃ (a : Addr) (ns : List Int), xs = [.ref a] ∧ SqL X.K H a (ns.map V.int) ∧ ns.length < 64 ∧
    ∀ (l : Addr) (ms : List Int), ms.Perm ns → ms.Pairwise (· ≤ ·) → H l = none → Q (.ref l) (upd H l (.lst (ms.map V.int)))) := by
  intro pins s σ H xs us Q I r h
  obtain ⟨a, ns, rfl, hq, h64, q⟩ := h
  obtain ⟨u, rfl, rx⟩ := vals1 r
  cases rx
  obtain ⟨its, rv, pl, hz⟩ := I.list hq
  have hlen := rv.length
  rw [List.length_map] at hlen
  refine sorted_ints pl.isList (intsAre_of rv) (by omega) fun out ms i1 i2 i3 => ?_
  obtain ⟨e, he⟩ := sortedAll_at s.heap its out
  have hfr : H (s.heap.objs.size + 1) = none := I.hok.fresh (Nat.le_succ _)
  refine ⟨.ref _, _, I.laid (t' := s.toks) (fun b o hb => sortedAll_old hb) (Nat.le_succ _) (show ObjOk X.prog X.w _ _ _ (.lst (ms.map V.int)) from ⟨?_, out.toList, e, vals_ints i1, he⟩), rfl, q _ ms i2 i3 hfr⟩
  rw [List.length_map, i2.length_eq, sizeLine_eq]
  omega
theorem refs_vals : ∀ {as : List Addr} {us : List Value}, Vals (as.map V.ref) us → us = as.map Value.ref
  | [], _, .nil => rfl
  | a :: as, _, .cons r t => by
    cases (show _ = Value.ref a from r)
    rw [refs_vals t]
    rfl
theorem vals_refs : ∀ as : List Addr, Vals (as.map V.ref) (as.map Value.ref)
  | [] => .nil
  | a :: as => .cons rfl (vals_refs as)
theorem call_sortedT (hu : X.A.units + 64 < cLine) : CallR X (.builtin "sorted") (fun xs H Q => ∃ (a : Addr) (qs : List (Addr × List Int)), xs = [.ref a] ∧ SqL X.K H a (qs.map fun q => V.ref q.1) ∧ (∀ q ∈ qs, SqT X.K H q.1 (q.2.map V.int)) ∧ qs.length < 64 ∧
    ∀ (l : Addr) (rs : List (Addr × List Int)), rs.Perm qs → rs.Pairwise (fun x y => HT.lexLt y.2 x.2 = false) → H l = none → Q (.ref l) (upd H l (.lst (rs.map fun q => V.ref q.1)))) := by
  intro pins s σ H xs us Q I r h
  obtain ⟨a, qs, rfl, hq, hr, h64, q⟩ := h
  obtain ⟨u, rfl, rx⟩ := vals1 r
  cases rx
  obtain ⟨its, rv, pl, hz⟩ := I.list hq
  have rv' : Vals ((qs.map (·.1)).map V.ref) its := by rw [List.map_map]; exact rv
  have ei := refs_vals rv'
  have hlen : its.length = qs.length := by rw [ei, List.length_map, List.length_map]
  have hp : Paired (IsRow s.heap) its (qs.map (·.2)) := by
    rw [ei]
    clear ei rv rv' pl hlen hq hz h64 q
    induction qs with
    | nil => exact .nil
    | cons q0 qr ih =>
      refine .cons ?_ (ih fun q m => hr q (List.mem_cons_of_mem _ m))
      obtain ⟨jts, rj, tj, _⟩ := I.tuple (hr q0 (List.mem_cons_self ..))
      exact ⟨q0.1, jts.toArray, rfl, tj, by simpa using intsAre_of rj⟩
  refine sorted_rows pl.isList hp (by omega) (by show X.A.units + 1 + 1 < cLine; omega) fun p a1 a2 => ?_
  obtain ⟨e, he⟩ := sortedAll_at s.heap its (List.toArray (p.toList.map fun i => its.getD i Value.none))
  have hfr : H (s.heap.objs.size + 1) = none := I.hok.fresh (Nat.le_succ _)
  have hps := a1.size
  have lt : ∀ i ∈ p.toList, i < qs.length := fun i m => by
    have := List.mem_range.mp (a1.mem_iff.mp m)
    omega
  let rs := p.toList.map fun i => qs.getD i (0, [])
  have eo : (p.toList.map fun i => its.getD i Value.none) = (rs.map (·.1)).map Value.ref := by
    show _ = ((p.toList.map fun i => qs.getD i (0, [])).map (·.1)).map Value.ref
    rw [List.map_map, List.map_map]
    refine List.map_congr_left fun i m => ?_
    have hi := lt i m
    rw [ei]
    simp [hi]
  rw [eo] at he ⊢
  have pm : rs.Perm qs := by
    have e1 : (List.range its.length).map (fun i => qs.getD i ((0 : Addr), ([] : List Int))) = qs := by
      apply List.ext_getElem
      · simp [hlen]
      · intro i h1 h2
        simp [h2]
    have := List.Perm.map (fun i => qs.getD i ((0 : Addr), ([] : List Int))) a1
    rw [e1] at this
    exact this
  refine ⟨.ref _, _, I.laid (t' := s.toks) (fun b o hb => sortedAll_old hb) (Nat.le_succ _) (show ObjOk X.prog X.w _ _ _ (.lst (rs.map fun q => V.ref q.1)) from ⟨?_, (rs.map (·.1)).map Value.ref, e, ?_, he⟩), rfl, q _ rs pm ?_ hfr⟩
  · rw [List.length_map, pm.length_eq, sizeLine_eq]
    omega
  · have := vals_refs (rs.map (·.1))
    rw [List.map_map] at this
    exact this
  · rw [List.pairwise_iff_getElem]
    intro i j hi hj hij
    have hi' : i < p.size := by simpa [rs] using hi
    have hj' : j < p.size := by simpa [rs] using hj
    have g := a2 i j (by omega) (by omega)
    have gi : (qs.map (·.2)).getD (p.getD i 0) [] = (rs[i]).2 := by
      have l1 := lt p[i] (by simp)
      simp [rs, Array.getD, hi', l1]
    have gj : (qs.map (·.2)).getD (p.getD j 0) [] = (rs[j]).2 := by
      have l1 := lt p[j] (by simp)
      simp [rs, Array.getD, hj', l1]
    have g2 : HT.lexLt ((qs.map (·.2)).getD (p.getD j 0) []) ((qs.map (·.2)).getD (p.getD i 0) []) = false := g
    rw [gi, gj] at g2
    exact g2
end
end L2
namespace L2
open PySem PySem.W PySem.Spec PyProof.Rows
def RawAt (h : Heap) (d : Addr) (es : Array DictEntry) (ep : Nat) : Prop := ∃ o, h.get? d = some o ∧ o.ExactDict ∧ o.data = .dict es ep
theorem RawAt.at {h h' : Heap} {d : Addr} {es : Array DictEntry} {ep : Nat} (x : RawAt h d es ep) (e : ∀ o, h.get? d = some o → h'.get? d = some o) : RawAt h' d es ep := let ⟨o, ho, r⟩ := x; ⟨o, e _ ho, r⟩
theorem RawAt.lt {h : Heap} {d : Addr} {es : Array DictEntry} {ep : Nat} (x : RawAt h d es ep) : d < h.objs.size := let ⟨_, ho, _⟩ := x; Heap.lt_size ho
theorem RawAt.typeIs {s : Shared} {d : Addr} {es : Array DictEntry} {ep : Nat} (x : RawAt s.heap d es ep) : s.TypeIs (.ref d) "dict" := let ⟨o, ho, hc, _⟩ := x; ⟨o, ho, hc.1⟩
section
variable {prog : Program} {w : World} {A : Around} {E : Value → Shared → Prop} {s : Shared} {d : Addr} {es : Array DictEntry} {ep : Nat}
theorem raw_iter {Q : Value → Shared → Prop} (hd : (d == sysModules) = false) (hm : RawAt s.heap d es ep)
    (hQ : Q (.ref s.heap.objs.size) { s with heap := s.heap.push { cls := .type "dict_keyiterator", data := .fields #[.ref d, .int 0 0, .int es.size 0, .int ep 0] } }) : wpAny (model prog w) A (pyIter (.ref d)) Q E s := by
  have hT := hm.typeIs
  obtain ⟨o, ho, hc, hdat⟩ := id hm
  refine wpAny_pyIter_slot hT F.slot_dict_iter (wpAny_call_entry F.slot_dict_iter hT F.entry_dict_iter ?_ (F.args_dict_iter_1 _))
  unfold Builtin.«dict.__iter__»
  refine wpAny_bind ?_
  unfold Builtin.Dict.dictSlotNone
  refine wpAny_bind (wpAny_notOrdered_dict hT ?_)
  show wpAny _ _ (pure (Value.ref d)) _ _ s
  refine wpAny_pure ?_
  show wpAny _ _ (Builtin.Dict.showsAll d >>= _) _ _ s
  unfold Builtin.Dict.showsAll
  rw [if_neg (by rw [hd]; exact Bool.false_ne_true)]
  refine wpAny_bind (wpAny_pure ?_)
  refine wpAny_bind (wpAny_dictEntries ho hdat ?_)
  refine wpAny_bind (wpAny_dictEpoch ho hdat ?_)
  refine wpAny_bind (wpAny_newObj_type (wpAny_pure ⟨_, rfl, "dict_keyiterator", _, ⟨_, Heap.get?_push_size _ rfl, rfl⟩, F.slot_dict_keyiterator_next.lookup, ?_⟩))
  simpa [rawInt] using hQ
theorem raw_next {it : Addr} {i : Nat} {e : DictEntry} {Q : Option Value → Shared → Prop} (hit : s.heap.IsKeyIter it d i es.size ep) (hm : RawAt s.heap d es ep) (hx : es[i]? = some e)
    (hQ : ∀ h', h'.IsKeyIter it d (i + 1) es.size ep → Heap.SameBut it s.heap h' → Q (some e.key) { s with heap := h' }) : wpAny (model prog w) A (pyNext (.ref it)) Q E s := by
  obtain ⟨o, ho, hc, hd⟩ := id hit
  obtain ⟨od, hod, hcd, hdd⟩ := id hm
  unfold pyNext
  refine wpAny_bind (wpAny_attempt (wpAny_callSpecial?_slot (name := Str.ofString "__next__") hit.typeIs F.slot_dict_keyiterator_next
    (wpAny_call_entry F.slot_dict_keyiterator_next hit.typeIs F.entry_dict_keyiterator_next ?_ (F.args_dict_keyiterator_next_1 _))))
  refine wpAny_bind (wpAny_pure ?_)
  refine wpAny_bind ?_
  refine wpAny_bind ?_
  first | refine wpAny_bind (wpAny_typeNameOfWhole_keyiter hit.typeIs (wpAny_pure ?_)) | refine wpAny_bind (wpAny_typeNameOf_keyiter hit.typeIs (wpAny_pure ?_))
  refine wpAny_bind (wpAny_fieldsOf ho hd ?_)
  have hown : Builtin.Dict_items.ownsTuple "dict_keyiterator" = false := by decide
  simp only [hown, Bool.false_eq_true, if_false]
  show wpAny _ _ (if (Value.ref d == Value.none) = true then _ else _) _ _ s
  rw [if_neg (show ¬ ((Value.ref d == Value.none) = true) from Bool.false_ne_true)]
  refine wpAny_bind (wpAny_pure ?_)
  refine wpAny_bind (wpAny_dictEntries hod hdd ?_)
  rw [if_neg (by simp)]
  refine wpAny_bind (wpAny_pure ?_)
  refine wpAny_bind (wpAny_dictEpoch hod hdd ?_)
  rw [if_neg (by simp)]
  refine wpAny_pure ?_
  simp only [show ¬ ((i : Int) < 0) from by omega, if_false, Int.toNat_natCast, hx]
  refine wpAny_bind ?_
  first | refine wpAny_bind (wpAny_typeNameOfWhole_keyiter hit.typeIs (wpAny_pure ?_)) | refine wpAny_bind (wpAny_typeNameOf_keyiter hit.typeIs (wpAny_pure ?_))
  refine wpAny_bind (wpAny_isOneOf_keyiter hit.typeIs ?_)
  show wpAny _ _ (setField (.ref it) 1 (rawInt ((i : Int) + 1)) >>= _) _ _ s
  refine wpAny_bind (wpAny_setField ho hd (by simp) ?_)
  have hit' : (s.heap.update it (Obj.mapFields (·.setIfInBounds 1 (rawInt ((i : Int) + 1))))).IsKeyIter it d (i + 1) es.size ep :=
    ⟨_, Heap.get?_update_self _ ho (Obj.isFreed_of_fields (Obj.data_mapFields hd _)), (Obj.cls_mapFields ..).trans hc, by rw [Obj.data_mapFields hd]; simp [rawInt]⟩
  refine wpAny_bind (wpAny_holding ?_)
  refine wpAny_bind (wpAny_isOneOf_keyiter (s := { s with heap := s.heap.update it (Obj.mapFields (·.setIfInBounds 1 (rawInt ((i : Int) + 1)))) }) hit'.typeIs ?_)
  show wpAny _ _ (pure e.key) _ _ _
  exact wpAny_pure (wpAny_pure ⟨_, rfl, wpAny_pure (hQ _ hit' (Heap.SameBut.update ..))⟩)
theorem raw_end {it : Addr} {i : Nat} {Q : Option Value → Shared → Prop} (hh : A.handled = none) (hit : s.heap.IsKeyIter it d i es.size ep) (hm : RawAt s.heap d es ep) (hx : es.size ≤ i)
    (hQ : ∀ h', Heap.ExtBut it s.heap h' → Q none { s with heap := h' }) : wpAny (model prog w) A (pyNext (.ref it)) Q E s := by
  obtain ⟨o, ho, hc, hd⟩ := id hit
  obtain ⟨od, hod, hcd, hdd⟩ := id hm
  unfold pyNext
  refine wpAny_bind (wpAny_attempt (wpAny_callSpecial?_slot (name := Str.ofString "__next__") hit.typeIs F.slot_dict_keyiterator_next
    (wpAny_call_entry F.slot_dict_keyiterator_next hit.typeIs F.entry_dict_keyiterator_next ?_ (F.args_dict_keyiterator_next_1 _))))
  refine wpAny_bind (wpAny_pure ?_)
  refine wpAny_bind ?_
  refine wpAny_bind ?_
  first | refine wpAny_bind (wpAny_typeNameOfWhole_keyiter hit.typeIs (wpAny_pure ?_)) | refine wpAny_bind (wpAny_typeNameOf_keyiter hit.typeIs (wpAny_pure ?_))
  refine wpAny_bind (wpAny_fieldsOf ho hd ?_)
  have hown : Builtin.Dict_items.ownsTuple "dict_keyiterator" = false := by decide
  simp only [hown, Bool.false_eq_true, if_false]
  show wpAny _ _ (if (Value.ref d == Value.none) = true then _ else _) _ _ s
  rw [if_neg (show ¬ ((Value.ref d == Value.none) = true) from Bool.false_ne_true)]
  refine wpAny_bind (wpAny_pure ?_)
  refine wpAny_bind (wpAny_dictEntries hod hdd ?_)
  rw [if_neg (by simp)]
  refine wpAny_bind (wpAny_pure ?_)
  refine wpAny_bind (wpAny_dictEpoch hod hdd ?_)
  rw [if_neg (by simp)]
  refine wpAny_pure ?_
  simp only [show ¬ ((i : Int) < 0) from by omega, if_false, Int.toNat_natCast, Array.getElem?_eq_none hx]
  refine wpAny_bind ?_
  first | refine wpAny_bind (wpAny_typeNameOfWhole_keyiter hit.typeIs (wpAny_pure ?_)) | refine wpAny_bind (wpAny_typeNameOf_keyiter hit.typeIs (wpAny_pure ?_))
  show wpAny _ _ (setField (.ref it) 0 .none >>= _) _ _ s
  refine wpAny_bind (wpAny_setField ho hd (by simp) ?_)
  show wpAny _ _ (newExc (.type "StopIteration") [] >>= _) _ _ _
  refine wpAny_bind ?_
  simp only [newExc, newTuple]
  refine wpAny_bind (wpAny_newObj_type ?_ (by size_fits))
  refine wpAny_bind (m := firstArgMember _ _) (wpAny_of_eq (a := Value.none) (by first | rfl | (simp only [firstArgMember]; rfl)) ?_)
  refine wpAny_newObj_type ?_ (by size_fits)
  simp only [raiseNew]
  refine wpAny_bind (wpAny_handled ?_)
  rw [show A.in1.handled = none from hh]
  refine wpAny_bind (wpAny_pure (wpAny_throw ?_))
  refine wpAny_bind (wpAny_isInstance (T := "StopIteration") (b := true) ⟨_, Heap.get?_push_size _ rfl, rfl⟩ isSubtype_stop ?_)
  exact wpAny_pure (hQ _ (((Heap.SameBut.update ..).extBut.push _).push _))
theorem raw_walks (hh : A.handled = none) (I : Addr) (hne : d ≠ I) : Walks prog w A I [I, d] [I] es.size (fun i v => ∃ e, es[i]? = some e ∧ v = e.key) (fun i h => h.IsKeyIter I d i es.size ep ∧ RawAt h d es ep) where
  sub := fun b hb => by simp at hb; simp [hb]
  frame := fun _ _ _ st hk => ⟨st.1.at fun o e => hk I (by simp) o e, st.2.at fun o e => hk d (by simp) o e⟩
  item := fun i s Q E hi st hQ => by
    obtain ⟨e, hx⟩ : ∃ e, es[i]? = some e := ⟨es[i], by simp [hi]⟩
    refine raw_next st.1 st.2 hx fun h' hit' hs' => ?_
    exact hQ e.key h' s.toks ⟨e, hx, rfl⟩ ⟨hit', st.2.at fun o q => hs'.extBut d o hne q⟩ fun b o hb q => hs'.extBut b o (fun h => hb (by simp [h])) q
  done := fun s Q E st hQ => raw_end hh st.1 st.2 (Nat.le_refl _) fun h' he' => hQ h' s.toks fun b o hb q => he' b o (fun h => hb (by simp [h])) q
  self := fun _ _ _ _ st hQ => wpAny_pyIter_keyiter st.1 hQ
theorem raw_src (lo : (d == sysModules) = false) : KdlSrc prog w "dict" d d es.size (fun i v => ∃ e, es[i]? = some e ∧ v = e.key) (fun h => RawAt h d es ep) where
  type := fun _ hm => hm.typeIs
  there := fun _ hm => ⟨hm.lt, hm.lt⟩
  keep := fun _ _ hm hk => hm.at fun o e => hk d (.inl rfl) o e
  notList := by decide
  notTuple := by decide
  hint := fun _ _ _ _ hm hq => kdl_hint_dict hm.typeIs hq
  iter := fun _ s hh hm => ⟨_, _, (fun _ _ hq => raw_iter lo hm hq), raw_walks hh _ (Nat.ne_of_lt hm.lt), ⟨⟨_, Heap.get?_push_size _ rfl, rfl, rfl⟩, hm.at fun o e => Heap.get?_push_of_some _ e⟩⟩
theorem raw_keys {acc : Array Value} (h : ItemsOf (fun i v => ∃ e, es[i]? = some e ∧ v = e.key) acc es.size) : acc = es.map (·.key) := by
  obtain ⟨h1, h2⟩ := h
  apply Array.ext
  · simpa using h1
  · intro i hi hj
    obtain ⟨e, he, hk⟩ := h2 i acc[i] (by simp [hi])
    have hi' : i < es.size := by omega
    rw [Array.getElem?_eq_getElem hi'] at he
    rw [hk, Array.getElem_map, Option.some.inj he]
theorem raw_collect {R : List Value → Shared → Prop} (lo : (d == sysModules) = false) (hm : RawAt s.heap d es ep) (hh : A.handled = none) (hn : es.size ≤ sizeLine)
    (h : ∀ (h' : Heap) (tk : Nat), (∀ b o, s.heap.get? b = some o → h'.get? b = some o) → s.heap.objs.size < h'.objs.size → R (es.toList.map (·.key)) { s with heap := h', toks := tk }) :
    wpAny (model prog w) A (collect (.ref d)) R E s := by
  have hlt := hm.lt
  unfold collect
  refine wpAny_bind (wpAny_runValue (codeAny_builtin entry_proto_collect' ?_))
  rw [Around.under_plainId PySem.F.plain_proto_collect _]
  show wpAny _ A.in1 (newList [] >>= fun l => again (.builtin "list.__iadd__" ⟨[l, .ref d], []⟩)) _ _ s
  refine wpAny_bind (wpAny_newObj_type ?_)
  refine wpAny_pure ⟨plainId_quiet PySem.F.plain_list_iadd _, codeAny_builtin entry_list_iadd' ?_⟩
  rw [Around.under_plainId PySem.F.plain_list_iadd _]
  have hS₁ : (s.heap.push { cls := .type "list", data := .seq ([] : List Value).toArray }).get? s.heap.objs.size = some { cls := .type "list", data := .seq #[] } := Heap.get?_push_size _ rfl
  show wpAny _ A.in1 (Builtin.List.listExtendWith (.ref s.heap.objs.size) (.ref d) (.ref s.heap.objs.size)) _ _ _
  have key := kdl_extend (A := A) (s := { s with heap := s.heap.push { cls := .type "list", data := .seq ([] : List Value).toArray } })
    (R := fun (q : Result) (s' : Shared) => ∃ (h' : Heap) (tk c' : Nat), q = .ok (.ret (.ref s.heap.objs.size)) ∧ s' = { s with heap := h', toks := tk } ∧
      (∀ b o, s.heap.get? b = some o → h'.get? b = some o) ∧ h'.get? s.heap.objs.size = some { cls := .type "list", dict := none, data := .seq (es.map (·.key)) c', slots := #[] })
    (raw_src (prog := prog) (w := w) (es := es) (ep := ep) lo) hh (hm.at fun o e => Heap.get?_push_of_some _ e) s.heap.objs.size (Nat.ne_of_gt hlt) (Nat.ne_of_gt hlt) (.ref s.heap.objs.size) 0 hS₁
    (fun h' tk acc' c' hk hS' hacc => ⟨h', tk, c', rfl, rfl, fun b o e => hk b o (Nat.ne_of_lt (Heap.lt_size e)) (Heap.get?_push_of_some _ e), by rw [← raw_keys hacc]; exact hS'⟩) hn
  refine wpAny_mono key (fun fin s' x => ?_) fun e s' x => ?_
  · cases fin with
    | done f =>
      obtain ⟨h', tk, c', e, rfl, hk, hS'⟩ := x
      cases e
      show wpAny _ A (load s.heap.objs.size >>= _) _ _ _
      refine wpAny_bind (wpAny_load hS' ?_)
      have := h h' tk hk (Heap.lt_size hS')
      rw [← Array.toList_map] at this
      exact wpAny_pure this
    | again c₁ =>
      refine ⟨x.1, codeAny_mono x.2 fun q s₂ y => ?_⟩
      obtain ⟨h', tk, c', rfl, rfl, hk, hS'⟩ := y
      show wpAny _ A (load s.heap.objs.size >>= _) _ _ _
      refine wpAny_bind (wpAny_load hS' ?_)
      have := h h' tk hk (Heap.lt_size hS')
      rw [← Array.toList_map] at this
      exact wpAny_pure this
  · obtain ⟨_, _, _, e', _⟩ := x
    cases e'
theorem sorted_keys {vs : List Value} (lo : (d == sysModules) = false) (hm : RawAt s.heap d es ep) (hz : es.size < 64) (hh : A.handled = none) (hv : es.toList.map (·.key) = vs) {R : Value → Shared → Prop}
    (h : ∀ (h' : Heap) (tk : Nat) (a : Addr), (∀ b o, s.heap.get? b = some o → h'.get? b = some o ∧ b ≠ a) → s.heap.objs.size ≤ a → h'.get? a = some (seqObj "list" vs.toArray 0) →
      wpAny (model prog w) A.in1.in1 (Builtin.«list.sort» ⟨[.ref a], []⟩) (fun fin s' => ∃ v, fin = .done (.ret v) ∧ R (.ref a) s') E { s with heap := h', toks := tk }) :
    wpAny (model prog w) A (call (.builtin "sorted") [.ref d]) R E s := by
  refine Calls.call_function_entry kind_sorted plain_sorted entry_sorted (args_sorted1 _) ?_
  unfold Builtin.«sorted»
  refine wpAny_bind (m := checkCount "sorted" 1 1 _) (wpAny_pure ?_)
  refine wpAny_bind (raw_collect (A := A.in1) lo hm hh (by rw [sizeLine_eq]; omega) fun h' tk hk ge => ?_)
  rw [hv]
  have hl : vs.length < 64 := by rw [← hv, List.length_map, Array.length_toList]; exact hz
  refine wpAny_bind (wpAny_newList ?_ (by rw [sizeLine_eq]; omega))
  have ho : (h'.push (seqObj "list" vs.toArray 0)).get? h'.objs.size = some (seqObj "list" vs.toArray 0) := Heap.get?_push_size _ rfl
  refine wpAny_bind (wpAny_holding (wpAny_call_entry slot_list_sort ⟨_, ho, rfl⟩ entry_list_sort ?_ (args_list_sort _)))
  refine wpAny_mono (h _ tk h'.objs.size (fun b o e => ⟨Heap.get?_push_of_some _ (hk b o e), Nat.ne_of_lt (Heap.lt_size (hk b o e))⟩) (Nat.le_of_lt ge) ho) (fun fin s' x => ?_) fun _ _ x => x
  obtain ⟨v, rfl, q⟩ := x
  exact ⟨_, rfl, wpAny_pure ⟨_, rfl, q⟩⟩
end
section
variable {X : Cx}
theorem kt_rows {H : Hp} : ∀ {kvs : List (List Key × V)} {xs : List (List Key × Addr × Value)} {ks : List (List Int)}, KT H kvs xs → kvs.map (·.1) = ks.map (List.map Sum.inl) →
    ∃ qs : List (Addr × List Int), xs.map (fun x => Value.ref x.2.1) = (qs.map (·.1)).map Value.ref ∧ qs.map (·.2) = ks ∧ ∀ q ∈ qs, H q.1 = some (.tup (q.2.map V.int)) := by
  intro kvs xs ks r
  induction r generalizing ks with
  | nil =>
    intro e
    cases ks with
    | nil => exact ⟨[], rfl, rfl, fun _ m => nomatch m⟩
    | cons _ _ => cases e
  | @cons p q ps qr hq t ih =>
    intro e
    cases ks with
    | nil => cases e
    | cons k ks =>
      injection e with e1 e2
      obtain ⟨qs, a1, a2, a3⟩ := ih e2
      refine ⟨(q.2.1, k) :: qs, ?_, ?_, fun x m => ?_⟩
      · rw [List.map_cons, a1]
        rfl
      · rw [List.map_cons, a2]
      · rcases List.mem_cons.mp m with m | m
        · subst m
          have h := hq.2.1
          have e1' : p.1 = k.map Sum.inl := e1
          rw [e1', List.map_map] at h
          exact h
        · exact a3 x m
theorem call_sortedDT (hc : X.calm = true) (hu : X.A.units + 64 < cLine) : CallR X (.builtin "sorted") (fun xs H Q => ∃ (d : Addr) (kvs : List (List Key × V)) (ks : List (List Int)), xs = [.ref d] ∧ Rd H d (.dT kvs) ∧ kvs.map (·.1) = ks.map (List.map Sum.inl) ∧ ks.length < 64 ∧
    ∀ (l : Addr) (rs : List (Addr × List Int)), (∀ q ∈ rs, H q.1 = some (.tup (q.2.map V.int))) → (rs.map (·.2)).Perm ks → rs.Pairwise (fun x y => HT.lexLt y.2 x.2 = false) → H l = none → Q (.ref l) (upd H l (.lst (rs.map fun q => V.ref q.1)))) := by
  intro pins s σ H xs us Q I r h
  obtain ⟨d, kvs, ks, rfl, hd, hks, h64, q⟩ := h
  obtain ⟨u, rfl, rx⟩ := vals1 r
  cases rx
  obtain ⟨_, lo, xs, kt, o, es, ep, h1, h2, h3, h4, _, _⟩ := dt_rd I.hok hd
  obtain ⟨qs, b1, b2, b3⟩ := kt_rows kt hks
  have hv : es.toList.map (·.key) = (qs.map (·.1)).map Value.ref := by
    rw [h4, List.map_map, ← b1]
    rfl
  have hql : qs.length = ks.length := by rw [← b2, List.length_map]
  have hes : es.size = qs.length := by
    have := congrArg List.length hv
    simpa using this
  have hp : Paired (IsRow s.heap) ((qs.map (·.1)).map Value.ref) (qs.map (·.2)) := by
    clear hv hql hes b1 b2
    induction qs with
    | nil => exact .nil
    | cons q0 qr ih =>
      refine .cons ?_ (ih fun q m => b3 q (List.mem_cons_of_mem _ m))
      obtain ⟨jts, rj, tj, _⟩ := I.tuple (SqT.of (b3 q0 (List.mem_cons_self ..)))
      exact ⟨q0.1, jts.toArray, rfl, tj, by simpa using intsAre_of rj⟩
  refine sorted_keys lo ⟨o, h1, h2, h3⟩ (by omega) (I.ok.hd hc) hv fun h' tk a kp ge ho => ?_
  have hp' : Paired (IsRow h') ((qs.map (·.1)).map Value.ref) (qs.map (·.2)) := Paired.mapP hp fun v ns x => x.keep fun b o _ e => (kp b o e).1
  have ll : ((qs.map (·.1)).map Value.ref).length = qs.length := by rw [List.length_map, List.length_map]
  refine row_sort (s := { s with heap := h', toks := tk }) ho hp' (by omega) (by show X.A.units + 1 + 1 < cLine; omega) fun p a1 a2 => ⟨_, rfl, ?_⟩
  obtain ⟨e, he⟩ := sortedHeap_at (out := List.toArray (p.toList.map fun i => ((qs.map (·.1)).map Value.ref).getD i Value.none)) ho
  have hfr : H a = none := I.hok.fresh ge
  have hps := a1.size
  have lt : ∀ i ∈ p.toList, i < qs.length := fun i m => by
    have := List.mem_range.mp (a1.mem_iff.mp m)
    omega
  let rs := p.toList.map fun i => qs.getD i (0, [])
  have eo : (p.toList.map fun i => ((qs.map (·.1)).map Value.ref).getD i Value.none) = (rs.map (·.1)).map Value.ref := by
    show _ = ((p.toList.map fun i => qs.getD i (0, [])).map (·.1)).map Value.ref
    simp only [List.map_map]
    refine List.map_congr_left fun i m => ?_
    have hi := lt i m
    simp [hi]
  rw [eo] at he ⊢
  have pm : rs.Perm qs := by
    have e1 : (List.range ((qs.map (·.1)).map Value.ref).length).map (fun i => qs.getD i ((0 : Addr), ([] : List Int))) = qs := by
      rw [ll]
      apply List.ext_getElem
      · simp
      · intro i h1 h2
        simp [h2]
    have := List.Perm.map (fun i => qs.getD i ((0 : Addr), ([] : List Int))) a1
    rw [e1] at this
    exact this
  refine ⟨.ref _, _, I.laid (t' := tk) (fun b o hb => ?_) ge (show ObjOk X.prog X.w _ _ _ (.lst (rs.map fun q => V.ref q.1)) from ⟨?_, (rs.map (·.1)).map Value.ref, e, ?_, he⟩), rfl, q _ rs (fun q m => b3 q (pm.mem_iff.mp m)) (by rw [← b2]; exact pm.map _) ?_ hfr⟩
  · obtain ⟨k1, k2⟩ := kp b o hb
    rw [sortedHeap_old k2 (Heap.lt_size k1)]
    exact k1
  · rw [List.length_map, pm.length_eq, sizeLine_eq]
    omega
  · have := vals_refs (rs.map (·.1))
    rw [List.map_map] at this
    exact this
  · rw [List.pairwise_iff_getElem]
    intro i j hi hj hij
    have hi' : i < p.size := by simpa [rs] using hi
    have hj' : j < p.size := by simpa [rs] using hj
    have g := a2 i j (by omega) (by omega)
    have gi : (qs.map (·.2)).getD (p.getD i 0) [] = (rs[i]).2 := by
      have l1 := lt p[i] (by simp)
      simp [rs, Array.getD, hi', l1]
    have gj : (qs.map (·.2)).getD (p.getD j 0) [] = (rs[j]).2 := by
      have l1 := lt p[j] (by simp)
      simp [rs, Array.getD, hj', l1]
    have g2 : HT.lexLt ((qs.map (·.2)).getD (p.getD j 0) []) ((qs.map (·.2)).getD (p.getD i 0) []) = false := g
    rw [gi, gj] at g2
    exact g2
theorem call_max1 (hc : X.calm = true) : CallR X (.builtin "max") (fun xs H Q => ∃ (a : Addr) (ns : List Int), xs = [.ref a] ∧ SqL X.K H a (ns.map V.int) ∧ 0 < ns.length ∧ ∀ M, M ∈ ns → (∀ z ∈ ns, z ≤ M) → Q (.int M) H) := by
  intro pins s σ H xs us Q I r h
  obtain ⟨a, ns, rfl, hq, hne, q⟩ := h
  obtain ⟨u, rfl, rx⟩ := vals1 r
  cases rx
  obtain ⟨its, rv, pl, hz⟩ := I.list hq
  have hi := intsAre_of rv
  obtain ⟨xs, e⟩ := hi.allInts.items
  have hns : ns = xs.toList.map (·.1) := by
    rw [← hi.numsOf, ← nums_intItems, ← e]
  have hsz : 0 < xs.size := by
    have h3 := hne; rw [hns, List.length_map, Array.length_toList] at h3; exact h3
  have hl := pl.isList
  rw [e] at hl
  refine max_intList (I.ok.hd hc) hl hsz fun v h' tk hv hk => ?_
  obtain ⟨t, rfl⟩ := intItems_at hv
  obtain ⟨_, h2⟩ := argBest_gt (numAt xs) (xs.size - 1)
  refine ⟨.int _, H, I.kept hk, ⟨t, rfl⟩, q _ ?_ fun z m => ?_⟩
  · rw [hns, numAt_eq]; exact getD_mem (by rw [List.length_map, Array.length_toList]; omega)
  · rw [hns] at m
    obtain ⟨j, hj, rfl⟩ := mem_getD m
    rw [List.length_map, Array.length_toList] at hj
    rw [← numAt_eq]; exact h2 j (by omega)
end
end L2
namespace L2
open PySem
end L2
namespace L2
open PySem PySem.W PySem.Spec PyProof.Rows
section
variable {prog : Program} {w : World} {A : Around} {E : Value → Shared → Prop} {s : Shared}
end
section
variable {prog : Program} {w : World} {A : Around} {R : Result → Shared → Prop} {I : Addr} {fp wr : List Addr} {G : Array GenState → Array GenState → Prop} {n : Nat} {P : Nat → Value → Prop} {St : Nat → Shared → Prop}
end
section
variable {prog : Program} {w : World} {A : Around} {E : Value → Shared → Prop} {s : Shared}
set_option maxRecDepth 100000 in
set_option maxHeartbeats 3200000 in
end
end L2
namespace L2
open PySem PySem.W PySem.Spec PyProof.Rows
section
variable {prog : Program} {w : World} {A : Around} {E : Value → Shared → Prop} {s : Shared}
end
section
variable {prog : Program} {w : World} {A : Around} {E : Value → Shared → Prop} {s : Shared} {a : Addr} {es : Array (Int × Value)} {ep : Nat} {t : SetTable}
end
end L2
namespace L2
open PySem PySem.W PySem.Spec PyProof.Rows
section
variable {X : Cx} {e : Expr} {te : TE} {p p2 pos pos2 : Pos}
end
end L2
namespace L2
open PySem PySem.Spec PyProof.Rows
section
variable {X : Cx} {pins : List (Addr × Obj)} {σ : St} {H : Hp} {s : Shared} {h' : Heap}
end
section
variable {X : Cx}
end
section
variable {X : Cx}
theorem vals_bools : ∀ {bs : List Bool} {us : List Value}, Vals (bs.map V.bl) us → us = bs.map Value.bool
  | [], _, .nil => rfl
  | _ :: _, _, .cons r rr => by
    cases r
    rw [vals_bools rr]
    rfl
theorem all_range (bs : List Bool) : (List.range bs.length).all (fun i => bs.getD i false) = bs.all id := by
  rw [Bool.eq_iff_iff, List.all_eq_true, List.all_eq_true]
  constructor
  · intro h b hb
    obtain ⟨i, hi, rfl⟩ := List.mem_iff_getElem.mp hb
    have := h i (List.mem_range.mpr hi)
    simpa [List.getD_eq_getElem?_getD, hi] using this
  · intro h i hi
    have hi' := List.mem_range.mp hi
    have := h _ (List.getElem_mem hi')
    simpa [List.getD_eq_getElem?_getD, hi'] using this
theorem truth_bools {P : Program} {w : World} {A : Around} {bs : List Bool} : TruthOf P w A (fun i v => (bs.map Value.bool).toArray[i]? = some v) (fun i => bs.getD i false) := by
  intro i v s Q E hP hQ
  have hP' : (bs.map Value.bool)[i]? = some v := by simpa using hP
  rw [List.getElem?_map] at hP'
  cases e : bs[i]? with
  | none => rw [e] at hP'; cases hP'
  | some b =>
    rw [e] at hP'
    have : Value.bool b = v := Option.some.inj hP'
    subst this
    refine wpAny_truthy_bool ?_
    have e2 : bs.getD i false = b := by rw [List.getD_eq_getElem?_getD, e]; rfl
    dsimp only at hQ
    rw [e2] at hQ
    exact hQ
theorem call_all (hc : X.calm = true) {K : PySem.W.Frag} (hK : X.K = K := by rfl) : CallR X (.builtin "all") (fun xs H Q => ∃ (a : Addr) (bs : List Bool), xs = [.ref a] ∧ SqL K H a (bs.map V.bl) ∧ Q (.bl (bs.all id)) H) := by
  subst hK
  intro pins s σ H xs us Q I r h
  obtain ⟨a, bs, rfl, hq, q⟩ := h
  obtain ⟨u, rfl, rx⟩ := vals1 r
  cases rx
  obtain ⟨its, rv, pl, hz⟩ := I.list hq
  have ei := vals_bools rv
  subst ei
  have lt : a < s.heap.objs.size := by obtain ⟨o, q, _⟩ := pl.isList; exact Heap.lt_size q
  refine call_all_walk (wpAny_pyIter_list pl.isList ?_)
  refine ⟨_, _, _, _, _, _, _, rfl, Walks.list (A := X.A.in1) (I.ok.hd hc) s.heap.objs.size a (Nat.ne_of_lt lt) (bs.map Value.bool).toArray, ⟨⟨_, Heap.get?_push_size _ rfl, rfl, rfl⟩, pl.isList.at fun o q => Heap.get?_push_of_some _ q⟩, truth_bools, fun h' tk hk => ?_⟩
  rw [List.size_toArray, List.length_map, all_range]
  exact ⟨.bl _, H, I.kept (t' := tk) fun b o q => hk b o (by simpa using Nat.ne_of_lt (Heap.lt_size q)) (Heap.get?_push_of_some _ q), rfl, q⟩
end
end L2
namespace L2
open PySem PySem.Spec PyProof.Rows
def tCompT (n : Nat) (wi : TI) (g : TG) (tt : TT) (te : TE) : TE := fun σ H Q => wi σ H fun J H1 => ∀ D, H1 D = none → ∃ W : Nat → Nat → List V → Hp → Prop, (∃ m, W 0 m [] (upd H1 D (.lst []))) ∧ ∀ i m ys H2, W i m ys H2 →
  H2 D = some (.lst ys) ∧ ((J.stop i H2 ∧ Q (.ref D) H2) ∨ (J.go i H2 ∧ ys.length < sizeLine ∧ ∀ x H3, J.yld i H2 x H3 → ∀ os : St, os.length = n → g x (σ ++ os) H3 fun σ4 H4 => (∃ os' : St, σ4 = σ ++ os' ∧ os'.length = n) ∧ tt σ4 H4 fun b H5 => if b = true then te σ4 H5 fun y H6 => H6 D = some (.lst ys) ∧ ∃ m', m' < m ∧ W (i + 1) m' (ys ++ [y]) (upd H6 D (.lst (ys ++ [y])))
    else ∃ m', m' < m ∧ W (i + 1) m' ys H5))
structure CompNs (N Nc : List Str) (xs : List Str) (sc fsc : Scope) : Prop where
  kind : sc.kind = .function
  cell : ∀ y ∈ sc.names, y.2 ≠ .cell
  nm : ∀ y ∈ sc.names, y.2 = .local → sc.names.lookup y.1 = some .local
  own : ∀ x ∈ xs, sc.names.lookup x = some .local
  fr : ∀ y ∈ sc.names, y.2 = .free → fsc.names.lookup y.1 = some .cell ∨ fsc.names.lookup y.1 = some .free
  len : Nc.length = N.length + xs.length
  nd : Nc.Nodup
  last : Nc.drop N.length = xs
  slot : ((List.range N.length).all fun i => match Nc[i]? with
    | some y => (match sc.names.lookup y with | some .free => N[i]? == some y | some .local => false | some .cell => false | _ => true)
    | none => true) = true
theorem CompNs.at {N Nc : List Str} {xs : List Str} {sc fsc : Scope} (C : CompNs N Nc xs sc fsc) {i : Nat} {y : Str} (hi : i < N.length) (h : Nc[i]? = some y) : sc.names.lookup y ≠ some .local ∧ sc.names.lookup y ≠ some .cell ∧ (sc.names.lookup y = some .free → N[i]? = some y) := by
  have q := List.all_eq_true.mp C.slot i (List.mem_range.mpr hi)
  rw [h] at q
  dsimp only at q
  cases e : sc.names.lookup y with
  | none => exact ⟨fun z => (nomatch z), fun z => (nomatch z), fun z => (nomatch z)⟩
  | some k =>
    rw [e] at q
    cases k with
    | «local» => exact absurd (show false = true from q) Bool.false_ne_true
    | cell => exact absurd (show false = true from q) Bool.false_ne_true
    | free => exact ⟨fun z => (nomatch z), fun z => (nomatch z), fun _ => by simpa using q⟩
    | _ => exact ⟨fun z => (nomatch z), fun z => (nomatch z), fun z => (nomatch z)⟩
theorem pgc_name {X : Cx} {N Nc xs : List Str} {sc fsc : Scope} {cl : List (Str × Addr)} {s : Shared} {H : Hp} {ex : List Addr} {x : Str} {px : Pos} {j n : Nat} (cn : CompNs N Nc xs sc fsc) (hj : xs[j]? = some x) (hn : n = N.length + j) : PG (X.inComp Nc sc cl s H ex) (.Name x px) (gName n) := by
  have own : (relabel sc X.env).names.lookup x = some .local := by
    have e := lookup_relabel X.env sc.names x
    rw [cn.own x (List.mem_of_getElem? hj)] at e
    exact e
  refine pg_name (X := X.inComp Nc sc cl s H ex) cn.nd ?_ (.inl own) (.inr own)
  show Nc[n]? = some x
  rw [hn, ← List.getElem?_drop, cn.last]
  exact hj
theorem loopT {prog : Program} {w : World} {A : Around} {R : Result → Shared → Prop} {s : Shared} {elt tg iter : Expr} {ifs : List Expr} {scope : Scope} {pos : Pos} {it acc : Value} {env : Env} (I : Nat → Shared → Prop)
    (turn : ∀ n s, I n s → wpAny (model prog w) A (pyNext it) (fun r s₁ => match r with
      | none => R (.ok .next) s₁
      | some v => wpAny (model prog w) A (letOwnedTupleGo tg it v) (fun _ z => wpAny (model prog w) A (assign tg env v) (fun _ s₂ =>
          wpAny (model prog w) A (forIn ifs true fun c r => if r = true then do let ok ← isTrue c env (eval c env); pure (ForInStep.yield ok) else pure (ForInStep.yield r)) (fun ok s₃ =>
            if ok = true then wpAny (model prog w) A (eval elt env) (fun x s₄ => wpAny (model prog w) A (call (.builtin "list.append") [acc, x]) (fun _ s₅ => ∃ m, m < n ∧ I m s₅) (fun _ _ => False) s₄) (fun _ _ => False) s₃
            else ∃ m, m < n ∧ I m s₃) (fun _ _ => False) s₂) (fun _ _ => False) z) (fun _ _ => False) s₁) (fun _ _ => False) s)
    (n : Nat) (h : I n s) : codeAny (model prog w) A (.compLoop (.ListComp elt [⟨tg, iter, ifs, 0⟩] scope pos) 0 it acc env) R s := by
  refine codeAny_loop rfl I (fun k z y => ?_) n h
  show wpAny _ A ((compTurn (.ListComp elt [⟨tg, iter, ifs, 0⟩] scope pos) 0 it acc env).onRaise fun x => do noteFrame x env; theTreesLotGoes x) _ _ z
  refine wpAny_noted ?_
  rw [compTurn_list]
  refine wpAny_bind (wpAny_standAt (wpAny_bind (thnF (turn k z y) fun r s₁ q1 => ?_)))
  cases r with
  | none => exact wpAny_pure q1
  | some v =>
    refine wpAny_bind (thnF q1 fun _ z q2 => wpAny_bind (thnF q2 fun _ s₂ q3 => wpAny_bind (thnF q3 fun ok s₃ q4 => ?_)))
    cases ok with
    | false => exact wpAny_pure ⟨rfl, q4⟩
    | true => exact wpAny_bind (wpAny_bind (thnF q4 fun x s₄ q5 => wpAny_bind (thnF q5 fun _ s₅ q6 => wpAny_pure (wpAny_pure ⟨rfl, q6⟩))))
section
variable {X : Cx} {elt iter : Expr} {xs : List Str} {tg : Expr} {g : TG} {pos : Pos} {ifs : List Expr} {sc fsc : Scope} {N Nc : List Str} {wi : TI} {tt : TT} {te : TE}
theorem comp_coreT (hE : X.env.scope = fsc) (hXN : X.N = N) (cn : CompNs N Nc xs sc fsc) (hc : X.calm = true)
    (hg : ∀ cl s H ex, PG (X.inComp Nc sc cl s H ex) tg g) (ht : ∀ cl s H ex, PIfs (X.inComp Nc sc cl s H ex) ifs tt) (he : ∀ cl s H ex, PE (X.inComp Nc sc cl s H ex) elt te)
    {cl : List (Str × Addr)} (clS : ∀ y c, cl.lookup y = some c → X.env.cells.lookup y = some c) (clH : ∀ y ∈ sc.names, y.2 = .free → ∃ c, cl.lookup y.1 = some c)
    {pins : List (Addr × Obj)} {σ : St} {H2 : Hp} {s2 : Shared} {it : Addr} {fp : List Addr} {tn : Nat → Heap → Prop} {J : It} {Q : VK} {E : Value → Shared → Prop}
    (I2 : Inv X pins σ H2 s2) (T : Turn X.prog X.w X.K tg J fp it tn) (st2 : tn 0 s2.heap) (f2 : ∀ b ∈ fp, FpOk X pins H2 b)
    (h2 : ∀ D, H2 D = none → ∃ W : Nat → Nat → List V → Hp → Prop, (∃ m, W 0 m [] (upd H2 D (.lst []))) ∧ ∀ i m ys H2, W i m ys H2 →
      H2 D = some (.lst ys) ∧ ((J.stop i H2 ∧ Q (.ref D) H2) ∨ (J.go i H2 ∧ ys.length < sizeLine ∧ ∀ x H3, J.yld i H2 x H3 → ∀ os : St, os.length = xs.length → g x (σ ++ os) H3 fun σ4 H4 => (∃ os' : St, σ4 = σ ++ os' ∧ os'.length = xs.length) ∧ tt σ4 H4 fun b H5 => if b = true then te σ4 H5 fun y H6 => H6 D = some (.lst ys) ∧ ∃ m', m' < m ∧ W (i + 1) m' (ys ++ [y]) (upd H6 D (.lst (ys ++ [y])))
        else ∃ m', m' < m ∧ W (i + 1) m' ys H5))) :
    wpAny (model X.prog X.w) X.A (newList []) (fun acc s₃ => wpAny (model X.prog X.w) X.A (newFunctionEnv sc X.env.globals cl [] X.env.qual none .none (some X.env)) (fun cenv s₄ =>
      codeAny (model X.prog X.w) X.A (.compStart (.ListComp elt [⟨tg, iter, ifs, 0⟩] sc pos) 0 (.ref it) acc { cenv with scope := relabel sc X.env })
        (fun r s' => r = .ok .next ∧ ∃ D H', acc = .ref D ∧ Inv X pins σ H' s' ∧ Q (.ref D) H' ∧ CLoc X pins H' cenv.locals ∧ ∃ m, s'.heap.Ns cenv.locals m) s₄) E s₃) E s2 := by
  refine wpAny_newObj_type (wpAny_newFunctionEnv cn.cell (by intro y hy; simp at hy) (fun h₁ hns₁ hsb₁ => ?_) cn.kind)
  dsimp only at hns₁ hsb₁ ⊢
  have hD : H2 s2.heap.objs.size = none := I2.hok.fresh (Nat.le_refl _)
  obtain ⟨W, ⟨m0, w0⟩, turn⟩ := h2 s2.heap.objs.size hD
  have I3 : Inv X pins σ (upd H2 s2.heap.objs.size (.lst [])) { s2 with heap := s2.heap.push { cls := .type "list", dict := none, data := .seq ([] : List Value).toArray } } :=
    I2.laid (t' := s2.toks) (fun b u e => Heap.get?_push_of_some _ e) (Nat.le_refl _) ⟨Nat.zero_le _, [], 0, .nil, Heap.get?_push_size _ rfl⟩
  generalize hs3 : ({ s2 with heap := s2.heap.push { cls := .type "list", dict := none, data := .seq ([] : List Value).toArray } } : Shared) = s3 at I3
  have eh : s3.heap = s2.heap.push { cls := .type "list", dict := none, data := .seq ([] : List Value).toArray } := by rw [← hs3]
  have e2 : ({ s2 with heap := h₁, toks := s2.toks + ([] : List (Str × Value)).length } : Shared) = { s3 with heap := h₁, toks := s3.toks } := by rw [← hs3]; rfl
  generalize hH3 : upd H2 s2.heap.objs.size (.lst []) = H3 at I3 w0
  rw [← eh] at hns₁ hsb₁ ⊢
  rw [e2]
  have below2 : ∀ b, b ∈ fp → b < s3.heap.objs.size := fun b hb => by
    obtain ⟨o, e, _⟩ := T.obj _ _ st2 b hb
    have : s2.heap.objs.size ≤ s3.heap.objs.size := by rw [eh, Heap.size_push]; exact Nat.le_succ _
    exact Nat.lt_of_lt_of_le (Heap.lt_size e) this
  have old : ∀ b o, s3.heap.get? b = some o → h₁.get? b = some o := fun b o e => (hsb₁.2 b (Nat.ne_of_lt (Heap.lt_size e))).trans (Heap.get?_push_of_some _ e)
  have old2 : ∀ b o, s2.heap.get? b = some o → s3.heap.get? b = some o := fun b o e => by rw [eh]; exact Heap.get?_push_of_some _ e
  have hsz3 : s2.heap.objs.size < s3.heap.objs.size := by rw [eh, Heap.size_push]; exact Nat.lt_succ_self _
  have fpFree : ∀ b ∈ fp, H3 b = none := fun b hb => by
    rw [← hH3, upd_ne (fun z => ?_)]
    · exact (f2 b hb).1
    · obtain ⟨o, e, _⟩ := T.obj _ _ st2 b hb
      have := Heap.lt_size e
      rw [z] at this
      exact Nat.lt_irrefl _ this
  have rl : ∀ y, (relabel sc X.env).names.lookup y = (sc.names.lookup y).map fun k => if (k == NameKind.free && X.env.scope.kind == .function && X.env.kindOf y == some .cell) then NameKind.cell else k := fun y => lookup_relabel X.env sc.names y
  have freeOf : ∀ y, sc.names.lookup y = some .free → ∃ c, cl.lookup y = some c := fun y e => clH (y, .free) (PySem.mem_of_lookup e) rfl
  have noCell : ∀ y, sc.names.lookup y ≠ some .cell := fun y e => cn.cell (y, .cell) (PySem.mem_of_lookup e) rfl
  have isFree : ∀ y, ((relabel sc X.env).names.lookup y = some .cell ∨ (relabel sc X.env).names.lookup y = some .free) → sc.names.lookup y = some .free := fun y h => by
    rw [rl y] at h
    cases e : sc.names.lookup y with
    | none => rw [e] at h; rcases h with z | z <;> exact absurd z (by simp)
    | some k =>
      rw [e] at h
      cases k with
      | free => rfl
      | cell => exact absurd e (noCell y)
      | «local» => rcases h with z | z <;> exact absurd z (by simp)
      | _ => rcases h with z | z <;> exact absurd z (by simp)
  have exOk : ∀ b ∈ fp, b ≠ s3.heap.objs.size ∧ (∀ y c, X.env.cells.lookup y = some c → c ≠ b) ∧ b ∉ frs X.stack := fun b hb => by
    obtain ⟨g0, g1, g2, g3, g4, g5⟩ := f2 b hb
    refine ⟨Nat.ne_of_lt (below2 b hb), g4, fun z => ?_⟩
    rcases List.mem_cons.mp (I2.stkSub b z) with z | z
    · exact g1 z
    · exact g2 z
  have hCnew : X.s₀.heap.objs.size ≤ s3.heap.objs.size := I3.sz
  have hCcell : ∀ y c, X.env.cells.lookup y = some c → c ≠ s3.heap.objs.size := fun y c e z => by
    obtain ⟨v, q⟩ := I3.cell y c e
    have := q.lt
    rw [z] at this
    exact Nat.lt_irrefl _ this
  have hCpin : ∀ p ∈ X.pn ++ pins, p.1 ≠ s3.heap.objs.size := fun p hp z => by
    have := Heap.lt_size (I3.pin p hp).1
    rw [z] at this
    exact Nat.lt_irrefl _ this
  have okc : (X.inComp Nc sc cl s3 H3 fp).Ok := by
    refine ⟨I3.ok.mod, cn.kind, I3.ok.glob, I3.ok.blt, Nat.le_refl _, fun y z c h1 h2 => I3.ok.inj y z c (clS y c h1) (clS z c h2), fun y hy => freeOf y (isFree y hy), fun y c hf => absurd (show false = true from hf) Bool.false_ne_true, I3.ok.hd, I3.ok.frames, .inl rfl,
      fun b hb => ⟨(exOk b hb).1, fun y c e => (exOk b hb).2.1 y c (clS y c e)⟩, fun b o e => I3.bs b o e, Nat.le_trans I3.ok.bsz I3.sz, fun b o e hb => ?_, fun b hb => (exOk b hb).2.2, I3.stack, I3.stkFree⟩
    obtain ⟨g0, g1, g2, g3, g4, g5⟩ := f2 b hb
    rcases g3 with z | z
    · exact I3.ok.noex b o e z
    · exact absurd (Heap.lt_size (I3.ok.bs b o e).1) (Nat.not_lt.mpr z)
  have hlen : σ.length = N.length := by rw [I3.len, hXN]
  have Ic : Inv (X.inComp Nc sc cl s3 H3 fp) [] (σ ++ List.replicate xs.length none) H3 { s3 with heap := h₁, toks := s3.toks } := by
    refine ⟨okc, rfl, I3.bare, Un.kept old, ⟨_, hns₁, fun i y v h1 h2 h3 => ?_⟩, fun y c e => ?_, I3.hok.fresh (Nat.le_refl _), fun y c e => I3.freeC y c (clS y c e), fun p hp => absurd (show p ∈ ([] : List (Addr × Obj)) from hp) (by simp), I3.hok.kept old, ?_⟩
    · have hi : i < σ.length := by
        by_cases hi : i < σ.length
        · exact hi
        · rw [List.getElem?_append_right (Nat.not_lt.mp hi)] at h2
          rw [List.getElem?_replicate] at h2
          split at h2 <;> cases h2
      rw [List.getElem?_append_left hi] at h2
      have hi' : i < N.length := by rw [← hlen]; exact hi
      obtain ⟨n1, n2, n3⟩ := cn.at hi' h1
      have hf : sc.names.lookup y = some .free := by
        rcases h3 with z | z
        · exfalso
          have z' : (relabel sc X.env).names.lookup y = some .local := z
          rw [rl y] at z'
          cases e : sc.names.lookup y with
          | none => rw [e] at z'; simp at z'
          | some k =>
            rw [e] at z'
            cases k with
            | «local» => exact n1 e
            | cell => exact n2 e
            | free =>
              simp only [Option.map_some, Option.some.injEq] at z'
              split at z' <;> cases z'
            | _ => simp at z'
        · exact isFree y z
      have hN : X.N[i]? = some y := by rw [hXN]; exact n3 hf
      obtain ⟨m, hn, hl⟩ := I3.loc
      have hv : fsc.names.lookup y = some .cell ∨ fsc.names.lookup y = some .free := cn.fr (y, .free) (PySem.mem_of_lookup hf) rfl
      have hv' : X.env.scope.names.lookup y = some .cell ∨ X.env.scope.names.lookup y = some .free := by rw [hE]; exact hv
      obtain ⟨u, ru, lk⟩ := hl i y v hN h2 (.inr hv')
      refine ⟨u, ru, .inr ⟨?_, ?_⟩⟩
      · show (relabel sc X.env).names.lookup y = some .cell ∨ (relabel sc X.env).names.lookup y = some .free
        rw [rl y, hf]
        simp only [Option.map_some, Option.some.injEq]
        split
        · exact .inl rfl
        · exact .inr rfl
      · rcases lk with ⟨kl, _⟩ | ⟨_, c, hc, hcell⟩
        · exfalso
          have kl' : X.env.scope.names.lookup y = some .local := kl
          rw [kl'] at hv'
          rcases hv' with z | z <;> cases z
        · obtain ⟨d, hd⟩ := freeOf y hf
          have ed := clS y d hd
          rw [hc] at ed
          cases ed
          exact ⟨c, hd, hcell.keeps old⟩
    · obtain ⟨v, q⟩ := I3.cell y c (clS y c e)
      exact ⟨v, q.keeps old⟩
    · show (σ ++ List.replicate xs.length none).length = Nc.length
      rw [List.length_append, hlen, cn.len, List.length_replicate]
  have stc : tn 0 ({ s3 with heap := h₁, toks := s3.toks } : Shared).heap := T.keep _ _ _ st2 fun b _ o e => old b o (old2 b o e)
  have hDf : s2.heap.objs.size ∉ fp := fun hm => by
    obtain ⟨o, e, _⟩ := T.obj _ _ st2 _ hm
    exact Nat.lt_irrefl _ (Heap.lt_size e)
  have fpc : ∀ {pins' : List (Addr × Obj)} {H' : Hp}, pins' = [] → (∀ b ∈ fp, H' b = none) → ∀ b ∈ fp, FpOk (X.inComp Nc sc cl s3 H3 fp) pins' H' b := fun {pins' H'} hp hn b hb => by
    subst hp
    exact ⟨hn b hb, (exOk b hb).1, (exOk b hb).2.2, .inl hb, fun y c e => (exOk b hb).2.1 y c (clS y c e), fun p hp => absurd (show p ∈ ([] : List (Addr × Obj)) from hp) (by simp)⟩
  have loop : ∀ s₄ : Shared, s₄ = { s3 with heap := h₁, toks := s3.toks } →
      codeAny (model X.prog X.w) X.A (.compLoop (.ListComp elt [⟨tg, iter, ifs, 0⟩] sc pos) 0 (.ref it) (.ref s2.heap.objs.size) (compEnvC sc cl s3.heap.objs.size X.env))
        (fun r s' => r = .ok .next ∧ ∃ D H', (Value.ref s2.heap.objs.size) = .ref D ∧ Inv X pins σ H' s' ∧ Q (.ref D) H' ∧ CLoc X pins H' s3.heap.objs.size ∧ ∃ m, s'.heap.Ns s3.heap.objs.size m) s₄ := by
    rintro s₄ rfl
    refine loopT (fun n s' => ∃ (i : Nat) (o : St) (H' : Hp) (ys : List V), o.length = xs.length ∧ Inv (X.inComp Nc sc cl s3 H3 fp) [] (σ ++ o) H' s' ∧ tn i s'.heap ∧ (∀ b ∈ fp, H' b = none) ∧ W i n ys H') ?_ m0 ⟨0, _, H3, [], List.length_replicate .., Ic, stc, fpFree, w0⟩
    rintro n s' ⟨i, o, H', ys, lo, I', st', fr', w'⟩
    obtain ⟨hDl, tw⟩ := turn i n ys H' w'
    rcases tw with ⟨stop, q⟩ | ⟨go, hz, step⟩
    ·
      refine thn (T.done (X.inComp Nc sc cl s3 H3 fp) rfl rfl rfl hc i [] s' _ H' _ I' (fpc rfl fr') st' stop) fun r s5 ⟨hr, I5⟩ => ?_
      subst hr
      have Ix : Inv X pins σ H' s5 := I3.call' (ch := fp) I5.os I5.base I5.hok I5.bare fun b hb => by
        obtain ⟨g0, g1, g2, g3, g4, g5⟩ := f2 b hb
        exact ⟨g3, g1, g4, g5⟩
      have hCf : H' s3.heap.objs.size = none := I5.free
      obtain ⟨m, hn, _⟩ := I5.loc
      exact ⟨rfl, s2.heap.objs.size, H', rfl, Ix, q, ⟨hCf, fun z => Nat.lt_irrefl _ (by have := I3.lt; rw [← z] at this; exact this), hCnew, hCcell, hCpin⟩, m, hn⟩
    ·
      refine thn (T.item (X.inComp Nc sc cl s3 H3 fp) rfl rfl rfl hc i [] s' _ H' _ I' (fpc rfl fr') st' go) fun r s5 ⟨u, hr, h4⟩ => ?_
      subst hr
      dsimp only
      refine thnF h4 fun _ s6 ⟨xv, H5, I5, r5, y5, st5, fr5⟩ => ?_
      have I5' := I5.pinned (fpc rfl fr5) (T.obj _ _ st5)
      have again : ∀ {o' : St} {H7 : Hp} {s7 : Shared} {m' : Nat} {ys' : List V}, o'.length = xs.length → Inv (X.inComp Nc sc cl s3 H3 fp) ([] ++ pinsAt fp s6.heap) (σ ++ o') H7 s7 → m' < n → W (i + 1) m' ys' H7 →
          ∃ m, m < n ∧ ∃ (i : Nat) (o : St) (H' : Hp) (ys : List V), o.length = xs.length ∧ Inv (X.inComp Nc sc cl s3 H3 fp) [] (σ ++ o) H' s7 ∧ tn i s7.heap ∧ (∀ b ∈ fp, H' b = none) ∧ W i m ys H' := fun {o' H7 s7 m' ys'} lo' I7 hm w7 => by
        refine ⟨m', hm, i + 1, o', H7, ys', lo', I7.unpinned, T.keep _ _ _ st5 fun b hb o e => (I7.pin (b, o) (List.mem_append_right _ (List.mem_append_right _ (mem_pinsAt hb e)))).1, fun b hb => ?_, w7⟩
        obtain ⟨o', e, d⟩ := T.obj _ _ st5 b hb
        exact (I7.pin (b, o') (List.mem_append_right _ (List.mem_append_right _ (mem_pinsAt hb e)))).2.1
      refine thnF (hg cl s3 H3 fp _ s6 _ H5 xv u _ I5' r5 (step xv _ y5 o lo)) fun _ s7 ⟨σ7, H7, I7, ⟨o7, e7, lo7⟩, q7⟩ => ?_
      subst e7
      refine thnF (ht cl s3 H3 fp _ s7 _ _ _ I7 q7) fun b s8 ⟨H8, I8, q8⟩ => ?_
      cases b with
      | false =>
        rw [if_neg Bool.false_ne_true] at q8 ⊢
        obtain ⟨m', hm, w8⟩ := q8
        exact again lo7 I8 hm w8
      | true =>
        rw [if_pos rfl] at q8 ⊢
        refine thnF (he cl s3 H3 fp _ s8 _ H8 _ I8 q8) fun y s9 ⟨yv, H9, I9, r9, hD9, m', hm, w9⟩ => ?_
        refine thnF (mt_append _ s9 _ H9 (.ref s2.heap.objs.size) [yv] (.ref s2.heap.objs.size) [y] (fun v H => v = .non ∧ H = upd H9 s2.heap.objs.size (.lst (ys ++ [yv]))) I9 rfl (.cons r9 .nil) ⟨_, ys, yv, rfl, rfl, hD9, hz, rfl, rfl⟩) fun _ s10 ⟨v10, H10, I10, r10, e10, e11⟩ => ?_
        subst e11
        exact again lo7 I10 hm w9
  exact codeAny_compStart_list (loop _ rfl) (T.self _ 0 _ _ _ stc (loop _ rfl))
theorem comp_hasT (I : ∀ y, (X.env.kindOf y = some .cell ∨ X.env.kindOf y = some .free) → ∃ c, X.env.cells.lookup y = some c) (hE : X.env.scope = fsc) (cn : CompNs N Nc xs sc fsc) : ∀ y ∈ sc.names, y.2 = .free → ∃ c, X.env.cells.lookup y.1 = some c := fun y hy hf => by
  refine I y.1 ?_
  show X.env.scope.names.lookup y.1 = some .cell ∨ X.env.scope.names.lookup y.1 = some .free
  rw [hE]
  exact cn.fr y hy hf
theorem pe_compT (hE : X.env.scope = fsc) (hXN : X.N = N) (cn : CompNs N Nc xs sc fsc) (hc : X.calm = true) (hi : PI X tg iter wi)
    (hg : ∀ cl s H ex, PG (X.inComp Nc sc cl s H ex) tg g) (ht : ∀ cl s H ex, PIfs (X.inComp Nc sc cl s H ex) ifs tt) (he : ∀ cl s H ex, PE (X.inComp Nc sc cl s H ex) elt te)
    (hs : ∀ v, foldedSetIterable iter X.env v = pure v := by intro _; rfl) : PE X (.ListComp elt [⟨tg, iter, ifs, 0⟩] sc pos) (tCompT xs.length wi g tt te) := by
  intro pins s σ H Q I h
  obtain ⟨cl, hcl, clS, clH⟩ := closure_ok (env := X.env) (sc := sc) (comp_hasT I.ok.has hE cn)
  rw [eval_ListComp]
  refine wpAny_comprehension_free (use := none) rfl hs hcl cn.kind cn.nm (thn (hi pins s σ H _ I h) fun v s1 h1 => thn h1 fun itv s2 h2 => ?_)
  obtain ⟨it, fp, tn, J, H2, rfl, I2, T, st2, f2, h2⟩ := h2
  refine thn (comp_coreT (pos := pos) (iter := iter) hE hXN cn hc hg ht he clS clH I2 T st2 f2 h2) fun acc s3 h3 => thn h3 fun cenv s4 h4 => codeAny_mono h4 fun r s' h5 => ?_
  obtain ⟨rfl, D, H', rfl, I', q, cloc, m, hn⟩ := h5
  exact ⟨m, hn, fun h' k => ⟨.ref D, H', I'.sameBut cloc k, rfl, q⟩⟩
end
theorem comp_pairs {K : PySem.W.Frag} {a : Addr} {zs : List V} {tt : TT} {te : TE} {σ : St} {H1 : Hp} {Q : Addr → Hp → Prop} {n m : Nat} (hn : n = σ.length) (hm : m = σ.length + 1) (hz : zs.length ≤ sizeLine) (Pv : Addr → Nat → List V → Hp → Prop)
    (h0 : ∀ D, H1 D = none → Pv D 0 [] (upd H1 D (.lst []))) (hD : ∀ D i ys H, Pv D i ys H → H D = some (.lst ys) ∧ ys.length ≤ i) (hl : ∀ D i ys H, H1 D = none → Pv D i ys H → SqL K H a zs)
    (hs : ∀ D i x ys H (K1 : VK) (K2 : Hp → Prop), H1 D = none → zs[i]? = some x → Pv D i ys H → (∀ y H5, H5 D = some (.lst ys) → Pv D (i + 1) (ys ++ [y]) (upd H5 D (.lst (ys ++ [y]))) → K1 y H5) → (∀ H4, Pv D (i + 1) ys H4 → K2 H4) →
      ∃ t v w, x = .ref t ∧ SqT K H t [v, w] ∧ tt (σ ++ [some v, some w]) H fun b H4 => if b = true then te (σ ++ [some v, some w]) H4 K1 else K2 H4)
    (hd : ∀ D ys H, H1 D = none → Pv D zs.length ys H → Q D H) :
    ∀ D, H1 D = none → ∃ W : Nat → Nat → List V → Hp → Prop, (∃ m, W 0 m [] (upd H1 D (.lst []))) ∧ ∀ i k ys H2, W i k ys H2 →
      H2 D = some (.lst ys) ∧ (((Itl K a).stop i H2 ∧ Q D H2) ∨ ((Itl K a).go i H2 ∧ ys.length < sizeLine ∧ ∀ x H3, (Itl K a).yld i H2 x H3 → ∀ os : St, os.length = 2 → gTup K 2 (gCons (gName n) (gCons (gName m) gNil)) x (σ ++ os) H3 fun σ4 H4 => (∃ os' : St, σ4 = σ ++ os' ∧ os'.length = 2) ∧ tt σ4 H4 fun b H5 => if b = true then te σ4 H5 fun y H6 => H6 D = some (.lst ys) ∧ ∃ m', m' < k ∧ W (i + 1) m' (ys ++ [y]) (upd H6 D (.lst (ys ++ [y])))
        else ∃ m', m' < k ∧ W (i + 1) m' ys H5)) := by
  intro D hDn
  subst hn hm
  refine ⟨fun i m ys H => m = zs.length - i ∧ i ≤ zs.length ∧ Pv D i ys H, ⟨zs.length, rfl, Nat.zero_le _, h0 D hDn⟩, ?_⟩
  rintro i m ys H2 ⟨rfl, hi, p⟩
  obtain ⟨e, l⟩ := hD D i ys H2 p
  have q := hl D i ys H2 hDn p
  refine ⟨e, ?_⟩
  by_cases hlt : i < zs.length
  · refine .inr ⟨⟨zs, zs[i], q, by simp [hlt]⟩, Nat.lt_of_le_of_lt l (Nat.lt_of_lt_of_le hlt hz), fun x H3 y os ho => ?_⟩
    obtain ⟨e1, y⟩ := y
    subst e1
    obtain ⟨t, v, w, rfl, ht, q5⟩ := hs D i x ys _ (fun y H6 => H6 D = some (.lst ys) ∧ ∃ m', m' < zs.length - i ∧ m' = zs.length - (i + 1) ∧ i + 1 ≤ zs.length ∧ Pv D (i + 1) (ys ++ [y]) (upd H6 D (.lst (ys ++ [y])))) (fun H5 => ∃ m', m' < zs.length - i ∧ m' = zs.length - (i + 1) ∧ i + 1 ≤ zs.length ∧ Pv D (i + 1) ys H5) hDn (y zs q) p (fun y H5 h5 p5 => ⟨h5, zs.length - (i + 1), by omega, rfl, hlt, p5⟩) fun H4 p4 => ⟨zs.length - (i + 1), by omega, rfl, hlt, p4⟩
    match os, ho with
    | [o1, o2], _ =>
      have e2 : ((σ ++ [o1, o2]).set σ.length (some v)).set (σ.length + 1) (some w) = σ ++ [some v, some w] := by
        rw [List.set_append_right _ _ (Nat.le_refl _), Nat.sub_self, List.set_append_right _ _ (Nat.le_succ _)]
        rw [show (List.length σ + 1) - List.length σ = 1 by omega]
        rfl
      refine ⟨t, [v, w], rfl, ht, rfl, v, [w], rfl, w, [], rfl, rfl, ?_⟩
      refine ⟨⟨[some v, some w], e2, rfl⟩, ?_⟩
      rw [e2]
      exact q5
  · have ei : i = zs.length := by omega
    subst ei
    exact .inl ⟨⟨zs, q, Nat.le_refl _⟩, hd D ys H2 hDn p⟩
section
variable {X : Cx} {elt iter : Expr} {x1 x2 x3 : Str} {p1 p2 p3 pt pos : Pos} {k : Nat} {ifs : List Expr} {sc fsc : Scope} {N Nc : List Str} {wi : TI} {tt : TT} {te : TE}
theorem pe_comp2 (hE : X.env.scope = fsc) (hXN : X.N = N) (cn : CompNs N Nc [x1, x2] sc fsc) (hc : X.calm = true) (hi : PI X (.Tuple [.Name x1 p1, .Name x2 p2] k pt) iter wi)
    (ht : ∀ cl s H ex, PIfs (X.inComp Nc sc cl s H ex) ifs tt) (he : ∀ cl s H ex, PE (X.inComp Nc sc cl s H ex) elt te) (hs : ∀ v, foldedSetIterable iter X.env v = pure v := by intro _; rfl) :
    PE X (.ListComp elt [⟨.Tuple [.Name x1 p1, .Name x2 p2] k pt, iter, ifs, 0⟩] sc pos) (tCompT 2 wi (gTup X.K 2 (gCons (gName N.length) (gCons (gName (N.length + 1)) gNil))) tt te) :=
  pe_compT hE hXN cn hc hi (fun cl s H ex => pg_tup (X := X.inComp Nc sc cl s H ex) hc (pgs_cons (pgc_name (j := 0) cn rfl rfl) (pgs_cons (pgc_name (j := 1) cn rfl rfl) pgs_nil))) ht he hs
end
end L2
namespace L2
open PySem PySem.Spec PyProof.Rows
section
variable {X : Cx}
end
section
variable {X : Cx}
theorem pe_bmK {o e : Expr} {es : List Expr} {to : TE} {t : TA} {name : Str} {apos cpos : Pos} {T id : String} {r : V → List V → Hp → VK → Prop} (K : PySem.W.Frag) (pa : PlainAttrs T) (slot : Slot T name id) (hty : typeOf (.builtin id) = pure (.type "method_descriptor")) (hm : MtR X id r) (ho : PE X o to) (ha : PA X (e :: es) t)
    (hK : X.K = K := by rfl) (hbase : attributeBase o name X.env (eval o X.env) = eval o X.env := by rfl)
    (hfew : ((backTo cpos (starEach (e :: es) X.env)).all (fun x => !x.1) && (backToKw cpos (keywordEach [] X.env)).all (fun x => x.1.isSome)
      && decide ((e :: es).length + ([] : List Keyword).length + (if ([] : List Keyword).isEmpty then 0 else 1) < 30)) = true := by rfl)
    (hline : (apos.endLine == cpos.line) = true := by rfl) (hs : starEach (e :: es) X.env = (false, eval e X.env) :: starEach es X.env := by rfl) (hplain : (backTo cpos (starEach es X.env)).any (·.1) = false := by rfl) :
    PE X (.Call (.Attribute o name apos) (e :: es) [] cpos) (tBM K T r to t) := by
  subst hK
  exact pe_bm pa slot hty hm ho ha hbase hfew hline hs hplain
end
theorem eqv_ints : ∀ ns ms : List Int, PyData.eqvAll (ns.map .int) (ms.map .int) = decide (ns = ms)
  | [], [] => rfl
  | [], _ :: _ => rfl
  | _ :: _, [] => rfl
  | n :: ns, m :: ms => by
    show ((n == m) && PyData.eqvAll (ns.map .int) (ms.map .int)) = _
    rw [eqv_ints ns ms]
    by_cases h : n = m
    · by_cases k : ns = ms
      · subst h; subst k; simp
      · simp [h, k]
    · simp [h]
theorem lay_ints : ∀ ns : List Int, PyData.canLayAll0 (ns.map .int) = true ∧ PyData.depthAll (ns.map .int) ≤ 0
  | [] => ⟨rfl, Nat.le_refl _⟩
  | n :: ns => by
    obtain ⟨h1, h2⟩ := lay_ints ns
    refine ⟨?_, ?_⟩
    · show (true && PyData.canLayAll0 (ns.map .int)) = true
      rw [h1]; rfl
    · show max 0 (PyData.depthAll (ns.map .int)) ≤ 0
      omega
theorem shape_ints (ns : List Int) : SeqAt.shaped (.tuple (ns.map .int)) = true ∧ SeqAt.shaped (.list (ns.map .int)) = true := by
  obtain ⟨h1, h2⟩ := lay_ints ns
  constructor
  · unfold SeqAt.shaped
    rw [Bool.and_eq_true]
    refine ⟨h1, decide_eq_true ?_⟩
    show PyData.depthAll (ns.map .int) + 1 ≤ 64
    omega
  · unfold SeqAt.shaped
    rw [Bool.and_eq_true]
    refine ⟨h1, decide_eq_true ?_⟩
    show PyData.depthAll (ns.map .int) + 1 ≤ 64
    omega
section
variable {X : Cx}
end
end L2
namespace L2
open PySem PySem.Spec PyProof.Rows
namespace CutT
open HT
section
variable {prog : Program} {w : World} {A : Around} {E : Value → Shared → Prop} {s : Shared}
theorem exact_tup {t : Addr} {items : Array Value} {Q : Bool → Shared → Prop} (ht : IsTup s.heap t items) (h : Q true s) : wpAny (model prog w) A (Builtin.Tuple.tupleIsExact (.ref t)) Q E s := by
  unfold Builtin.Tuple.tupleIsExact
  exact wpAny_bind (wpAny_typeOf ht.typeIs (wpAny_pure h))
theorem whole {t sl : Addr} {items : Array Value} {vl vu : Value} {lo hi : Option Int} {Q : Value → Shared → Prop} (ht : IsTup s.heap t items) (hs : s.heap.IsSliceOf sl vl vu .none) (pl : IsPart vl lo) (pu : IsPart vu hi)
    (hw : sIx items.size 0 lo = 0 ∧ sIx items.size items.size hi = items.size) (h : Q (.ref t) s) : wpAny (model prog w) A (getItem (.ref t) (.ref sl)) Q E s := by
  obtain ⟨os, hos, hcs, hds⟩ := id hs
  have hTs : s.TypeIs (.ref sl) "slice" := ⟨os, hos, hcs⟩
  unfold getItem
  try with_reducible refine wpAny_holding ?_
  first | refine wpAny_bind (wpAny_pure ?_) | skip
  refine wpAny_bind (wpAny_sequenceKey ht.typeIs (by decide) ?_)
  refine wpAny_bind (wpAny_callSpecial?_slot (name := Str.ofString "__getitem__") ht.typeIs PyProof.Rows.slot_tuple_getitem
    (wpAny_call_entry PyProof.Rows.slot_tuple_getitem ht.typeIs entry_tuple_getitem ?_ (args_tuple_getitem _ _)))
  show wpAny _ _ (Builtin.Tuple.tupleItemsOf (.ref t) >>= _) _ _ s
  refine wpAny_bind (tupleItemsOf_ ht ?_)
  refine wpAny_bind (wpAny_typeOf hTs ?_)
  rw [if_pos (by decide)]
  refine wpAny_bind (sliceApplied_gen hs pl pu ?_)
  have hyes : (((sIx items.size 0 lo : Nat) : Int) == 0 && (1 : Int) == 1 && (sIx items.size items.size hi - sIx items.size 0 lo) == items.size) = true := by
    rw [hw.1, hw.2]
    simp
  show wpAny _ _ (if (((sIx items.size 0 lo : Nat) : Int) == 0 && (1 : Int) == 1 && (sIx items.size items.size hi - sIx items.size 0 lo) == items.size) = true then _ else _) _ _ s
  rw [if_pos hyes]
  refine wpAny_bind (exact_tup ht ?_)
  rw [if_pos rfl]
  first
    | exact wpAny_bind (wpAny_rule (wpAny_bind (m := ret (.ref t)) (wpAny_pure (wpAny_pure ⟨_, rfl, wpAny_pure h⟩))))
    | exact wpAny_bind (wpAny_rule (wpAny_pure ⟨_, rfl, wpAny_pure h⟩))
    | exact wpAny_bind (wpAny_bind (wpAny_rule (wpAny_pure (wpAny_pure ⟨_, rfl, wpAny_pure h⟩))))
    | exact wpAny_bind (wpAny_rule (wpAny_bind (wpAny_pure (wpAny_pure ⟨_, rfl, wpAny_pure h⟩))))
end
end CutT
def rSlTP (K : PySem.W.Frag) : V → Option Int → Option Int → Hp → VK → Prop := fun x lo hi H Q => ∃ a xs, x = .ref a ∧ H a = some (.tup xs) ∧ ∀ p H', Same H H' → H' p = some (.tup (cutV xs lo hi)) → Q (.ref p) H'
theorem sl_tupP {X : Cx} {K : PySem.W.Frag} (hK : X.K = K := by rfl) : SlR X (rSlTP K) := by
  subst hK
  intro pins s σ H x v vl vu lo hi sl Q I rx hs pl pu h
  obtain ⟨a, xs, rfl, hx, q⟩ := h
  by_cases hw : HT.sIx xs.length 0 lo = 0 ∧ HT.sIx xs.length xs.length hi = xs.length
  · cases rx
    obtain ⟨its, r, ht, hz⟩ := I.tuple (SqT.of hx)
    have hlen : its.toArray.size = xs.length := by rw [List.size_toArray]; exact r.length.symm
    refine ⟨"tuple", _, PyProof.Rows.slot_tuple_getitem.lookup, ht.typeIs, CutT.whole ht hs pl pu (by rw [hlen]; exact hw) ?_⟩
    refine ⟨.ref a, H, I, rfl, q a H (fun _ _ e => e) ?_⟩
    have e : cutV xs lo hi = xs := by
      unfold cutV
      rw [hw.1, hw.2, List.drop_zero, Nat.sub_zero, List.take_of_length_le (Nat.le_refl _)]
    rw [e]
    exact hx
  · exact sl_tup pins s σ H _ v vl vu lo hi sl Q I rx hs pl pu ⟨a, xs, rfl, SqT.of hx, hw, fun p hp => q p _ (fun b u e => by rw [upd_ne (ne_of_none e hp)]; exact e) upd_same⟩
end L2
namespace L2
open PySem PySem.Spec PyProof.Rows
section
variable {prog : Program} {w : World} {A : Around} {E : Value → Shared → Prop} {s : Shared}
end
section
variable {M : Model} {A : Around} {E : Value → Shared → Prop} {s : Shared} {env : Env}
end
section
variable {X : Cx}
end
end L2
namespace L2
open PySem PySem.Spec PyProof.Rows
section
variable {X : Cx}
end
theorem vals_get : ∀ {xs : List V} {us : List Value}, xs.length = us.length → (∀ (i : Nat) x u, xs[i]? = some x → us[i]? = some u → RelV x u) → Vals xs us
  | [], [], _, _ => .nil
  | [], _ :: _, h, _ => by cases h
  | _ :: _, [], h, _ => by cases h
  | x :: xs, u :: us, h, k => .cons (k 0 x u rfl rfl) (vals_get (Nat.succ.inj h) fun i y v h1 h2 => k (i + 1) y v h1 h2)
section
variable {X : Cx} {e : Expr} {te : TE} {p p2 pos pos2 : Pos}
def tLRange (te : TE) : TE := fun σ H Q => te σ H fun x H1 => ∃ n : Nat, x = .int (n : Int) ∧ n < 1000 ∧ ∀ l, H1 l = none → Q (.ref l) (upd H1 l (.lst ((List.range n).map fun i : Nat => V.int (i : Int))))
theorem pe_listrange (hc : X.calm = true) (hg : Gl X "list") (hm : X.mg "list" = none) (hg2 : Gl X "range") (hm2 : X.mg "range" = none) (he : PE X e te)
    (hs : starEach [e] X.env = [(false, eval e X.env)] := by rfl)
    (hs2 : starEach [(.Call (.Name "range" p2) [e] [] pos2 : Expr)] X.env = [(false, eval (.Call (.Name "range" p2) [e] [] pos2) X.env)] := by rfl) :
    PE X (.Call (.Name "list" p) [.Call (.Name "range" p2) [e] [] pos2] [] pos) (tLRange te) := by
  intro pins s σ H Q I h
  refine wpAny_Call_Name_kw (ld_blt I hg hm boot_list ?_ (by decide) (by decide))
  refine callWith_type1 ?_ hs2 rfl
  rw [hs2]
  refine Calls.spliced_cons ?_
  refine wpAny_Call_Name_kw (ld_blt I hg2 hm2 boot_range ?_ (by decide) (by decide))
  refine callWith_type1 ?_ hs rfl
  rw [hs]
  refine Calls.spliced_cons (thn (he pins s σ H _ I h) fun u s1 ⟨x, H1, I1, r1, n, hx, hn, q⟩ => ?_)
  subst hx
  obtain ⟨t, rfl⟩ := r1
  refine Calls.spliced_nil ?_
  refine call_range_1 ?_
  refine Calls.spliced_nil ?_
  refine call_list_range (n := n) (I1.ok.hd hc) (IsRange.new ..) (small_one (by omega) (by omega) (by omega) (by omega)) (by rw [rangeSize_one]; split <;> omega) (by omega) fun h' tk acc c' kp eS it => ?_
  have kp' : ∀ b o, s1.heap.get? b = some o → h'.get? b = some o := fun b o e => kp b o (Heap.get?_push_of_some _ e)
  have hp : s1.heap.objs.size ≤ (s1.heap.push { cls := .type "range", data := .fields #[.int 0 s1.toks, .int (n : Int) t, .int 1 (s1.toks + 1)] }).objs.size := by simp [Heap.push]
  have rv : Vals ((List.range n).map fun i : Nat => V.int (i : Int)) acc.toList := by
    refine vals_get (by simp [it.1]) fun i x u hx hu => ?_
    rw [List.getElem?_map] at hx
    obtain ⟨t', e⟩ := it.2 i u (by simpa using hu)
    have hi : i < n := by
      have := (List.getElem?_eq_some_iff.mp hu).1
      rw [Array.length_toList, it.1] at this
      exact this
    rw [List.getElem?_range hi] at hx
    have hx' : x = V.int (i : Int) := (Option.some.inj hx).symm
    subst hx'
    exact ⟨t', by rw [e]; simp⟩
  have hz : ((List.range n).map fun i : Nat => V.int (i : Int)).length ≤ sizeLine := by rw [List.length_map, List.length_range]; exact Nat.le_of_lt (small1000 (by omega))
  exact ⟨.ref _, _, I1.laid (t' := tk) kp' hp (show ObjOk X.prog X.w _ h' _ (.lst ((List.range n).map fun i : Nat => V.int (i : Int))) from ⟨hz, acc.toList, c', rv, by simpa using eS⟩), rfl, q _ (I1.hok.fresh hp)⟩
end
section
variable {prog : Program} {w : World} {A : Around} {E : Value → Shared → Prop} {s : Shared}
end
section
variable {X : Cx}
end
end L2
namespace L2
open PySem PySem.Spec PyProof.Rows
section
variable {P : Program} {w : World} {K : PySem.W.Frag} {mg : Str → Option Value} {base : Heap}
end
section
variable {X : Cx} {k : Nat} {f : Addr} {fd : FuncData} {ps : List Str} {sp : Sp} {x : Str} {p pos : Pos} {e : Expr} {es : List Expr} {t : TA}
end
section
variable {X : Cx}
end
end L2
namespace L2
open PySem PySem.Spec PyProof.Rows
section
variable {prog : Program} {w : World} {A : Around} {E : Value → Shared → Prop} {s : Shared}
end
section
variable {X : Cx}
end
end L2
namespace L2
open PySem PySem.Spec PyProof.Rows
structure FunD (K : PySem.W.Frag) (x qual : Str) (st : Stmt) (f : Addr) (fd : FuncData) : Prop where
  ex : ∃ (oc : Value) (od : Option Addr) (dV kV doc pm : Value) (an : Option Addr) (cdv ct : Value) (osl : Array (Option Value)),
    fd = PySem.W.fnOf x qual (defArgs st) (defBody st) (defScope st) dV kV doc pm an cdv ct ∧ K.lookup f = some ⟨oc, od, .func fd, osl⟩ ∧ PySem.W.codeIn K cdv qual = true
  kp : PySem.W.keepIn K (.ref f) = true
section
variable {P : Program} {w : World} {K : PySem.W.Frag} {mg : Str → Option Value} {base : Heap}
theorem FunD.ok {x qual : Str} {st : Stmt} {f : Addr} {fd : FuncData} {N ps : List Str} {k : Nat} {sp : Sp} (F : FunD K x qual st f fd) (S : FnScope N ps (defScope st)) (len : ∀ vs H Q E, sp vs H Q E → vs.length = ps.length)
    (hbody : ∀ (cdv : Value) (A : Around) (outer : List Env) (s : Shared) (H : Hp) (vs : List V) (Q : VK) (E : XK), Room k (A.deeper (envOfC qual (defScope st) s.heap.objs.size f cdv)) → sp vs H Q E →
      ∃ t, PSs (cxOf CX0 P w K mg base N qual (defScope st) f cdv A outer s H E).nox (defBody st) t ∧ t { nx := fun _ H' => Q .non H', rt := Q } (start N vs) H) : FnOk P w K mg base CX0 (k + 1) f fd ps sp := by
  obtain ⟨oc, od, dV, kV, doc, pm, an, cdv, ct, osl, rfl, lk, hcd⟩ := F.ex
  refine fn_of lk hcd S len fun A outer s H vs Q E hr hsp => ?_
  obtain ⟨t, h, q⟩ := hbody cdv A outer s H vs Q E hr hsp
  exact ⟨t, h.nox, q⟩
theorem fund_mk {x qual : Str} {st : Stmt} {f : Addr} {oc : Value} {od an : Option Addr} {osl : Array (Option Value)} {dV kV doc pm cdv ct : Value} (l : K.lookup f = some ⟨oc, od, .func (PySem.W.fnOf x qual (defArgs st) (defBody st) (defScope st) dV kV doc pm an cdv ct), osl⟩)
    (c : PySem.W.codeIn K cdv qual = true) (k : PySem.W.keepIn K (.ref f) = true) : FunD K x qual st f (PySem.W.fnOf x qual (defArgs st) (defBody st) (defScope st) dV kV doc pm an cdv ct) := ⟨⟨oc, od, dV, kV, doc, pm, an, cdv, ct, osl, rfl, l, c⟩, k⟩
end
structure CFn (K : PySem.W.Frag) (C : Addr) (m : Str) (f : Addr) : Prop where
  sg : PySem.W.specialIn K (.ref C) "__getattribute__" = some (some (.builtin "type.__getattribute__"))
  rd : PySem.W.readsIn K C (.type "type") = true
  at_ : PySem.W.findCls K (.ref C) (.type "type") m = some (.val (.ref f))
section
variable {X : Cx} {CX : CXT} {W : St → XK} {k : Nat} {f C : Addr} {fd : FuncData} {ps : List Str} {sp : Sp} {dvs : List V} {ds : List Value} {E : XK} {x m : Str} {p pos apos : Pos} {e o : Expr} {es : List Expr} {ta : TE} {t : TA}
theorem pe_cfn {pl : Sem Bool} (F : FnOk X.prog X.w X.K X.mg X.base CX k f fd ps sp) (hr : Room k X.A) (hg : Gl X x) (hm : X.mg x = some (.ref C)) (c : CFn X.K C m f) (hk : PySem.W.keepIn X.K (.ref f) = true) (hb : Binds X.K fd ps ds) (hd : Vals dvs ds) (hx : Passes CX X E) (ha : PA X (e :: es) t)
    (hdb : (x == ("__debug__" : Str)) = false := by decide) (hst : starEach (e :: es) X.env = (false, eval e X.env) :: starEach es X.env := by rfl) (hpl : (backTo pos (starEach es X.env)).any (·.1) = false := by rfl)
    (ht : eval (.Call (.Attribute (.Name x p) m apos) (e :: es) [] pos) X.env = (do
      let ov ← eval (.Name x p) X.env
      standAt apos.atName
      let (f, first) ← holding [ov] (getMethod ov m pl)
      callWith pos f first (backTo pos (starEach (e :: es) X.env)) (backToKw pos (keywordEach [] X.env))) := by rfl) :
    PE X (.Call (.Attribute (.Name x p) m apos) (e :: es) [] pos) (tCall sp dvs E t) := by
  intro pins s σ H Q I h
  refine PySem.W.methodCall_KW (pl := pl) (ld_glob I hg hm ?_ hdb) ht
  refine PySem.W.method_cls I.kIn c.sg (PySem.W.cls_value I.kIn c.rd c.at_ rfl ?_)
  refine PySem.W.callWith_K (first := []) (h₀ := X.base) I.ok.mod.kin hk (thn (ha pos pins _ σ H _ (I.tok _) h) fun us s1 ⟨vs, H1, I1, r, q⟩ => ⟨I1.kIn, ?_⟩) hst hpl
  exact run_fn F hr hb hd hx I1 r q
theorem mt_count {K : PySem.W.Frag} (hK : X.K = K := by rfl) : MtR X "list.count" (fun x vs H Q => ∃ (a : Addr) (ns : List Int) (k : Int), x = .ref a ∧ vs = [.int k] ∧ SqL K H a (ns.map V.int) ∧ Q (.int (ns.count k : Nat)) H) := by
  subst hK
  intro pins s σ H x vs v us Q I rx rv h
  obtain ⟨a, ns, k, rfl, rfl, hq, q⟩ := h
  cases rx
  obtain ⟨u, rfl, t, rfl⟩ := vals1 rv
  obtain ⟨its, rv, pl, hz⟩ := I.list hq
  exact count_list_ints pl.isList (intsAre_of rv) ⟨.int _, H, I.tok _, ⟨_, rfl⟩, q⟩
end
end L2
namespace L2
open PySem PySem.Spec PyProof.Rows
section
variable {X : Cx} {elt iter : Expr} {x : Str} {px pos : Pos} {ifs : List Expr} {sc fsc : Scope} {N Nc : List Str} {wi : TI} {tt : TT} {te : TE}
end
section
variable {X : Cx} {elt iter : Expr} {x y : Str} {py pos : Pos} {ifs : List Expr} {sc sc2 fsc : Scope} {Nc Nd : List Str} {wi : TI} {tt : TT} {te : TE} {cl : List (Str × Addr)} {s : Shared} {H : Hp} {ex : List Addr}
end
end L2
namespace L2
open PySem PySem.W PySem.Spec PyProof.Rows
section
variable {X : Cx} {pins : List (Addr × Obj)} {σ : St} {H : Hp} {s : Shared} {c P : Addr} {pos : Pos} {params : Arguments} {body : Expr} {sc : Scope} {cl : List (Str × Addr)} {q : Str} {M : Model} {A : Around} {E : Value → Shared → Prop} {Q : Value → Shared → Prop}
end
section
variable {X : Cx} {pins : List (Addr × Obj)} {σ : St} {H : Hp} {s : Shared} {params : Arguments} {body : Expr} {sc fsc : Scope} {cl : List (Str × Addr)} {q x : Str} {A : Around} {N Nc : List Str} {f c' : Addr} {te : TE} {E : Value → Shared → Prop}
end
section
variable {X : Cx} {pins : List (Addr × Obj)} {σ : St} {H : Hp}
variable {xs : List V} {l f I S : Addr}
end
section
variable {M : Model} {A : Around} {E : Value → Shared → Prop} {s : Shared} {env : Env}
end
section
variable {X : Cx} {c P : Addr} {e body : Expr} {tl tb : TE} {sc fsc : Scope} {N Nc : List Str} {x : Str} {params : Arguments} {lpos kp p pos : Pos}
end
end L2
namespace L2
open PySem PySem.W PySem.Spec PyProof.Rows
section
variable {X : Cx}
def rInsert : V → List V → Hp → VK → Prop := fun x vs H Q => ∃ (l : Addr) (xs : List V) (k : Nat) (y : V), x = .ref l ∧ vs = [.int (k : Int), y] ∧ H l = some (.lst xs) ∧ k ≤ xs.length ∧ xs.length < sizeLine ∧ Q .non (upd H l (.lst (xs.take k ++ y :: xs.drop k)))
theorem mt_insert : MtM X "list.insert" rInsert := by
  intro pins s σ H x vs v us Q I rx rv h
  obtain ⟨l, xs, k, y, rfl, rfl, hH, hk, hz1, q⟩ := h
  cases rx
  obtain ⟨u1, u2, rfl, ru1, ru2⟩ : ∃ u1 u2, us = [u1, u2] ∧ RelV (.int (k : Int)) u1 ∧ RelV y u2 := by
    cases rv with
    | cons r1 t => cases t with
      | cons r2 t2 => cases t2; exact ⟨_, _, rfl, r1, r2⟩
  obtain ⟨t, rfl⟩ := ru1
  obtain ⟨z, its, n, r, hl, e⟩ := I.lstM hH
  have hs : sizeLine = 16777216 := sizeLine_eq
  obtain ⟨i, hi⟩ : ∃ i : Int, i = (k : Int) := ⟨_, rfl⟩
  rw [← hi]
  have fi : Builtin.List.listFitsIndex i = true := fitsIndex_both (by omega) (by omega)
  have zi : its.toArray.size ≤ sizeLine := by rw [List.size_toArray]; omega
  refine call_meets PySem.F.slot_list_insert ⟨_, e, rfl⟩ PySem.F.entry_list_insert (PySem.F.args_list_insert_3 _ _ _) (PySem.AutoSeq1.list_insert_list_int_val_1 l its.toArray n i t u2 (by simp [fi]) zi) ⟨e, ?_⟩
  refine ⟨.non, _, I.lset (its' := its.take k ++ u2 :: its.drop k) hH e ?_ ((r.take k).append (.cons ru2 (r.drop k))) ?_, rfl, q⟩
  · have kk : (if i < 0 then (i + (its.toArray.size : Int)).toNat else min i.toNat its.toArray.size) = k := by
      rw [if_neg (by omega), hi, Int.toNat_natCast, List.size_toArray]
      omega
    show (its.toArray.extract 0 (if i < 0 then (i + (its.toArray.size : Int)).toNat else min i.toNat its.toArray.size)).push u2 ++ its.toArray.extract (if i < 0 then (i + (its.toArray.size : Int)).toNat else min i.toNat its.toArray.size) = _
    rw [kk]
    apply Array.ext'
    simp
    exact List.take_of_length_le (by rw [List.length_drop]; exact Nat.le_refl _)
  · rw [List.length_append, List.length_cons, List.length_take, List.length_drop]
    omega
end
section
variable {X : Cx} {e : Expr} {te : TE} {p p2 pos pos2 : Pos}
end
end L2
namespace L2
open PySem PySem.W PySem.Spec PyProof.Rows
section
variable {prog : Program} {w : World} {A : Around} {E : Value → Shared → Prop} {s : Shared}
end
section
variable {prog : Program} {w : World} {A : Around} {E : Value → Shared → Prop} {s : Shared}
end
section
variable {X : Cx} {e e2 : Expr} {te te2 : TE} {p p2 p3 pos pos2 pos3 pos4 : Pos}
end
end L2
namespace L2
open PySem PySem.Spec PyProof.Rows
section
variable {X : Cx} {W : St → XK} {k : Nat} {f C : Addr} {fd : FuncData} {ps : List Str} {sp : Sp} {dvs : List V} {ds : List Value} {x m : Str} {p pos apos : Pos} {e o : Expr} {es : List Expr} {ta : TE} {t : TA}
structure IsaOf (K : PySem.W.Frag) (C B : Addr) : Prop where
  ha : PySem.W.findIn K (.ref C) "__class__" = some (some (.builtin "object.__class__"))
  hn : PySem.W.specialIn K (.builtin "object.__class__") "__get__" = some (some (.builtin "getset_descriptor.__get__"))
  htk : PySem.W.takesIn K (.builtin "object.__class__") = some true
  hm : PySem.W.mroIn K C (.type "object") = some true
  kt : PySem.W.kitOne K (.ref C) (.ref B) = some true
theorem call_iso {K : PySem.W.Frag} (hK : X.K = K := by rfl) : CallR X (.builtin "isinstance") (fun xs H Q => ∃ a C dx fs B, xs = [.ref a, .ref B] ∧ H a = some (.ins C dx fs) ∧ Cls K C ∧ IsaOf K C B ∧ Q (.bl true) H) := by
  subst hK
  intro pins s σ H xs us Q I rv h
  obtain ⟨a, C, dx, fs, B, rfl, ha, cl, i, q⟩ := h
  obtain ⟨u, u', rfl, r1, r2⟩ := vals2 rv
  cases (show u' = Value.ref B from r2)
  exact isinst_ok I r1 (.ins ha cl i.ha i.hn i.htk i.hm) i.kt fun tk => ⟨.bl true, H, I.tok tk, rfl, q⟩
theorem op_isT : OpR X (compareOp .Is) (fun x y H Q => ∃ b : Bool, y = .bl b ∧ Q (.bl (decide (x = .bl b))) H) := by
  intro pins s σ H x y v u Q I rx ry h
  obtain ⟨b, rfl, q⟩ := h
  cases ry
  cases x with
  | bl a =>
    cases rx
    have e : (Value.bool a == Value.bool b) = decide (V.bl a = V.bl b) := by cases a <;> cases b <;> rfl
    refine wpAny_pure ⟨.bl (decide (V.bl a = V.bl b)), H, I, ?_, q⟩
    show Value.bool (Value.bool a == Value.bool b) = Value.bool _
    rw [e]
  | _ =>
    first
      | (cases rx; exact wpAny_pure ⟨.bl false, H, I, rfl, q⟩)
      | (obtain ⟨t, rfl⟩ := rx; exact wpAny_pure ⟨.bl false, H, I, rfl, q⟩)
end
end L2
namespace L2
open PySem PySem.W PySem.Spec PyProof.Rows
section
variable {prog : Program} {w : World} {A : Around} {E : Value → Shared → Prop} {s : Shared} {Q : Bool → Shared → Prop}
end
section
variable {X : Cx}
theorem op_notT : OpR X (compareOp .IsNot) (fun x y H Q => ∃ b : Bool, y = .bl b ∧ Q (.bl (!decide (x = .bl b))) H) := by
  intro pins s σ H x y v u Q I rx ry h
  obtain ⟨b, rfl, q⟩ := h
  cases ry
  cases x with
  | bl a =>
    cases rx
    have e : (Value.bool a == Value.bool b) = decide (V.bl a = V.bl b) := by cases a <;> cases b <;> rfl
    refine wpAny_pure ⟨.bl (!decide (V.bl a = V.bl b)), H, I, ?_, q⟩
    show Value.bool (!(Value.bool a == Value.bool b)) = Value.bool _
    rw [e]
  | _ =>
    first
      | (cases rx; exact wpAny_pure ⟨.bl true, H, I, rfl, q⟩)
      | (obtain ⟨t, rfl⟩ := rx; exact wpAny_pure ⟨.bl true, H, I, rfl, q⟩)
end
end L2
set_option maxHeartbeats 4000000
namespace Law
open PySem L2
def spLaw (K : PySem.W.Frag) : Sp := fun vs H Q _ => ∃ (p : Addr) (ns : List Int), vs = [.ref p] ∧ SqL K H p (ns.map V.int) ∧ ns.length ≤ 63 ∧ ∀ H', Q (.bl true) H'
def spWhole : Sp := fun vs H Q _ => ∃ c : Int, vs = [.int c] ∧ Q (.bl true) H
theorem same_new {H : Hp} {p : Addr} (h : H p = none) (o : HO) : Same H (upd H p o) := fun b u q => by rw [upd_ne (ne_of_none q h)]; exact q
theorem fmod_in (x : Int) {y : Int} (h : 0 < y) : 0 ≤ x.fmod y ∧ x.fmod y < y := ⟨Int.fmod_nonneg_of_pos x h, Int.fmod_lt_of_pos x h⟩
theorem sz_fmod (x : Int) {y : Int} {n : Nat} (h : 0 < y) (k : Sz n y) : Sz n (x.fmod y) := by
  have e := fmod_in x h
  unfold Sz at k ⊢
  omega
def gcdI (a b : Int) : Int := (Int.gcd a b : Nat)
theorem absI (a : Int) : (if a < 0 then -a else a) = (a.natAbs : Int) := by
  by_cases h : a < 0
  · rw [if_pos h]; omega
  · rw [if_neg h]; omega
theorem gcd_abs (a b : Int) : Int.gcd (if a < 0 then -a else a) (if b < 0 then -b else b) = Int.gcd a b := by
  rw [absI, absI]
  unfold Int.gcd
  rw [Int.natAbs_natCast, Int.natAbs_natCast]
theorem gcd_turn {x y : Int} (hx : 0 ≤ x) (hy : 0 < y) : Int.gcd y (x.fmod y) = Int.gcd x y := by
  rw [Int.fmod_eq_emod_of_nonneg x (Int.le_of_lt hy)]
  obtain ⟨m, rfl⟩ := Int.eq_ofNat_of_zero_le hx
  obtain ⟨n, rfl⟩ := Int.eq_ofNat_of_zero_le (Int.le_of_lt hy)
  have e : ((m : Int) % (n : Int)) = ((m % n : Nat) : Int) := (Int.natCast_emod m n).symm
  rw [e]
  unfold Int.gcd
  rw [Int.natAbs_natCast, Int.natAbs_natCast, Int.natAbs_natCast]
  rw [Nat.gcd_comm m n, Nat.gcd_rec n m, Nat.gcd_comm]
theorem gcd_end {x y : Int} (hx : 0 ≤ x) (hy : 0 ≤ y) (h : ¬ 0 < y) : x = gcdI x y := by
  have e : y = 0 := by omega
  subst e
  unfold gcdI
  rw [Int.gcd_zero]
  omega
theorem gcdI_nonneg (a b : Int) : 0 ≤ gcdI a b := Int.natCast_nonneg _
theorem gcdI_ne {a b : Int} (h : b ≠ 0) : gcdI a b ≠ 0 := by
  intro e
  have z : Int.gcd a b = 0 := by unfold gcdI at e; omega
  exact h (Int.gcd_eq_zero_iff.mp z).2
def byOf (t b : Int) : Int := if b < 0 then -(gcdI t b) else gcdI t b
def lowT (t b : Int) : Int := t.fdiv (byOf t b)
def lowB (t b : Int) : Int := b.fdiv (byOf t b)
theorem byOf_ne {t b : Int} (h : b ≠ 0) : byOf t b ≠ 0 := by
  have e := gcdI_ne (a := t) h
  unfold byOf
  by_cases c : b < 0
  · rw [if_pos c]; omega
  · rw [if_neg c]; exact e
theorem lowB_pos {t b : Int} (h : b ≠ 0) : 0 < lowB t b := by
  have g0 : gcdI t b ≠ 0 := gcdI_ne h
  have gn := gcdI_nonneg t b
  have d : gcdI t b ∣ b := Int.gcd_dvd_right ..
  obtain ⟨k, hk⟩ := d
  unfold lowB byOf
  by_cases c : b < 0
  · rw [if_pos c]
    have e : b = -(gcdI t b) * (-k) := by rw [Int.neg_mul_neg]; exact hk
    have e2 : b.fdiv (-(gcdI t b)) = -k := by
      conv => lhs; arg 1; rw [e]
      exact Int.mul_fdiv_cancel_left (-k) (by omega)
    rw [e2]
    rcases (by omega : k < 0 ∨ 0 ≤ k) with z | z
    · omega
    · have := Int.mul_nonneg gn z
      omega
  · rw [if_neg c]
    have e2 : b.fdiv (gcdI t b) = k := by
      conv => lhs; arg 1; rw [hk]
      exact Int.mul_fdiv_cancel_left k g0
    rw [e2]
    rcases (by omega : 0 < k ∨ k ≤ 0) with z | z
    · exact z
    · have := Int.mul_nonpos_of_nonneg_of_nonpos gn z
      omega
theorem byOf_dvd {x y : Int} : byOf x y ∣ x := by
  have d : gcdI x y ∣ x := Int.gcd_dvd_left ..
  unfold byOf
  by_cases c : y < 0
  · rw [if_pos c]; exact Int.neg_dvd.mpr d
  · rw [if_neg c]; exact d
def spDivisor : Sp := fun vs H Q _ => ∃ a b : Int, vs = [.int a, .int b] ∧ Q (.int (gcdI a b)) H
def spLowest : Sp := fun vs H Q _ => ∃ t b : Int, vs = [.int t, .int b] ∧ b ≠ 0 ∧ Sz 13500 t ∧ Sz 13500 b ∧ ∀ (p : Addr) (H' : Hp), Same H H' → H' p = some (.tup [.int (lowT t b), .int (lowB t b)]) → Q (.ref p) H'
theorem while_mono1 {i : Nat} {c : Int} {g : Int → Int → V} : ∀ (σ : St) (H : Hp) (Q Q' : Bool → Hp → Prop), (∀ b H1, Q b H1 → Q' b H1) → tTest (tOp (rI0 g) (tVar i) (tC (.int c))) σ H Q → tTest (tOp (rI0 g) (tVar i) (tC (.int c))) σ H Q' := by
  rintro σ H Q Q' hq ⟨v, e, i, j, e1, e2, k, ek, h⟩
  exact ⟨v, e, i, j, e1, e2, k, ek, hq _ _ h⟩
theorem call_list_ofK {X : Cx} (K : PySem.W.Frag) (hK : X.K = K := by rfl) : CallR X (.type "list") (fun xs H Q => ∃ p ys, xs = [.ref p] ∧ (SqL K H p ys ∨ SqT K H p ys) ∧ ∀ l, H l = none → Q (.ref l) (upd H l (.lst ys))) := by
  subst hK
  exact call_list_of
def bit (m : Int) (i : Nat) : Bool := decide (m / 2 ^ i % 2 = 1)
def msum : Nat → (Nat → Bool) → Int
  | 0, _ => 0
  | n + 1, f => (if f 0 = true then 1 else 0) + 2 * msum n (fun i => f (i + 1))
theorem bit_half (s : Int) (i : Nat) : bit (s / 2) i = bit s (i + 1) := by
  unfold bit
  rw [Int.ediv_ediv_of_nonneg (by decide : (0 : Int) ≤ 2)]
  have e : (2 : Int) * 2 ^ i = 2 ^ (i + 1) := by rw [Int.pow_succ, Int.mul_comm]
  rw [e]
theorem bit_zero (s : Int) : bit s 0 = decide (s % 2 = 1) := by
  unfold bit
  rw [Int.pow_zero, Int.ediv_one]
theorem msum_congr : ∀ n {f g : Nat → Bool}, (∀ i, i < n → f i = g i) → msum n f = msum n g
  | 0, _, _, _ => rfl
  | n + 1, f, g, h => by
    show (if f 0 = true then (1 : Int) else 0) + 2 * msum n (fun i => f (i + 1)) = (if g 0 = true then (1 : Int) else 0) + 2 * msum n (fun i => g (i + 1))
    rw [h 0 (by omega), msum_congr n (f := fun i => f (i + 1)) (g := fun i => g (i + 1)) fun i hi => h (i + 1) (by omega)]
theorem msum_succ : ∀ n f, msum (n + 1) f = msum n f + (if f n = true then 2 ^ n else 0)
  | 0, f => by
    show (if f 0 = true then (1 : Int) else 0) + 2 * 0 = 0 + (if f 0 = true then (1 : Int) else 0)
    split <;> decide
  | n + 1, f => by
    show (if f 0 = true then (1 : Int) else 0) + 2 * msum (n + 1) (fun i => f (i + 1)) = (if f 0 = true then (1 : Int) else 0) + 2 * msum n (fun i => f (i + 1)) + (if f (n + 1) = true then 2 ^ (n + 1) else 0)
    rw [msum_succ n (fun i => f (i + 1)), Int.pow_succ]
    split <;> split <;> omega
def hands (n : Nat) (f : Nat → Bool) : List Int := ((List.range n).filter f).map fun i : Nat => (i : Int)
theorem hands_succ (n : Nat) (f : Nat → Bool) : hands (n + 1) f = if f n = true then hands n f ++ [(n : Int)] else hands n f := by
  unfold hands
  rw [List.range_succ, List.filter_append, List.map_append]
  by_cases h : f n = true
  · rw [if_pos h]; simp [h]
  · rw [if_neg h]
    have h' : f n = false := by simpa using h
    simp [h']
theorem hands_len (n : Nat) (f : Nat → Bool) : (hands n f).length ≤ n := by
  unfold hands
  rw [List.length_map]
  exact Nat.le_trans (List.length_filter_le _ _) (by simp)
theorem hands_mem {n : Nat} {f : Nat → Bool} {z : Int} : z ∈ hands n f ↔ ∃ i : Nat, i < n ∧ f i = true ∧ z = (i : Int) := by
  unfold hands
  rw [List.mem_map]
  constructor
  · rintro ⟨i, hi, rfl⟩
    obtain ⟨h1, h2⟩ := List.mem_filter.mp hi
    exact ⟨i, List.mem_range.mp h1, h2, rfl⟩
  · rintro ⟨i, h1, h2, rfl⟩
    exact ⟨i, List.mem_filter.mpr ⟨List.mem_range.mpr h1, h2⟩, rfl⟩
def bsum (hs : List Int) : Int := (hs.map fun h => (1 : Int) * 2 ^ h.toNat).sum
theorem bsum_hands : ∀ n f, bsum (hands n f) = msum n f
  | 0, f => rfl
  | n + 1, f => by
    rw [hands_succ, msum_succ]
    by_cases h : f n = true
    · rw [if_pos h, if_pos h]
      unfold bsum
      rw [List.map_append, List.sum_append]
      have := bsum_hands n f
      unfold bsum at this
      rw [this]
      simp
    · rw [if_neg h, if_neg h, bsum_hands n f]
      omega
def ins (x : Int) : List Int → List Int
  | [] => [x]
  | y :: r => if x < y then x :: y :: r else if x = y then y :: r else y :: ins x r
def spC40 (K : PySem.W.Frag) : Sp := fun vs H Q _ => ∃ (p : Addr) (ns : List Int) (k : Int), vs = [.ref p, .int k] ∧ SqL K H p (ns.map V.int) ∧ ns.length ≤ 63 ∧ 0 ≤ k ∧ k ≤ 1000 ∧ ∀ z : Int, 0 ≤ z → z < 10 ^ 40 → Q (.int z) H
def spMixed : Sp := fun vs H Q _ => ∃ c b : Int, vs = [.int c, .int b] ∧ Sz 200 c ∧ Sz 64 b ∧ ∀ z : Int, 0 ≤ z → z < 10 ^ 18 → Q (.int z) H
theorem sz40 {c : Int} (h0 : 0 ≤ c) (h : c < 10 ^ 40) : Sz 200 c := sz_of (by omega) (by omega)
theorem sz18 {c : Int} (h0 : 0 ≤ c) (h : c < 10 ^ 18) : Sz 64 c := sz_of (by omega) (by omega)
theorem mix_end (x : Int) : 0 ≤ (x.fmod ((10 : Int) ^ (18 : Int).toNat + 3)).fdiv 7 ∧ (x.fmod ((10 : Int) ^ (18 : Int).toNat + 3)).fdiv 7 < 10 ^ 18 := by
  have h := fmod_in x (show (0 : Int) < (10 : Int) ^ (18 : Int).toNat + 3 by decide)
  generalize x.fmod ((10 : Int) ^ (18 : Int).toNat + 3) = y at h ⊢
  rw [Int.fdiv_eq_ediv_of_nonneg y (by decide)]
  have e : (10 : Int) ^ (18 : Int).toNat = 1000000000000000000 := by decide
  rw [e] at h
  omega
theorem same_upd {H H' : Hp} {l : Addr} {o : HO} (s : Same H H') (n : H l = none) : Same H (upd H' l o) := fun b u e => by
  rw [upd_ne (ne_of_none e n)]
  exact s b u e
theorem ifT {c : Bool} {A B : Prop} (e : c = true) (h : A) : if c = true then A else B := by rw [if_pos e]; exact h
theorem ifF {c : Bool} {A B : Prop} (e : c = false) (h : B) : if c = true then A else B := by rw [if_neg (by rw [e]; decide)]; exact h
theorem ne_t {a b : Int} (h : a ≠ b) : (!decide (V.int a = V.int b)) = true := by rw [decide_eq_false (fun e => h (V.int.inj e))]; rfl
theorem ne_f {a b : Int} (h : a = b) : (!decide (V.int a = V.int b)) = false := by rw [h, decide_eq_true rfl]; rfl
theorem eq_t {a b : Int} (h : a = b) : decide (V.int a = V.int b) = true := by rw [h]; exact decide_eq_true rfl
theorem eq_f {a b : Int} (h : a ≠ b) : decide (V.int a = V.int b) = false := decide_eq_false fun e => h (V.int.inj e)
theorem int_at {ns : List Int} {i : Nat} {x : V} (h : (ns.map V.int)[i]? = some x) : ∃ z, ns[i]? = some z ∧ x = .int z := by
  rw [List.getElem?_map] at h
  cases e : ns[i]? with
  | none => rw [e] at h; cases h
  | some z => rw [e] at h; exact ⟨z, rfl, (Option.some.inj h).symm⟩
theorem atN {ns : List Int} {i : Nat} {z : Int} (h : ns[i]? = some z) : atI (ns.map V.int) (i : Int) = some (.int z) := atI_nat (by rw [List.getElem?_map, h]; rfl)
theorem and1 (x : Int) : Builtin.bitAnd x 1 = x % 2 := PySem.W.kbt_mask x 1
theorem holds_bit (m : Int) (h : Int) : decide (V.int (Builtin.bitAnd (m / 2 ^ h.toNat) 1) = V.int 1) = bit m h.toNat := by
  unfold bit
  rw [and1]
  by_cases c : m / 2 ^ h.toNat % 2 = 1
  · rw [decide_eq_true c, decide_eq_true (congrArg V.int c)]
  · rw [decide_eq_false c, decide_eq_false fun e => c (V.int.inj e)]
def spMembers : Sp := fun vs H Q _ => ∃ m : Int, vs = [.int m] ∧ 0 ≤ m ∧ m < 4096 ∧ ∀ (p : Addr) (H' : Hp), H p = none → Same H H' → H' p = some (.lst ((hands 12 (bit m)).map V.int)) → Q (.ref p) H'
def spUp : Sp := fun vs H Q _ => ∃ t b : Int, vs = [.int t, .int b] ∧ 0 < b ∧ Sz 9000 b ∧ Q (.int (-((-t).fdiv b))) H
theorem u1 {n : Nat} (h : n + 64 < cLine) : n + 1 < cLine := by omega
theorem pow_lt {a h : Int} (ha : 0 ≤ a ∧ a < h) : 0 ≤ (1 : Int) * 2 ^ a.toNat ∧ (1 : Int) * 2 ^ a.toNat < 2 ^ h.toNat := by
  have p : 2 ^ a.toNat < 2 ^ h.toNat := Nat.pow_lt_pow_right (by decide) (by omega)
  have e1 : ((2 ^ a.toNat : Nat) : Int) = (2 : Int) ^ a.toNat := by simp
  have e2 : ((2 ^ h.toNat : Nat) : Int) = (2 : Int) ^ h.toNat := by simp
  rw [Int.one_mul, ← e1, ← e2]
  exact ⟨Int.natCast_nonneg _, Int.ofNat_lt.mpr p⟩
theorem ixN_nat {n i : Nat} (h : i < n) : ixN n (i : Int) = some i := by
  unfold ixN
  rw [if_pos (by omega)]
  simp [h]
theorem two_lt {a b h : Int} (ha : 0 ≤ a ∧ a < h) (hb : 0 ≤ b ∧ b < h) (n : b ≠ a) : 0 ≤ (1 : Int) * 2 ^ a.toNat + 1 * 2 ^ b.toNat ∧ (1 : Int) * 2 ^ a.toNat + 1 * 2 ^ b.toNat < 2 ^ h.toNat := by
  have key : ∀ {x y : Nat}, x < y → y < h.toNat → 2 ^ x + 2 ^ y < 2 ^ h.toNat := fun {x y} l1 l2 => by
    have p1 : 2 ^ x < 2 ^ y := Nat.pow_lt_pow_right (by decide) l1
    have p2 : 2 ^ (y + 1) ≤ 2 ^ h.toNat := Nat.pow_le_pow_right (by decide) l2
    rw [Nat.pow_succ] at p2
    omega
  have k : 2 ^ a.toNat + 2 ^ b.toNat < 2 ^ h.toNat := by
    rcases (by omega : a.toNat < b.toNat ∨ b.toNat < a.toNat) with c | c
    · exact key c (by omega)
    · rw [Nat.add_comm]; exact key c (by omega)
  have e1 : ((2 ^ a.toNat : Nat) : Int) = (2 : Int) ^ a.toNat := by simp
  have e2 : ((2 ^ h.toNat : Nat) : Int) = (2 : Int) ^ h.toNat := by simp
  have e3 : ((2 ^ b.toNat : Nat) : Int) = (2 : Int) ^ b.toNat := by simp
  rw [Int.one_mul, Int.one_mul, ← e1, ← e2, ← e3]
  have k' := Int.ofNat_lt.mpr k
  rw [Int.natCast_add] at k'
  exact ⟨Int.add_nonneg (Int.natCast_nonneg _) (Int.natCast_nonneg _), k'⟩
theorem full_pos {h : Int} (h1 : 1 ≤ h) : (1 : Int) ≤ 1 * 2 ^ h.toNat - 1 ∧ (1 : Int) * 2 ^ h.toNat = 2 ^ h.toNat := by
  have p : 2 ^ 1 ≤ 2 ^ h.toNat := Nat.pow_le_pow_right (by decide) (by omega)
  have e2 : ((2 ^ h.toNat : Nat) : Int) = (2 : Int) ^ h.toNat := by simp
  rw [Int.one_mul, ← e2]
  exact ⟨by omega, rfl⟩
theorem pick4 {x0 x1 x2 x3 : Int} (P : Int → Prop) (m : Int) (h0 : 0 ≤ m) (h4 : m < 4) (p0 : P x0) (p1 : P x1) (p2 : P x2) (p3 : P x3) : ∃ v, atI [V.int x0, V.int x1, V.int x2, V.int x3] m = some (.int v) ∧ P v := by
  rcases (by omega : m = 0 ∨ m = 1 ∨ m = 2 ∨ m = 3) with rfl | rfl | rfl | rfl
  · exact ⟨x0, rfl, p0⟩
  · exact ⟨x1, rfl, p1⟩
  · exact ⟨x2, rfl, p2⟩
  · exact ⟨x3, rfl, p3⟩
theorem bit_high {m : Int} {i : Nat} (h0 : 0 ≤ m) (h : m < 2 ^ i) : bit m i = false := by
  unfold bit
  rw [Int.ediv_eq_zero_of_lt h0 h]
  decide
theorem hands_more {m : Int} {k : Nat} (h0 : 0 ≤ m) (h : m < 2 ^ k) : ∀ d : Nat, hands (k + d) (bit m) = hands k (bit m)
  | 0 => rfl
  | d + 1 => by
    have p : (2 : Int) ^ k ≤ 2 ^ (k + d) := by
      have q : 2 ^ k ≤ 2 ^ (k + d) := Nat.pow_le_pow_right (by decide) (by omega)
      have e1 : ((2 ^ k : Nat) : Int) = (2 : Int) ^ k := by simp
      have e2 : ((2 ^ (k + d) : Nat) : Int) = (2 : Int) ^ (k + d) := by simp
      omega
    show hands ((k + d) + 1) (bit m) = hands k (bit m)
    rw [hands_succ, bit_high h0 (by omega), if_neg (by decide), hands_more h0 h d]
theorem bits_all {m : Int} (h0 : 0 ≤ m) (h : m < 4096) : hands (Builtin.Int.intBits m) (bit m) = hands 12 (bit m) := by
  have b : Builtin.Int.intBits m ≤ 12 := intBits_le_iff.mpr (by show m.natAbs < 4096; omega)
  have l : m.natAbs < 2 ^ Builtin.Int.intBits m := intBits_le_iff.mp (Nat.le_refl _)
  have l' : m < (2 : Int) ^ Builtin.Int.intBits m := by
    have e : ((2 ^ Builtin.Int.intBits m : Nat) : Int) = (2 : Int) ^ Builtin.Int.intBits m := by simp
    omega
  obtain ⟨d, hd⟩ : ∃ d, 12 = Builtin.Int.intBits m + d := ⟨12 - Builtin.Int.intBits m, by omega⟩
  rw [hd, hands_more h0 l' d]
abbrev Ls := List (Addr × Addr × List Int × Int)
def vls (ls : Ls) : List V := ls.map fun q => .ref q.1
def First (h : Nat) (ts : List Int) : Prop := ts = [] ∨ ∃ t r, ts = t :: r ∧ 0 ≤ t ∧ t < 2 ^ h
def GoodL (h : Nat) (H : Hp) (ls : Ls) : Prop := ∀ q ∈ ls, H q.1 = some (.tup [.ref q.2.1, .int q.2.2.2]) ∧ H q.2.1 = some (.tup (q.2.2.1.map V.int)) ∧ First h q.2.2.1
theorem GoodL.same {h : Nat} {H H' : Hp} {ls : Ls} (s : Same H H') (g : GoodL h H ls) : GoodL h H' ls := fun q m => ⟨s _ _ (g q m).1, s _ _ (g q m).2.1, (g q m).2.2⟩
theorem GoodL.sub {h : Nat} {H : Hp} {a b : Ls} (g : GoodL h H a) (k : ∀ q ∈ b, q ∈ a) : GoodL h H b := fun q m => g q (k q m)
theorem vls_get {ls : Ls} {i : Nat} {x : V} (h : (vls ls)[i]? = some x) : ∃ q, ls[i]? = some q ∧ x = .ref q.1 ∧ q ∈ ls ∧ ls.take (i + 1) = ls.take i ++ [q] := by
  unfold vls at h
  rw [List.getElem?_map] at h
  cases e : ls[i]? with
  | none => rw [e] at h; cases h
  | some q =>
    rw [e] at h
    refine ⟨q, rfl, (Option.some.inj h).symm, List.mem_of_getElem? e, ?_⟩
    rw [List.take_succ, e]
    rfl
theorem vls_len (ls : Ls) : (vls ls).length = ls.length := List.length_map ..
def ld (q : Addr × Addr × List Int × Int) : PyData := .tuple [.tuple (q.2.2.1.map .int), .int q.2.2.2]
theorem reps_ls {K : PySem.W.Frag} {h : Nat} {H : Hp} : ∀ {ls : Ls}, GoodL h H ls → Reps K H (vls ls) (ls.map ld)
  | [], _ => .nil
  | q :: _, g => by
    obtain ⟨g1, g2, _⟩ := g q (List.mem_cons_self ..)
    exact .cons (.tup (SqT.of g1) (.cons (.tup (SqT.of g2) (.ints _)) (.cons (.int _) .nil))) (reps_ls (g.sub fun _ m => List.mem_cons_of_mem _ m))
theorem lay_ls : ∀ ls : Ls, PyData.canLayAll0 (ls.map ld) = true ∧ PyData.depthAll (ls.map ld) ≤ 2
  | [] => ⟨rfl, Nat.zero_le _⟩
  | q :: r => by
    obtain ⟨h1, h2⟩ := lay_ls r
    obtain ⟨i1, i2⟩ := lay_ints q.2.2.1
    refine ⟨?_, ?_⟩
    · show ((PyData.canLayAll0 (q.2.2.1.map .int) && (true && true)) && PyData.canLayAll0 (r.map ld)) = true
      rw [h1, i1]; rfl
    · show max (max (PyData.depthAll (q.2.2.1.map .int) + 1) (max 0 0) + 1) (PyData.depthAll (r.map ld)) ≤ 2
      omega
theorem shape_ls (ls : Ls) : SeqAt.shaped (.list (ls.map ld)) = true := by
  obtain ⟨h1, h2⟩ := lay_ls ls
  unfold SeqAt.shaped
  rw [Bool.and_eq_true]
  refine ⟨h1, decide_eq_true ?_⟩
  show PyData.depthAll (ls.map ld) + 1 ≤ 64
  omega
theorem eqv_ls : ∀ ls : Ls, PyData.eqvAll (ls.map ld) (ls.map ld) = true
  | [] => rfl
  | q :: r => by
    show ((PyData.eqvAll (q.2.2.1.map .int) (q.2.2.1.map .int) && ((q.2.2.2 == q.2.2.2) && true)) && PyData.eqvAll (r.map ld) (r.map ld)) = true
    rw [eqv_ls r, eqv_ints, decide_eq_true rfl, beq_self_eq_true]
    rfl
theorem none_of {H H' : Hp} {a : Addr} (s : Same H H') (h : H' a = none) : H a = none := by
  cases e : H a with
  | none => rfl
  | some u => rw [s _ _ e] at h; cases h
def plK (t : Int) (h : Nat) : Nat → Nat
  | 0 => h
  | k + 1 => if t = 2 ^ k then k else plK t h k
def pl (h : Nat) : List Int → Nat
  | [] => h
  | t :: _ => plK t h h
theorem plK_le (t : Int) (h : Nat) : ∀ k, k ≤ h → plK t h k ≤ h
  | 0, _ => Nat.le_refl _
  | k + 1, hk => by
    show (if t = 2 ^ k then k else plK t h k) ≤ h
    split
    · omega
    · exact plK_le t h k (by omega)
theorem pl_le (h : Nat) : ∀ ts, pl h ts ≤ h
  | [] => Nat.le_refl _
  | t :: _ => plK_le t h h (Nat.le_refl _)
theorem pow_inj {a b : Nat} (h : (2 : Int) ^ a = 2 ^ b) : a = b := by
  have e : ((2 ^ a : Nat) : Int) = ((2 ^ b : Nat) : Int) := by simpa using h
  have f : 2 ^ a = 2 ^ b := by omega
  exact Nat.pow_right_inj (by decide) |>.mp f
theorem plK_at {t : Int} {h : Nat} : ∀ k {j : Nat}, j < k → t = 2 ^ j → plK t h k = j
  | k + 1, j, hj, e => by
    show (if t = 2 ^ k then k else plK t h k) = j
    by_cases c : t = 2 ^ k
    · rw [if_pos c]; exact pow_inj (c.symm.trans e)
    · rw [if_neg c]
      have : j ≠ k := fun z => c (by rw [← z]; exact e)
      exact plK_at k (by omega) e
theorem plK_no {t : Int} {h : Nat} : ∀ k, (∀ j, j < k → t ≠ 2 ^ j) → plK t h k = h
  | 0, _ => rfl
  | k + 1, n => by
    show (if t = 2 ^ k then k else plK t h k) = h
    rw [if_neg (n k (by omega))]
    exact plK_no k fun j hj => n j (by omega)
theorem msum_bit : ∀ (n : Nat) (t : Int), 0 ≤ t → t < 2 ^ n → msum n (bit t) = t
  | 0, t, h0, h1 => by
    have : t < 1 := h1
    show (0 : Int) = t
    omega
  | n + 1, t, h0, h1 => by
    rw [Int.pow_succ] at h1
    show (if bit t 0 = true then (1 : Int) else 0) + 2 * msum n (fun i => bit t (i + 1)) = t
    have e : msum n (fun i => bit t (i + 1)) = t / 2 := by
      rw [← msum_bit n (t / 2) (by omega) (by omega)]
      exact msum_congr n fun i _ => (bit_half t i).symm
    rw [e, bit_zero]
    by_cases c : t % 2 = 1
    · rw [decide_eq_true c, if_pos rfl]; omega
    · rw [decide_eq_false c, if_neg (by decide)]; omega
theorem one_hand : ∀ k : _root_.Fin 12, hands 12 (bit (2 ^ k.val)) = [(k.val : Int)] := by decide +kernel
theorem pl_one {t : Int} {r : List Int} {h : Nat} {z : Int} (h12 : h ≤ 12) (t0 : 0 ≤ t) (t1 : t < 2 ^ h) (e : hands 12 (bit t) = [z]) : (pl h (t :: r) : Int) = z ∧ pl h (t :: r) < h := by
  have lt : t < 2 ^ 12 := by
    have : (2 : Int) ^ h ≤ 2 ^ 12 := by
      have q : 2 ^ h ≤ 2 ^ 12 := Nat.pow_le_pow_right (by decide) h12
      have e1 : ((2 ^ h : Nat) : Int) = (2 : Int) ^ h := by simp
      omega
    omega
  have m := bsum_hands 12 (bit t)
  rw [e, msum_bit 12 t t0 lt] at m
  obtain ⟨k, k12, _, rfl⟩ := hands_mem.mp (show z ∈ hands 12 (bit t) by rw [e]; exact List.mem_cons_self ..)
  have et : t = 2 ^ k := by
    rw [← m]
    show (1 : Int) * 2 ^ (k : Int).toNat + 0 = 2 ^ k
    rw [Int.one_mul, Int.add_zero, Int.toNat_natCast]
  have kh : k < h := by
    rcases (by omega : k < h ∨ h ≤ k) with c | c
    · exact c
    · have q : 2 ^ h ≤ 2 ^ k := Nat.pow_le_pow_right (by decide) c
      have e1 : ((2 ^ h : Nat) : Int) = (2 : Int) ^ h := by simp
      have e2 : ((2 ^ k : Nat) : Int) = (2 : Int) ^ k := by simp
      omega
  have : pl h (t :: r) = k := plK_at h kh et
  rw [this]
  exact ⟨rfl, kh⟩
theorem pl_none {t : Int} {r : List Int} {h : Nat} (h12 : h ≤ 12) (e : (hands 12 (bit t)).length ≠ 1) : pl h (t :: r) = h := by
  refine plK_no h fun j hj z => e ?_
  rw [z]
  have := one_hand ⟨j, by omega⟩
  rw [show (2 : Int) ^ j = 2 ^ (⟨j, by omega⟩ : _root_.Fin 12).val from rfl, this]
  rfl
def addV (h : Nat) (vs : List Int) (q : Addr × Addr × List Int × Int) : List Int := vs.set (pl h q.2.2.1) (vs.getD (pl h q.2.2.1) 0 + q.2.2.2)
def GoodK (h : Nat) (kvs : List (List Key × V)) : Prop := ∀ q ∈ kvs, ∃ (ts : List Int) (n : Int), q = (ts.map Sum.inl, .int n) ∧ First h ts
theorem kv_map (ts : List Int) : (ts.map Sum.inl : List Key).map kV = ts.map V.int := by rw [List.map_map]; rfl
theorem goodK_put {h : Nat} {kvs : List (List Key × V)} {ts : List Int} {n : Int} (g : GoodK h kvs) (f : First h ts) : GoodK h (putK kvs (ts.map Sum.inl) (.int n)) := by
  intro q m
  unfold putK at m
  split at m
  · obtain ⟨p, pm, rfl⟩ := List.mem_map.mp m
    split
    · rename_i e
      exact ⟨ts, n, by rw [e], f⟩
    · exact g p pm
  · rcases List.mem_append.mp m with m | m
    · exact g q m
    · rw [List.mem_singleton.mp m]; exact ⟨ts, n, rfl, f⟩
theorem putK_len {κ : Type} [DecidableEq κ] (kvs : List (κ × V)) (k : κ) (v : V) : (putK kvs k v).length ≤ kvs.length + 1 := by
  unfold putK
  split
  · rw [List.length_map]; omega
  · rw [List.length_append]; exact Nat.le_refl _
theorem goodK_val {h : Nat} {kvs : List (List Key × V)} {k : List Key} {v : V} (g : GoodK h kvs) (e : valV kvs k = some v) : ∃ n : Int, v = .int n := by
  unfold valV at e
  cases c : kvs.find? fun kv => decide (kv.1 = k) with
  | none => rw [c] at e; cases e
  | some q =>
    rw [c] at e
    obtain ⟨ts, n, rfl, _⟩ := g q (List.mem_of_find?_eq_some c)
    exact ⟨n, (Option.some.inj e).symm⟩
theorem goodK_keys {h : Nat} : ∀ {kvs : List (List Key × V)}, GoodK h kvs → ∃ ks : List (List Int), kvs.map (·.1) = ks.map (List.map Sum.inl) ∧ ks.length = kvs.length ∧ ∀ ts ∈ ks, First h ts ∧ ∃ n : Int, valV kvs (ts.map Sum.inl) = some (.int n)
  | kvs, g => by
    have key : ∀ {l : List (List Key × V)}, (∀ q ∈ l, q ∈ kvs) → ∃ ks : List (List Int), l.map (·.1) = ks.map (List.map Sum.inl) ∧ ks.length = l.length ∧ ∀ ts ∈ ks, First h ts ∧ (ts.map Sum.inl : List Key) ∈ kvs.map (·.1) := by
      intro l
      induction l with
      | nil => intro _; exact ⟨[], rfl, rfl, fun _ m => nomatch m⟩
      | cons q r ih =>
        intro sub
        obtain ⟨ks, e1, e2, e3⟩ := ih fun p m => sub p (List.mem_cons_of_mem _ m)
        obtain ⟨ts, n, eq, f⟩ := g q (sub q (List.mem_cons_self ..))
        refine ⟨ts :: ks, by rw [List.map_cons, List.map_cons, e1, eq], by rw [List.length_cons, List.length_cons, e2], fun us m => ?_⟩
        rcases List.mem_cons.mp m with z | z
        · subst z
          exact ⟨f, List.mem_map.mpr ⟨q, sub q (List.mem_cons_self ..), by rw [eq]⟩⟩
        · exact e3 us z
    obtain ⟨ks, e1, e2, e3⟩ := key fun q m => m
    refine ⟨ks, e1, e2, fun ts m => ⟨(e3 ts m).1, ?_⟩⟩
    cases c : valV kvs (ts.map Sum.inl : List Key) with
    | none => exact absurd (e3 ts m).2 (valV_not c)
    | some v =>
      obtain ⟨n, rfl⟩ := goodK_val g c
      exact ⟨n, rfl⟩
def tally (h : Nat) (ls : Ls) : List Int := ls.foldl (addV h) (List.replicate (h + 1) 0)
theorem tally_len (h : Nat) (ls : Ls) : (tally h ls).length = h + 1 := by
  have : ∀ (ls : Ls) (vs : List Int), (ls.foldl (addV h) vs).length = vs.length := by
    intro ls
    induction ls with
    | nil => intro vs; rfl
    | cons q r ih => intro vs; rw [List.foldl_cons, ih]; unfold addV; rw [List.length_set]
  unfold tally
  rw [this, List.length_replicate]
theorem tally_snoc (h : Nat) (ls : Ls) (q : Addr × Addr × List Int × Int) : tally h (ls ++ [q]) = addV h (tally h ls) q := by
  unfold tally
  rw [List.foldl_append]
  rfl
theorem sum_set : ∀ (vs : List Int) (i : Nat) (n : Int), i < vs.length → (vs.set i (vs.getD i 0 + n)).sum = vs.sum + n
  | v :: vs, 0, n, _ => by
    show (v + n) + vs.sum = v + vs.sum + n
    omega
  | v :: vs, i + 1, n, h => by
    show v + (vs.set i (vs.getD i 0 + n)).sum = v + vs.sum + n
    rw [sum_set vs i n (Nat.lt_of_succ_lt_succ h)]
    omega
theorem sum_tally (h : Nat) : ∀ ls : Ls, (tally h ls).sum = (ls.map fun q => q.2.2.2).sum := by
  have : ∀ (ls : Ls) (vs : List Int), vs.length = h + 1 → (ls.foldl (addV h) vs).sum = vs.sum + (ls.map fun q => q.2.2.2).sum := by
    intro ls
    induction ls with
    | nil => intro vs _; show vs.sum = vs.sum + 0; omega
    | cons q r ih =>
      intro vs hv
      have l : (addV h vs q).length = h + 1 := by unfold addV; rw [List.length_set]; exact hv
      rw [List.foldl_cons, ih _ l]
      unfold addV
      rw [sum_set _ _ _ (by have := pl_le h q.2.2.1; omega), List.map_cons, List.sum_cons]
      omega
  intro ls
  have z : ∀ n : Nat, (List.replicate n (0 : Int)).sum = 0 := by
    intro n
    induction n with
    | zero => rfl
    | succ n ih => rw [List.replicate_succ, List.sum_cons, ih]; rfl
  unfold tally
  rw [this ls _ (List.length_replicate ..), z]
  omega
def spSlip61 : Sp := fun vs H Q _ => ∃ c h : Int, vs = [.int c, .int h] ∧ Sz 200 c ∧ 1 ≤ h ∧ h ≤ 12 ∧ ∀ (t : Addr) (ts : List Int) (H' : Hp), Same H H' → H' t = some (.tup (ts.map V.int)) → First h.toNat ts → Q (.ref t) H'
def spVotes (K : PySem.W.Frag) : Sp := fun vs H Q _ => ∃ (l : Addr) (ls : Ls) (h : Int), vs = [.ref l, .int h] ∧ H l = some (.lst (vls ls)) ∧ GoodL h.toNat H ls ∧ 1 ≤ h ∧ h ≤ 12 ∧
  ∀ (a : Addr) (H' : Hp), H a = none → Same H H' → H' a = some (.lst ((tally h.toNat ls).map V.int)) → Q (.ref a) H'
def spVote (K : PySem.W.Frag) : Sp := fun vs H Q _ => ∃ (t : Addr) (ts : List Int) (h : Nat), vs = [.ref t] ∧ H t = some (.tup (ts.map V.int)) ∧ First h ts ∧ h ≤ 12 ∧ (pl h ts = h → ∀ H', Same H H' → Q .non H') ∧ (pl h ts < h → ∀ H', Same H H' → Q (.int (pl h ts : Nat)) H')
def off (H : Hp) (D : Addr) : Hp := fun b => if b = D then none else H b
theorem off_le (H : Hp) (D : Addr) : Same (off H D) H := fun b o e => by
  unfold off at e
  split at e
  · cases e
  · exact e
theorem off_at {H : Hp} {D b : Addr} {o : HO} (e : H b = some o) (n : b ≠ D) : off H D b = some o := by
  unfold off
  rw [if_neg n]
  exact e
theorem off_self {H : Hp} {D : Addr} : off H D D = none := by unfold off; rw [if_pos rfl]
theorem off_put {H H' : Hp} {D : Addr} {o : HO} (s : Same (off H D) H') : Same (off H D) (upd H' D o) := fun b u e => by
  rw [upd_ne (fun z => by rw [z, off_self] at e; cases e)]
  exact s _ _ e
theorem off_of {H0 H : Hp} {D : Addr} (s : Same H0 H) (n : H0 D = none) : Same H0 (off H D) := fun b o e => off_at (s _ _ e) fun z => by rw [z, n] at e; cases e
theorem off_upd {H : Hp} {D : Addr} {o : HO} : off (upd H D o) D = off H D := funext fun b => by
  unfold off
  by_cases c : b = D
  · rw [if_pos c, if_pos c]
  · rw [if_neg c, if_neg c, upd_ne c]
theorem pickTwo {x0 x1 : Int} (P : Int → Prop) (c : Bool) (p0 : P x0) (p1 : P x1) : ∃ v, atI [V.int x0, V.int x1] (if c = true then 1 else 0) = some (.int v) ∧ P v := by
  cases c
  · exact ⟨x0, rfl, p0⟩
  · exact ⟨x1, rfl, p1⟩
theorem pickM3 {x0 x1 x2 : Int} (P : Int → Prop) (m : Int) (h0 : 0 ≤ m) (h3 : m < 3) (p0 : P x0) (p1 : P x1) (p2 : P x2) : ∃ v, atI [V.int x0, V.int x1, V.int x2] m = some (.int v) ∧ P v := by
  rcases (by omega : m = 0 ∨ m = 1 ∨ m = 2) with rfl | rfl | rfl
  · exact ⟨x0, rfl, p0⟩
  · exact ⟨x1, rfl, p1⟩
  · exact ⟨x2, rfl, p2⟩
def ups (n : Nat) : List Int := (List.range n).map fun i : Nat => (i : Int)
theorem ups_srt (n : Nat) : (ups n).Pairwise (· ≤ ·) := List.pairwise_map.mpr (List.pairwise_lt_range.imp fun h => by omega)
theorem ups_v (n : Nat) : (ups n).map V.int = (List.range n).map fun i : Nat => V.int (i : Int) := by unfold ups; rw [List.map_map]; rfl
theorem ups_len (n : Nat) : (ups n).length = n := by unfold ups; rw [List.length_map, List.length_range]
theorem ups_of {ms ns : List Int} {n : Nat} (p : ms.Perm ns) (s : ms.Pairwise (· ≤ ·)) (h : ns.Perm (ups n)) : ms = ups n := (p.trans h).eq_of_pairwise (fun a b _ _ x y => Int.le_antisymm x y) s (ups_srt n)
def spHands : Sp := fun vs H Q _ => ∃ n : Int, vs = [.int n] ∧ 1 ≤ n ∧ n ≤ 12 ∧ Q (.bl true) H
def spSeats : Sp := fun vs H Q _ => ∃ n : Int, vs = [.int n] ∧ 1 ≤ n ∧ n ≤ 60 ∧ Q (.bl true) H
def spStep : Sp := fun vs H Q _ => ∃ n : Int, vs = [.int n] ∧ 1 ≤ n ∧ n ≤ 9 ∧ Q (.bl true) H
def spLots (K : PySem.W.Frag) : Sp := fun vs H Q _ => ∃ (l : Addr) (ns : List Int) (n : Nat), vs = [.ref l, .int (n : Int)] ∧ H l = some (.lst (ns.map V.int)) ∧ ns.Perm (ups n) ∧ n ≤ 12 ∧ ∀ H' : Hp, Same H H' → Q (.bl true) H'
def spHurdle : Sp := fun vs H Q _ => ∃ (t : Addr) (u v : Int), vs = [.ref t] ∧ H t = some (.tup [.int u, .int v]) ∧ 0 ≤ u ∧ u ≤ v ∧ gcdI u v = 1 ∧ Q (.bl true) H
abbrev fsW (h s : Int) (l : Addr) : List (Str × V) := [("hands", .int h), ("seats", .int s), ("lots", .ref l)]
abbrev fsL (h s : Int) (l t : Addr) (st : Int) : List (Str × V) := [("hands", .int h), ("seats", .int s), ("lots", .ref l), ("hurdle", .ref t), ("step", .int st)]
theorem put1 (x : V) : putF "hands" x [] = ([("hands", x)] : List (Str × V)) := rfl
theorem put2 (x y : V) : putF "seats" y [("hands", x)] = ([("hands", x), ("seats", y)] : List (Str × V)) := by
  unfold putF; rw [if_neg (by decide)]; rfl
theorem put3 (x y z : V) : putF "lots" z [("hands", x), ("seats", y)] = ([("hands", x), ("seats", y), ("lots", z)] : List (Str × V)) := by
  unfold putF; rw [if_neg (by decide)]; unfold putF; rw [if_neg (by decide)]; rfl
theorem put4 (x y z u : V) : putF "hurdle" u [("hands", x), ("seats", y), ("lots", z)] = ([("hands", x), ("seats", y), ("lots", z), ("hurdle", u)] : List (Str × V)) := by
  unfold putF; rw [if_neg (by decide)]; unfold putF; rw [if_neg (by decide)]; unfold putF; rw [if_neg (by decide)]; rfl
theorem put5 (x y z u v : V) : putF "step" v [("hands", x), ("seats", y), ("lots", z), ("hurdle", u)] = ([("hands", x), ("seats", y), ("lots", z), ("hurdle", u), ("step", v)] : List (Str × V)) := by
  unfold putF; rw [if_neg (by decide)]; unfold putF; rw [if_neg (by decide)]; unfold putF; rw [if_neg (by decide)]; unfold putF; rw [if_neg (by decide)]; rfl
def spWayInit (K : PySem.W.Frag) : Sp := fun vs H Q _ => ∃ (a C dx l : Addr) (h s : Int) (ns : List Int), vs = [.ref a, .int h, .int s, .ref l] ∧ H a = some (.ins C dx []) ∧ Cls K C ∧ NoAttr K C "hands" ∧ NoAttr K C "seats" ∧ NoAttr K C "lots" ∧
  1 ≤ h ∧ h ≤ 12 ∧ 1 ≤ s ∧ s ≤ 60 ∧ H l = some (.lst (ns.map V.int)) ∧ ns.Perm (ups h.toNat) ∧
  ∀ (l' : Addr) (H' : Hp), l' ≠ a → H l' = none → Same (off H a) H' → H' a = some (.ins C dx (fsW h s l')) → H' l' = some (.lst (ns.map V.int)) → Q .non H'
def spListsInit (K : PySem.W.Frag) : Sp := fun vs H Q _ => ∃ (a C dx l t : Addr) (h s u v st : Int) (ns : List Int), vs = [.ref a, .int h, .int s, .ref l, .ref t, .int st] ∧ H a = some (.ins C dx []) ∧ Cls K C ∧ NoAttr K C "hands" ∧ NoAttr K C "seats" ∧ NoAttr K C "lots" ∧ NoAttr K C "hurdle" ∧ NoAttr K C "step" ∧
  1 ≤ h ∧ h ≤ 12 ∧ 1 ≤ s ∧ s ≤ 60 ∧ H l = some (.lst (ns.map V.int)) ∧ ns.Perm (ups h.toNat) ∧ H t = some (.tup [.int u, .int v]) ∧ 0 ≤ u ∧ u ≤ v ∧ gcdI u v = 1 ∧ 1 ≤ st ∧ st ≤ 9 ∧
  ∀ (l' : Addr) (H' : Hp), Same (off H a) H' → H' a = some (.ins C dx (fsL h s l' t st)) → H' l' = some (.lst (ns.map V.int)) → Q .non H'
def IsL (C : Addr) (H : Hp) (a : Addr) (h s st u v : Int) (ns : List Int) : Prop := ∃ dx l t, H a = some (.ins C dx (fsL h s l t st)) ∧ H l = some (.lst (ns.map V.int)) ∧ H t = some (.tup [.int u, .int v])
theorem IsL.same {C : Addr} {H H' : Hp} {a : Addr} {h s st u v : Int} {ns : List Int} (e : Same H H') (k : IsL C H a h s st u v ns) : IsL C H' a h s st u v ns := by
  obtain ⟨dx, l, t, k1, k2, k3⟩ := k
  exact ⟨dx, l, t, e _ _ k1, e _ _ k2, e _ _ k3⟩
def spLeast (C : Addr) : Sp := fun vs H Q _ => ∃ (a : Addr) (h s st u v : Int) (ns : List Int) (n : Int), vs = [.ref a, .int n] ∧ IsL C H a h s st u v ns ∧ 0 < v ∧ Sz 64 u ∧ Sz 64 v ∧ Sz 64 n ∧ Q (.int (max 1 (-((-(u * n)).fdiv v)))) H
def spMark (C : Addr) : Sp := fun vs H Q _ => ∃ (a : Addr) (h s st u v : Int) (ns : List Int) (n k : Int), vs = [.ref a, .int n, .int k] ∧ IsL C H a h s st u v ns ∧ 1 ≤ st ∧ st ≤ 9 ∧ 0 ≤ k ∧ Sz 64 n ∧ Sz 64 k ∧
  ∀ (p : Addr) (H' : Hp), Same H H' → H' p = some (.tup [.int (lowT n (1 + st * k)), .int (lowB n (1 + st * k))]) → Q (.ref p) H'
def spLots62 : Sp := fun vs H Q _ => ∃ c h : Int, vs = [.int c, .int h] ∧ Sz 200 c ∧ 1 ≤ h ∧ h ≤ 12 ∧ ∀ (l : Addr) (ns : List Int) (H' : Hp), Same H H' → H' l = some (.lst (ns.map V.int)) → ns.Perm (ups h.toNat) → Q (.ref l) H'
def spHurdle62 : Sp := fun vs H Q _ => ∃ c : Int, vs = [.int c] ∧ Sz 200 c ∧ ∀ (t : Addr) (u v : Int) (H' : Hp), Same H H' → H' t = some (.tup [.int u, .int v]) → 0 ≤ u → u ≤ v → gcdI u v = 1 → v ≤ 1000000000 → Q (.ref t) H'
def Told (H : Hp) (p : Addr) (s st u v : Int) (ns : List Int) : Prop := ∃ l t, H p = some (.tup [.int s, .ref l, .ref t, .int st]) ∧ H l = some (.lst (ns.map V.int)) ∧ H t = some (.tup [.int u, .int v])
def spWay62 (K : PySem.W.Frag) : Sp := fun vs H Q _ => ∃ (p : Addr) (xs : List Int) (h : Int), vs = [.ref p, .int h] ∧ SqL K H p (xs.map V.int) ∧ xs.length ≤ 63 ∧ 1 ≤ h ∧ h ≤ 12 ∧
  ∀ (r : Addr) (s st u v : Int) (ns : List Int) (H' : Hp), Same H H' → Told H' r s st u v ns → 1 ≤ s → s ≤ 24 → 1 ≤ st → st ≤ 9 → 0 ≤ u → u ≤ v → gcdI u v = 1 → v ≤ 1000000000 → ns.Perm (ups h.toNat) → Q (.ref r) H'
theorem low_split {t b : Int} (h : b ≠ 0) : ∃ d, d ≠ 0 ∧ t = lowT t b * d ∧ b = lowB t b * d ∧ d.natAbs = Int.gcd t b := by
  have n := byOf_ne (t := t) h
  obtain ⟨k, hk⟩ := byOf_dvd (x := t) (y := b)
  have d2 : byOf t b ∣ b := by
    have d : gcdI t b ∣ b := Int.gcd_dvd_right ..
    unfold byOf
    by_cases c : b < 0
    · rw [if_pos c]; exact Int.neg_dvd.mpr d
    · rw [if_neg c]; exact d
  obtain ⟨l, hl⟩ := d2
  refine ⟨byOf t b, n, ?_, ?_, ?_⟩
  · unfold lowT
    conv => rhs; arg 1; arg 1; rw [hk]
    rw [Int.mul_fdiv_cancel_left k n, Int.mul_comm]
    exact hk
  · unfold lowB
    conv => rhs; arg 1; arg 1; rw [hl]
    rw [Int.mul_fdiv_cancel_left l n, Int.mul_comm]
    exact hl
  · unfold byOf gcdI
    by_cases c : b < 0
    · rw [if_pos c, Int.natAbs_neg, Int.natAbs_natCast]
    · rw [if_neg c, Int.natAbs_natCast]
theorem low_gcd {t b : Int} (h : b ≠ 0) : gcdI (lowT t b) (lowB t b) = 1 := by
  obtain ⟨d, d0, e1, e2, e3⟩ := low_split (t := t) h
  generalize lowT t b = x at *
  generalize lowB t b = y at *
  rw [e1, e2, Int.gcd_mul_right] at e3
  have dp : 0 < d.natAbs := by omega
  have z : Int.gcd x y = 1 := by
    have f : Int.gcd x y * d.natAbs = 1 * d.natAbs := by rw [Nat.one_mul]; exact e3.symm
    exact Nat.eq_of_mul_eq_mul_right dp f
  unfold gcdI
  rw [z]
  rfl
theorem low_in {t b : Int} (t0 : 0 ≤ t) (tb : t ≤ b) (b0 : 0 < b) : 0 ≤ lowT t b ∧ lowT t b ≤ lowB t b ∧ lowB t b ≤ b := by
  obtain ⟨d, d0, e1, e2, _⟩ := low_split (t := t) (b := b) (by omega)
  have lb := lowB_pos (t := t) (b := b) (by omega)
  generalize lowT t b = x at e1 ⊢
  generalize lowB t b = y at e2 lb ⊢
  have dp : 0 < d := by
    rcases (by omega : 0 < d ∨ d ≤ 0) with h | h
    · exact h
    · have := Int.mul_nonpos_of_nonneg_of_nonpos (Int.le_of_lt lb) h
      omega
  refine ⟨?_, ?_, ?_⟩
  · rcases (by omega : 0 ≤ x ∨ x < 0) with h | h
    · exact h
    · have := Int.mul_neg_of_neg_of_pos h dp
      omega
  · refine Int.le_of_mul_le_mul_right ?_ dp
    omega
  · have := Int.mul_le_mul_of_nonneg_left (show 1 ≤ d by omega) (Int.le_of_lt lb)
    omega
theorem low_pos {v d : Int} (h : 0 < d) : ∃ g, 0 < g ∧ v = lowT v d * g ∧ d = lowB v d * g := by
  obtain ⟨g, g0, e1, e2, _⟩ := low_split (t := v) (b := d) (by omega)
  have lb := lowB_pos (t := v) (b := d) (by omega)
  refine ⟨g, ?_, e1, e2⟩
  rcases (by omega : 0 < g ∨ g ≤ 0) with h' | h'
  · exact h'
  · have := Int.mul_nonpos_of_nonneg_of_nonpos (Int.le_of_lt lb) h'
    omega
theorem low_cross {v1 d1 v2 d2 : Int} (h1 : 0 < d1) (h2 : 0 < d2) : decide (lowT v1 d1 * lowB v2 d2 < lowT v2 d2 * lowB v1 d1) = decide (v1 * d2 < v2 * d1) := by
  obtain ⟨g, g0, e1, e2⟩ := low_pos (v := v1) h1
  obtain ⟨k, k0, e3, e4⟩ := low_pos (v := v2) h2
  generalize lowT v1 d1 = a at e1 ⊢
  generalize lowB v1 d1 = b at e2 ⊢
  generalize lowT v2 d2 = c at e3 ⊢
  generalize lowB v2 d2 = e at e4 ⊢
  subst e1 e2 e3 e4
  have gk : 0 < g * k := Int.mul_pos g0 k0
  have x1 : a * g * (e * k) = a * e * (g * k) := by ac_rfl
  have x2 : c * k * (b * g) = c * b * (g * k) := by ac_rfl
  rw [x1, x2]
  refine decide_eq_decide.mpr ⟨fun h => Int.mul_lt_mul_of_pos_right h gk, fun h => Int.lt_of_mul_lt_mul_right h (Int.le_of_lt gk)⟩
theorem low_sz {v d : Int} (h : 0 < d) : -(if v < 0 then -v else v) ≤ lowT v d ∧ lowT v d ≤ (if v < 0 then -v else v) ∧ 0 < lowB v d ∧ lowB v d ≤ d := by
  obtain ⟨g, g0, e1, e2⟩ := low_pos (v := v) h
  have lb := lowB_pos (t := v) (b := d) (by omega)
  generalize lowT v d = a at e1 ⊢
  generalize lowB v d = b at e2 lb ⊢
  refine ⟨?_, ?_, lb, ?_⟩
  · rcases (by omega : 0 ≤ a ∨ a < 0) with c | c
    · split <;> omega
    · have := Int.mul_le_mul_of_nonpos_left (Int.le_of_lt c) (show 1 ≤ g by omega)
      split <;> omega
  · rcases (by omega : 0 ≤ a ∨ a < 0) with c | c
    · have := Int.mul_le_mul_of_nonneg_left (show 1 ≤ g by omega) c
      split <;> omega
    · split <;> omega
  · have := Int.mul_le_mul_of_nonneg_left (show 1 ≤ g by omega) (Int.le_of_lt lb)
    omega
def undB (vs had : List Int) (st b x : Int) : Bool := decide (vs.getD b.toNat 0 * (1 + st * had.getD x.toNat 0) < vs.getD x.toNat 0 * (1 + st * had.getD b.toNat 0))
def takers (vs ns : List Int) (l : Int) : List Int := ns.filter fun i => decide (l ≤ vs.getD i.toNat 0)
def bestOf (vs had : List Int) (st b : Int) (xs : List Int) : Int := xs.foldl (fun b x => if undB vs had st b x = true then x else b) b
def pick (vs ns had : List Int) (l st : Int) : Int := match takers vs ns l with
  | [] => 0
  | b :: r => bestOf vs had st b (b :: r)
def bump (xs : List Int) (i : Int) : List Int := xs.set i.toNat (xs.getD i.toNat 0 + 1)
def hadAt (vs ns : List Int) (l st : Int) (h : Nat) : Nat → List Int
  | 0 => List.replicate h 0
  | k + 1 => bump (hadAt vs ns l st h k) (pick vs ns (hadAt vs ns l st h k) l st)
def picks (vs ns : List Int) (l st : Int) (h k : Nat) : List Int := (List.range k).map fun i => pick vs ns (hadAt vs ns l st h i) l st
theorem bestOf_mem (vs had : List Int) (st : Int) : ∀ (xs : List Int) (b : Int), bestOf vs had st b xs = b ∨ bestOf vs had st b xs ∈ xs
  | [], b => .inl rfl
  | x :: xs, b => by
    show bestOf vs had st (if undB vs had st b x = true then x else b) xs = b ∨ _
    have ih := bestOf_mem vs had st xs (if undB vs had st b x = true then x else b)
    rcases ih with e | e
    · by_cases c : undB vs had st b x = true
      · rw [if_pos c] at e
        refine .inr ?_
        show bestOf vs had st (if undB vs had st b x = true then x else b) xs ∈ x :: xs
        rw [if_pos c, e]
        exact List.mem_cons_self ..
      · rw [if_neg c] at e ⊢
        exact .inl e
    · exact .inr (List.mem_cons_of_mem _ e)
theorem pick_mem {vs ns had : List Int} {l st : Int} (h : takers vs ns l ≠ []) : pick vs ns had l st ∈ takers vs ns l := by
  unfold pick
  split
  · rename_i e; exact absurd e h
  · rename_i b r e
    rw [e]
    rcases bestOf_mem vs had st (b :: r) b with z | z
    · rw [z]; exact List.mem_cons_self ..
    · exact z
theorem bump_len (xs : List Int) (i : Int) : (bump xs i).length = xs.length := List.length_set ..
theorem hadAt_len (vs ns : List Int) (l st : Int) (h : Nat) : ∀ k, (hadAt vs ns l st h k).length = h
  | 0 => List.length_replicate ..
  | k + 1 => by
    show (bump _ _).length = h
    rw [bump_len]
    exact hadAt_len vs ns l st h k
theorem picks_succ (vs ns : List Int) (l st : Int) (h k : Nat) : picks vs ns l st h (k + 1) = picks vs ns l st h k ++ [pick vs ns (hadAt vs ns l st h k) l st] := by
  unfold picks
  rw [List.range_succ, List.map_append]
  rfl
theorem picks_len (vs ns : List Int) (l st : Int) (h k : Nat) : (picks vs ns l st h k).length = k := by
  unfold picks
  rw [List.length_map, List.length_range]
theorem getD_set {xs : List Int} {i j : Nat} {v : Int} (h : i < xs.length) : (xs.set i v).getD j 0 = if i = j then v else xs.getD j 0 := by
  rw [List.getD_eq_getElem?_getD, List.getD_eq_getElem?_getD, List.getElem?_set]
  by_cases c : i = j
  · rw [if_pos c, if_pos c, if_pos (by omega)]; rfl
  · rw [if_neg c, if_neg c]
theorem had_count {vs ns : List Int} {l st : Int} {h : Nat} (ih : ∀ k, 0 ≤ pick vs ns (hadAt vs ns l st h k) l st ∧ pick vs ns (hadAt vs ns l st h k) l st < h) : ∀ (k : Nat) (j : Nat), j < h → (hadAt vs ns l st h k).getD j 0 = ((picks vs ns l st h k).count (j : Int) : Nat)
  | 0, j, hj => by
    show (List.replicate h (0 : Int)).getD j 0 = _
    rw [List.getD_eq_getElem?_getD, List.getElem?_replicate, if_pos hj]
    rfl
  | k + 1, j, hj => by
    obtain ⟨p0, p1⟩ := ih k
    rw [picks_succ, List.count_append]
    show (bump _ _).getD j 0 = _
    unfold bump
    rw [getD_set (by rw [hadAt_len]; omega), had_count ih k j hj, had_count ih k _ (by omega)]
    generalize pick vs ns (hadAt vs ns l st h k) l st = p at p0 p1 ⊢
    have e : List.count (j : Int) [p] = if p = (j : Int) then 1 else 0 := by
      rw [List.count_singleton]
      by_cases c : p = (j : Int)
      · simp [c]
      · simp [c]
    rw [e]
    by_cases c : p = (j : Int)
    · have c2 : p.toNat = j := by omega
      rw [if_pos c, if_pos c2, c2]
      omega
    · have c2 : ¬ p.toNat = j := by omega
      rw [if_neg c, if_neg c2]
      omega
theorem had_pos {vs ns : List Int} {l st : Int} {h : Nat} (ih : ∀ k, 0 ≤ pick vs ns (hadAt vs ns l st h k) l st ∧ pick vs ns (hadAt vs ns l st h k) l st < h) (k j : Nat) : 0 ≤ (hadAt vs ns l st h k).getD j 0 ∧ (hadAt vs ns l st h k).getD j 0 ≤ k := by
  by_cases c : j < h
  · rw [had_count ih k j c]
    have := List.count_le_length (a := (j : Int)) (l := picks vs ns l st h k)
    rw [picks_len] at this
    omega
  · rw [List.getD_eq_getElem?_getD, List.getElem?_eq_none (by rw [hadAt_len]; omega)]
    exact ⟨Int.le_refl _, Int.natCast_nonneg _⟩
theorem takers_in {vs ns : List Int} {l p : Int} (m : p ∈ takers vs ns l) : p ∈ ns ∧ l ≤ vs.getD p.toNat 0 := by
  obtain ⟨m1, m2⟩ := List.mem_filter.mp m
  exact ⟨m1, of_decide_eq_true m2⟩
theorem takers_snoc (vs ns : List Int) (z l : Int) : takers vs (ns ++ [z]) l = takers vs ns l ++ (if l ≤ vs.getD z.toNat 0 then [z] else []) := by
  unfold takers
  rw [List.filter_append]
  by_cases c : l ≤ vs.getD z.toNat 0
  · rw [if_pos c, List.filter_cons_of_pos (by exact decide_eq_true c)]; rfl
  · rw [if_neg c, List.filter_cons_of_neg (by rw [decide_eq_false c]; exact Bool.false_ne_true)]; rfl
theorem ups_mem {n : Nat} {x : Int} : x ∈ ups n ↔ 0 ≤ x ∧ x < n := by
  unfold ups
  rw [List.mem_map]
  constructor
  · rintro ⟨i, m, rfl⟩
    have := List.mem_range.mp m
    omega
  · rintro ⟨h0, h1⟩
    exact ⟨x.toNat, List.mem_range.mpr (by omega), by omega⟩
theorem no_takers {vs ns : List Int} {l : Int} {n : Nat} (pm : ns.Perm (ups n)) : takers vs ns l = [] ↔ ∀ j < n, vs.getD j 0 < l := by
  unfold takers
  rw [List.filter_eq_nil_iff]
  constructor
  · intro h j hj
    have := h (j : Int) (pm.mem_iff.mpr (ups_mem.mpr ⟨by omega, by omega⟩))
    rw [Int.toNat_natCast] at this
    have := of_decide_eq_false (by simpa using this : decide (l ≤ vs.getD j 0) = false)
    omega
  · intro h x m
    obtain ⟨x0, x1⟩ := ups_mem.mp (pm.mem_iff.mp m)
    have := h x.toNat (by omega)
    rw [decide_eq_false (by omega)]
    decide
theorem had_eq {vs ns : List Int} {l st : Int} {h : Nat} (ih : ∀ k, 0 ≤ pick vs ns (hadAt vs ns l st h k) l st ∧ pick vs ns (hadAt vs ns l st h k) l st < h) (k : Nat) : ((List.range h).map fun j : Nat => (((picks vs ns l st h k).count (j : Int) : Nat) : Int)) = hadAt vs ns l st h k := by
  refine List.ext_getElem? fun j => ?_
  rw [List.getElem?_map]
  by_cases c : j < h
  · rw [List.getElem?_range c]
    have e := had_count ih k j c
    rw [List.getD_eq_getElem?_getD] at e
    have hl : j < (hadAt vs ns l st h k).length := by rw [hadAt_len]; exact c
    rw [List.getElem?_eq_getElem hl] at e ⊢
    exact congrArg some e.symm
  · rw [List.getElem?_eq_none (by rw [List.length_range]; omega), List.getElem?_eq_none (by rw [hadAt_len]; omega)]
    rfl
theorem had_zero {vs ns : List Int} {l st : Int} {h : Nat} : ((List.range h).map fun j : Nat => (((picks vs ns l st h 0).count (j : Int) : Nat) : Int)) = hadAt vs ns l st h 0 := by
  show _ = List.replicate h 0
  refine List.eq_replicate_iff.mpr ⟨by rw [List.length_map, List.length_range], fun b m => ?_⟩
  obtain ⟨j, _, rfl⟩ := List.mem_map.mp m
  rfl
def MarkAt (H : Hp) (ys : List V) (vs had : List Int) (l st : Int) (j : Nat) : Prop := (vs.getD j 0 < l ∧ ys[j]? = some .non) ∨
  (l ≤ vs.getD j 0 ∧ ∃ p, ys[j]? = some (.ref p) ∧ H p = some (.tup [.int (lowT (vs.getD j 0) (1 + st * had.getD j 0)), .int (lowB (vs.getD j 0) (1 + st * had.getD j 0))]))
theorem MarkAt.push {H H' : Hp} {ys : List V} {y : V} {vs had : List Int} {l st : Int} {j : Nat} (keep : ∀ p xs, H p = some (.tup xs) → H' p = some (.tup xs)) (hj : j < ys.length) (m : MarkAt H ys vs had l st j) : MarkAt H' (ys ++ [y]) vs had l st j := by
  unfold MarkAt at m ⊢
  rw [List.getElem?_append_left hj]
  exact m.imp id fun ⟨z, p, k1, k2⟩ => ⟨z, p, k1, keep _ _ k2⟩
def Marks (H : Hp) (a : Addr) (vs had : List Int) (l st : Int) (h : Nat) : Prop := ∃ ys : List V, H a = some (.lst ys) ∧ ys.length = h ∧ ∀ j < h, MarkAt H ys vs had l st j
theorem Marks.same {H H' : Hp} {a : Addr} {vs had : List Int} {l st : Int} {h : Nat} (e : Same H H') (m : Marks H a vs had l st h) : Marks H' a vs had l st h := by
  obtain ⟨ys, m1, m2, m3⟩ := m
  exact ⟨ys, e _ _ m1, m2, fun j hj => (m3 j hj).imp id fun ⟨z, p, k1, k2⟩ => ⟨z, p, k1, e _ _ k2⟩⟩
theorem Marks.upd {H : Hp} {a D : Addr} {o : HO} {zs : List V} {vs had : List Int} {l st : Int} {h : Nat} (e : H D = some (.lst zs)) (n : a ≠ D) (m : Marks H a vs had l st h) : Marks (L2.upd H D o) a vs had l st h := by
  obtain ⟨ys, m1, m2, m3⟩ := m
  refine ⟨ys, by rw [upd_ne n]; exact m1, m2, fun j hj => (m3 j hj).imp id fun ⟨z, p, k1, k2⟩ => ⟨z, p, k1, ?_⟩⟩
  rw [upd_ne (ne_of k2 e (fun z => nomatch z))]
  exact k2
def Rounds (H : Hp) (r : Addr) (vs ns : List Int) (l st : Int) (h k : Nat) : Prop := ∃ ms : List (Addr × Addr), H r = some (.lst (ms.map fun q => V.ref q.1)) ∧ ms.length = k ∧
  ∀ i q, ms[i]? = some q → H q.1 = some (.tup [.ref q.2, .int (pick vs ns (hadAt vs ns l st h i) l st)]) ∧ Marks H q.2 vs (hadAt vs ns l st h i) l st h
theorem Rounds.same {H H' : Hp} {r : Addr} {vs ns : List Int} {l st : Int} {h k : Nat} (e : Same H H') (m : Rounds H r vs ns l st h k) : Rounds H' r vs ns l st h k := by
  obtain ⟨ms, m1, m2, m3⟩ := m
  exact ⟨ms, e _ _ m1, m2, fun i q hq => ⟨e _ _ (m3 i q hq).1, (m3 i q hq).2.same e⟩⟩
def many (vs ns : List Int) (l : Int) (s : Nat) : Nat := if takers vs ns l = [] then 0 else s
def Paper (H : Hp) (p : Addr) (vs ns : List Int) (l st : Int) (h s : Nat) : Prop := ∃ v r, H p = some (.tup [.ref v, .int l, .ref r]) ∧ H v = some (.lst (vs.map V.int)) ∧ Rounds H r vs ns l st h (many vs ns l s)
theorem Paper.same {H H' : Hp} {p : Addr} {vs ns : List Int} {l st : Int} {h s : Nat} (e : Same H H') (m : Paper H p vs ns l st h s) : Paper H' p vs ns l st h s := by
  obtain ⟨v, r, m1, m2, m3⟩ := m
  exact ⟨v, r, e _ _ m1, e _ _ m2, m3.same e⟩
structure Sane (vs ns : List Int) (l st : Int) (h s : Nat) : Prop where
  perm : ns.Perm (ups h)
  len : vs.length = h + 1
  h1 : 1 ≤ h
  h12 : h ≤ 12
  s1 : 1 ≤ s
  s60 : s ≤ 60
  st1 : 1 ≤ st
  st9 : st ≤ 9
  l1 : 1 ≤ l
  big : ∀ j, 0 ≤ vs.getD j 0 ∧ vs.getD j 0 < 10 ^ 18
theorem Sane.pk {vs ns : List Int} {l st : Int} {h s : Nat} (S : Sane vs ns l st h s) (ne : takers vs ns l ≠ []) (k : Nat) : 0 ≤ pick vs ns (hadAt vs ns l st h k) l st ∧ pick vs ns (hadAt vs ns l st h k) l st < h := ups_mem.mp (S.perm.mem_iff.mp (takers_in (pick_mem ne)).1)
def spMON (C : Addr) : Sp := fun vs H Q _ => ∃ (a : Addr) (h s st u v : Int) (ns : List Int) (n l k : Int), vs = [.ref a, .int n, .int l, .int k] ∧ IsL C H a h s st u v ns ∧ 1 ≤ st ∧ st ≤ 9 ∧ 0 ≤ k ∧ Sz 64 n ∧ Sz 64 k ∧ (n < l → Q .non H) ∧
  (l ≤ n → ∀ (p : Addr) (H' : Hp), Same H H' → H' p = some (.tup [.int (lowT n (1 + st * k)), .int (lowB n (1 + st * k))]) → Q (.ref p) H')
def spMarksOf (C : Addr) : Sp := fun vs H Q _ => ∃ (a b d : Addr) (h s : Nat) (st u v : Int) (ns xs had : List Int) (l : Int), vs = [.ref a, .ref b, .int l, .ref d] ∧ IsL C H a h s st u v ns ∧ Sane xs ns l st h s ∧ H b = some (.lst (xs.map V.int)) ∧ H d = some (.lst (had.map V.int)) ∧ had.length = h ∧ (∀ j, 0 ≤ had.getD j 0 ∧ had.getD j 0 ≤ 60) ∧
  ∀ (m : Addr) (H' : Hp), H m = none → Same H H' → Marks H' m xs had l st h → Q (.ref m) H'
def spGreatest (C : Addr) : Sp := fun vs H Q _ => ∃ (a m : Addr) (h s : Nat) (st u v : Int) (ns xs had : List Int) (l : Int), vs = [.ref a, .ref m] ∧ IsL C H a h s st u v ns ∧ Sane xs ns l st h s ∧ Marks H m xs had l st h ∧ (∀ j, 0 ≤ had.getD j 0 ∧ had.getD j 0 ≤ 60) ∧ takers xs ns l ≠ [] ∧
  ∀ H' : Hp, Same H H' → Q (.int (pick xs ns had l st)) H'
def spRounds (C : Addr) : Sp := fun vs H Q _ => ∃ (a b : Addr) (h s : Nat) (st u v : Int) (ns xs : List Int) (l : Int), vs = [.ref a, .ref b, .int l] ∧ IsL C H a h s st u v ns ∧ Sane xs ns l st h s ∧ H b = some (.lst (xs.map V.int)) ∧ takers xs ns l ≠ [] ∧
  ∀ (r : Addr) (H' : Hp), H r = none → Same H H' → Rounds H' r xs ns l st h s → Q (.ref r) H'
def spToldBy (C : Addr) : Sp := fun vs H Q _ => ∃ (a p : Addr) (h s : Nat) (st u v : Int) (ns xs : List Int) (l : Int), vs = [.ref a, .ref p] ∧ IsL C H a h s st u v ns ∧ Sane xs ns l st h s ∧ Paper H p xs ns l st h s ∧
  ∀ (r : Addr) (H' : Hp), H r = none → Same H H' → H' r = some (.lst ((hadAt xs ns l st h (many xs ns l s)).map V.int)) → Q (.ref r) H'
def spUnder (K : PySem.W.Frag) : Sp := fun vs H Q _ => ∃ (p r : Addr) (t b u c : Int), vs = [.ref p, .ref r] ∧ SqT K H p [.int t, .int b] ∧ SqT K H r [.int u, .int c] ∧ Sz 2000 t ∧ Sz 2000 b ∧ Sz 2000 u ∧ Sz 2000 c ∧ Q (.bl (decide (t * c < u * b))) H
def spNumberN : Sp := fun vs H Q _ => ∃ c k m : Int, vs = [.int c, .int k, .int m] ∧ Sz 200 c ∧ 0 ≤ k ∧ k ≤ 100 ∧ 0 ≤ m ∧ m < 4 ∧ ∀ (z : Int) (H' : Hp), Same H H' → 1 ≤ z → z ≤ 1000000000 → Q (.int z) H'
def LowK (B : Int) (kvs : List (List Key × V)) : Prop := ∀ q ∈ kvs, ∀ n : Int, q.2 = .int n → 0 ≤ n ∧ n ≤ B
theorem LowK.put {B B' : Int} {kvs : List (List Key × V)} {k : List Key} {n : Int} (g : LowK B kvs) (h : B ≤ B') (n0 : 0 ≤ n) (n1 : n ≤ B') : LowK B' (putK kvs k (.int n)) := by
  intro q m z e
  unfold putK at m
  split at m
  · obtain ⟨p, pm, rfl⟩ := List.mem_map.mp m
    split at e
    · cases e; exact ⟨n0, n1⟩
    · have := g p pm z e
      omega
  · rcases List.mem_append.mp m with m | m
    · have := g q m z e
      omega
    · rw [List.mem_singleton.mp m] at e
      cases e
      exact ⟨n0, n1⟩
theorem LowK.val {B : Int} {kvs : List (List Key × V)} {k : List Key} {n : Int} (g : LowK B kvs) (e : valV kvs k = some (.int n)) : 0 ≤ n ∧ n ≤ B := by
  unfold valV at e
  obtain ⟨q, hq, e⟩ := Option.map_eq_some_iff.mp e
  exact g q (List.mem_of_find?_eq_some hq) n e
def NumS (ls : Ls) : Prop := ∀ q ∈ ls, 0 ≤ q.2.2.2 ∧ q.2.2.2 ≤ 60000000000
def NumL (ls : Ls) : Prop := ∀ q ∈ ls, 0 ≤ q.2.2.2 ∧ q.2.2.2 ≤ 3700000000000
theorem NumS.l {ls : Ls} (n : NumS ls) : NumL ls := fun q m => ⟨(n q m).1, by have := (n q m).2; omega⟩
def spSheetN (K : PySem.W.Frag) : Sp := fun vs H Q _ => ∃ (p : Addr) (ns : List Int) (k h : Int), vs = [.ref p, .int k, .int h] ∧ SqL K H p (ns.map V.int) ∧ ns.length ≤ 63 ∧ k = 3 ∧ 1 ≤ h ∧ h ≤ 12 ∧
  ∀ (l : Addr) (ls : Ls) (H' : Hp), Same H H' → H' l = some (.lst (vls ls)) → GoodL h.toNat H' ls → ls.length ≤ 60 → NumS ls → Q (.ref l) H'
def total (ls : Ls) : Int := (ls.map fun q => q.2.2.2).sum
theorem pos_tally {h : Nat} : ∀ {ls : Ls} {vs : List Int}, NumL ls → (∀ v ∈ vs, 0 ≤ v) → ∀ v ∈ ls.foldl (addV h) vs, 0 ≤ v
  | [], _, _, p => p
  | q :: r, vs, n, p => by
    refine pos_tally (ls := r) (fun x m => n x (List.mem_cons_of_mem _ m)) fun v m => ?_
    unfold addV at m
    rcases List.mem_or_eq_of_mem_set m with m | m
    · exact p v m
    · rw [m]
      have a := (n q (List.mem_cons_self ..)).1
      have b : 0 ≤ vs.getD (pl h q.2.2.1) 0 := by
        rw [List.getD_eq_getElem?_getD]
        cases e : vs[pl h q.2.2.1]? with
        | none => exact Int.le_refl _
        | some z => exact p z (List.mem_of_getElem? e)
      omega
theorem le_sum : ∀ {vs : List Int}, (∀ v ∈ vs, 0 ≤ v) → ∀ v ∈ vs, v ≤ vs.sum
  | x :: r, p, v, m => by
    have s : 0 ≤ r.sum := by
      have : ∀ {l : List Int}, (∀ v ∈ l, 0 ≤ v) → 0 ≤ l.sum := by
        intro l
        induction l with
        | nil => intro _; exact Int.le_refl _
        | cons y l ih => intro k; rw [List.sum_cons]; have := k y (List.mem_cons_self ..); have := ih fun z m => k z (List.mem_cons_of_mem _ m); omega
      exact this fun z m => p z (List.mem_cons_of_mem _ m)
    rw [List.sum_cons]
    rcases List.mem_cons.mp m with m | m
    · omega
    · have := le_sum (fun z m => p z (List.mem_cons_of_mem _ m)) v m
      have := p x (List.mem_cons_self ..)
      omega
theorem total_le : ∀ {ls : Ls}, NumL ls → 0 ≤ total ls ∧ total ls ≤ 3700000000000 * (ls.length : Int)
  | [], _ => ⟨Int.le_refl _, Int.le_refl _⟩
  | q :: r, n => by
    have ih := total_le (ls := r) fun x m => n x (List.mem_cons_of_mem _ m)
    have a := n q (List.mem_cons_self ..)
    unfold total at ih ⊢
    rw [List.map_cons, List.sum_cons, List.length_cons]
    push_cast
    omega
theorem tally_in {h : Nat} {ls : Ls} (n : NumL ls) (l60 : ls.length ≤ 61) (j : Nat) : 0 ≤ (tally h ls).getD j 0 ∧ (tally h ls).getD j 0 < 10 ^ 18 := by
  have p : ∀ v ∈ tally h ls, 0 ≤ v := pos_tally n fun v m => by rw [(List.mem_replicate.mp m).2]; exact Int.le_refl _
  have t := total_le n
  have s : (tally h ls).sum = total ls := sum_tally h ls
  rw [List.getD_eq_getElem?_getD]
  cases e : (tally h ls)[j]? with
  | none => exact ⟨Int.le_refl _, by decide⟩
  | some z =>
    have a := p z (List.mem_of_getElem? e)
    have b := le_sum p z (List.mem_of_getElem? e)
    refine ⟨a, ?_⟩
    show z < 10 ^ 18
    omega
def leastOf (u v : Int) (ls : Ls) : Int := max 1 (-((-(u * total ls)).fdiv v))
theorem sane_of {ns : List Int} {ls : Ls} {h s : Nat} {u v st : Int} (pm : ns.Perm (ups h)) (h1 : 1 ≤ h) (h12 : h ≤ 12) (s1 : 1 ≤ s) (s60 : s ≤ 60) (st1 : 1 ≤ st) (st9 : st ≤ 9) (n : NumL ls) (l60 : ls.length ≤ 61) : Sane (tally h ls) ns (leastOf u v ls) st h s :=
  ⟨pm, tally_len h ls, h1, h12, s1, s60, st1, st9, Int.le_max_left .., tally_in n l60⟩
structure Made (C : Addr) (H : Hp) (a : Addr) (h s : Nat) (st u v : Int) (ns : List Int) : Prop where
  is : IsL C H a h s st u v ns
  pm : ns.Perm (ups h)
  h1 : 1 ≤ h
  h12 : h ≤ 12
  s1 : 1 ≤ s
  s60 : s ≤ 60
  st1 : 1 ≤ st
  st9 : st ≤ 9
  u0 : 0 ≤ u
  uv : u ≤ v
  v0 : 0 < v
  v9 : v ≤ 1000000000
theorem Made.same {C : Addr} {H H' : Hp} {a : Addr} {h s : Nat} {st u v : Int} {ns : List Int} (e : Same H H') (m : Made C H a h s st u v ns) : Made C H' a h s st u v ns :=
  ⟨m.is.same e, m.pm, m.h1, m.h12, m.s1, m.s60, m.st1, m.st9, m.u0, m.uv, m.v0, m.v9⟩
theorem Made.sane {C : Addr} {H : Hp} {a : Addr} {h s : Nat} {st u v : Int} {ns : List Int} (m : Made C H a h s st u v ns) {ls : Ls} (n : NumL ls) (l60 : ls.length ≤ 61) : Sane (tally h ls) ns (leastOf u v ls) st h s := sane_of m.pm m.h1 m.h12 m.s1 m.s60 m.st1 m.st9 n l60
def spBallots4 : Sp := fun vs H Q _ => ∃ (l : Addr) (ls : Ls) (h : Nat), vs = [.ref l] ∧ H l = some (.lst (vls ls)) ∧ GoodL h H ls ∧ ls.length ≤ 61 ∧ ∀ H' : Hp, Same H H' → Q (.int (total ls)) H'
def spCountedL (C : Addr) : Sp := fun vs H Q _ => ∃ (a l : Addr) (h s : Nat) (st u v : Int) (ns : List Int) (ls : Ls), vs = [.ref a, .ref l] ∧ Made C H a h s st u v ns ∧ H l = some (.lst (vls ls)) ∧ GoodL h H ls ∧ ls.length ≤ 61 ∧ NumL ls ∧
  ∀ (p : Addr) (H' : Hp), H p = none → Same H H' → Paper H' p (tally h ls) ns (leastOf u v ls) st h s → Q (.ref p) H'
def outOf (ls : Ls) (ns : List Int) (u v st : Int) (h s : Nat) : List Int := hadAt (tally h ls) ns (leastOf u v ls) st h (many (tally h ls) ns (leastOf u v ls) s)
def spOutcome (C : Addr) : Sp := fun vs H Q _ => ∃ (a l : Addr) (h s : Nat) (st u v : Int) (ns : List Int) (ls : Ls), vs = [.ref a, .ref l] ∧ Made C H a h s st u v ns ∧ H l = some (.lst (vls ls)) ∧ GoodL h H ls ∧ ls.length ≤ 61 ∧ NumL ls ∧
  ∀ (r : Addr) (H' : Hp), H r = none → Same H H' → H' r = some (.lst ((outOf ls ns u v st h s).map V.int)) → Q (.ref r) H'
theorem reps_of {K : PySem.W.Frag} {H : Hp} : ∀ {xs : List V} {ds : List PyData}, xs.length = ds.length → (∀ (i : Nat) (x : V) (d : PyData), xs[i]? = some x → ds[i]? = some d → Rep K H x d) → Reps K H xs ds
  | [], [], _, _ => .nil
  | x :: xs, d :: ds, l, r => .cons (r 0 x d rfl rfl) (reps_of (by rw [List.length_cons, List.length_cons] at l; omega) fun i => r (i + 1))
def markD (vs had : List Int) (l st : Int) (j : Nat) : PyData := if vs.getD j 0 < l then .none else .tuple [.int (lowT (vs.getD j 0) (1 + st * had.getD j 0)), .int (lowB (vs.getD j 0) (1 + st * had.getD j 0))]
def roundD (vs ns : List Int) (l st : Int) (h i : Nat) : PyData := .tuple [.list ((List.range h).map (markD vs (hadAt vs ns l st h i) l st)), .int (pick vs ns (hadAt vs ns l st h i) l st)]
theorem Marks.rep {K : PySem.W.Frag} {H : Hp} {a : Addr} {vs had : List Int} {l st : Int} {h : Nat} (m : Marks H a vs had l st h) : Rep K H (.ref a) (.list ((List.range h).map (markD vs had l st))) := by
  obtain ⟨ys, m1, m2, m3⟩ := m
  refine .lst (SqL.of m1) (reps_of (by rw [List.length_map, List.length_range, m2]) fun i x d hx hd => ?_)
  have hi : i < h := by have := (List.getElem?_eq_some_iff.mp hx).1; omega
  rw [List.getElem?_map, List.getElem?_range hi] at hd
  cases Option.some.inj hd
  unfold markD
  rcases m3 i hi with ⟨c, e⟩ | ⟨c, p, e1, e2⟩
  · rw [e] at hx
    cases Option.some.inj hx
    rw [if_pos c]
    exact .non
  · rw [e1] at hx
    cases Option.some.inj hx
    rw [if_neg (by omega)]
    exact .tup (SqT.of e2) (.cons (.int _) (.cons (.int _) .nil))
theorem Rounds.rep {K : PySem.W.Frag} {H : Hp} {r : Addr} {vs ns : List Int} {l st : Int} {h k : Nat} (m : Rounds H r vs ns l st h k) : Rep K H (.ref r) (.list ((List.range k).map (roundD vs ns l st h))) := by
  obtain ⟨ms, m1, m2, m3⟩ := m
  refine .lst (SqL.of m1) (reps_of (by rw [List.length_map, List.length_map, List.length_range, m2]) fun i x d hx hd => ?_)
  rw [List.getElem?_map] at hx
  obtain ⟨q, hq, rfl⟩ := Option.map_eq_some_iff.mp hx
  have hi : i < k := by have := (List.getElem?_eq_some_iff.mp hq).1; omega
  rw [List.getElem?_map, List.getElem?_range hi] at hd
  cases Option.some.inj hd
  obtain ⟨e1, e2⟩ := m3 i q hq
  exact .tup (SqT.of e1) (.cons e2.rep (.cons (.int _) .nil))
theorem lay_marks (vs had : List Int) (l st : Int) : ∀ js : List Nat, PyData.canLayAll0 (js.map (markD vs had l st)) = true ∧ PyData.depthAll (js.map (markD vs had l st)) ≤ 1 ∧ PyData.eqvAll (js.map (markD vs had l st)) (js.map (markD vs had l st)) = true
  | [] => ⟨rfl, Nat.zero_le _, rfl⟩
  | j :: r => by
    obtain ⟨h1, h2, h3⟩ := lay_marks vs had l st r
    rw [List.map_cons]
    unfold markD
    split
    · refine ⟨?_, ?_, ?_⟩
      · show (true && _) = true
        rw [Bool.true_and]; exact h1
      · show max 0 _ ≤ 1
        exact Nat.max_le.mpr ⟨by decide, h2⟩
      · show (true && _) = true
        rw [Bool.true_and]; exact h3
    · refine ⟨?_, ?_, ?_⟩
      · show (true && _) = true
        rw [Bool.true_and]; exact h1
      · show max (max 0 (max 0 0) + 1) _ ≤ 1
        exact Nat.max_le.mpr ⟨by decide, h2⟩
      · show (((_ == _) && ((_ == _) && true)) && _) = true
        rw [beq_self_eq_true, beq_self_eq_true]
        exact h3
theorem lay_rounds (vs ns : List Int) (l st : Int) (h : Nat) : ∀ js : List Nat, PyData.canLayAll0 (js.map (roundD vs ns l st h)) = true ∧ PyData.depthAll (js.map (roundD vs ns l st h)) ≤ 3 ∧ PyData.eqvAll (js.map (roundD vs ns l st h)) (js.map (roundD vs ns l st h)) = true
  | [] => ⟨rfl, Nat.zero_le _, rfl⟩
  | j :: r => by
    obtain ⟨h1, h2, h3⟩ := lay_rounds vs ns l st h r
    obtain ⟨k1, k2, k3⟩ := lay_marks vs (hadAt vs ns l st h j) l st (List.range h)
    rw [List.map_cons]
    refine ⟨?_, ?_, ?_⟩
    · show ((PyData.canLayAll0 ((List.range h).map (markD vs (hadAt vs ns l st h j) l st)) && (true && true)) && _) = true
      rw [k1, h1]; rfl
    · show max (max (PyData.depthAll ((List.range h).map (markD vs (hadAt vs ns l st h j) l st)) + 1) (max 0 0) + 1) _ ≤ 3
      exact Nat.max_le.mpr ⟨by omega, h2⟩
    · show ((PyData.eqvAll ((List.range h).map (markD vs (hadAt vs ns l st h j) l st)) _ && ((_ == _) && true)) && _) = true
      rw [k3, beq_self_eq_true, h3]; rfl
theorem seqAt {n j : Nat} (h : j < n) : seqIndex? (j : Int) n = some j := (ixN_seq (i := (j : Int)) (by unfold ixN; rw [if_pos (by omega)]; simp [h])).1
theorem map_erase {α β : Type} (f : α → β) : ∀ (l : List α) (k : Nat), (l.map f).eraseIdx k = (l.eraseIdx k).map f
  | [], _ => rfl
  | _ :: _, 0 => rfl
  | x :: l, k + 1 => by
    show f x :: (l.map f).eraseIdx k = f x :: (l.eraseIdx k).map f
    rw [map_erase f l k]
def paperD (vs ns : List Int) (l st : Int) (h s : Nat) : PyData := .tuple [.list (vs.map .int), .int l, .list ((List.range (many vs ns l s)).map (roundD vs ns l st h))]
theorem Paper.rep {K : PySem.W.Frag} {H : Hp} {p : Addr} {vs ns : List Int} {l st : Int} {h s : Nat} (m : Paper H p vs ns l st h s) : Rep K H (.ref p) (paperD vs ns l st h s) := by
  obtain ⟨v, r, m1, m2, m3⟩ := m
  exact .tup (SqT.of m1) (.cons (.lst (SqL.of m2) (.ints _)) (.cons (.int _) (.cons m3.rep .nil)))
abbrev Mrk := Option (Addr × Int × Int)
def mv : Mrk → V
  | none => .non
  | some q => .ref q.1
def mD : Mrk → PyData
  | none => .none
  | some q => .tuple [.int q.2.1, .int q.2.2]
def MkG (H : Hp) (m : Mrk) : Prop := ∀ q, m = some q → H q.1 = some (.tup [.int q.2.1, .int q.2.2])
theorem MkG.same {H H' : Hp} {m : Mrk} (e : Same H H') (g : MkG H m) : MkG H' m := fun q h => e _ _ (g q h)
abbrev Rd := Addr × Addr × List Mrk × Int
def rv (rs : List Rd) : List V := rs.map fun q => .ref q.1
def rD (q : Rd) : PyData := .tuple [.list (q.2.2.1.map mD), .int q.2.2.2]
structure RdG (H : Hp) (q : Rd) : Prop where
  t : H q.1 = some (.tup [.ref q.2.1, .int q.2.2.2])
  l : H q.2.1 = some (.lst (q.2.2.1.map mv))
  m : ∀ m ∈ q.2.2.1, MkG H m
theorem RdG.same {H H' : Hp} {q : Rd} (e : Same H H') (g : RdG H q) : RdG H' q := ⟨e _ _ g.t, e _ _ g.l, fun m k => (g.m m k).same e⟩
theorem RdG.upd {H : Hp} {q : Rd} {a : Addr} {xs : List V} {o : HO} (g : RdG H q) (e : H a = some (.lst xs)) (ne : q.2.1 ≠ a) : RdG (upd H a o) q := by
  have k : ∀ {b : Addr} {us : List V}, H b = some (.tup us) → (L2.upd H a o) b = some (.tup us) := fun {b us} h => by rw [upd_ne (ne_of h e (fun z => nomatch z))]; exact h
  exact ⟨k g.t, by rw [upd_ne ne]; exact g.l, fun m mm q h => k (g.m m mm q h)⟩
theorem lay_mD : ∀ ms : List Mrk, PyData.canLayAll0 (ms.map mD) = true ∧ PyData.depthAll (ms.map mD) ≤ 1
  | [] => ⟨rfl, Nat.zero_le _⟩
  | none :: r => by
    obtain ⟨a, b⟩ := lay_mD r
    exact ⟨by show (true && _) = true; rw [Bool.true_and]; exact a, by show max 0 _ ≤ 1; exact Nat.max_le.mpr ⟨by decide, b⟩⟩
  | some q :: r => by
    obtain ⟨a, b⟩ := lay_mD r
    exact ⟨by show (true && _) = true; rw [Bool.true_and]; exact a, by show max (max 0 (max 0 0) + 1) _ ≤ 1; exact Nat.max_le.mpr ⟨by decide, b⟩⟩
theorem lay_rD : ∀ rs : List Rd, PyData.canLayAll0 (rs.map rD) = true ∧ PyData.depthAll (rs.map rD) ≤ 3
  | [] => ⟨rfl, Nat.zero_le _⟩
  | q :: r => by
    obtain ⟨a, b⟩ := lay_rD r
    obtain ⟨c, d⟩ := lay_mD q.2.2.1
    exact ⟨by show ((PyData.canLayAll0 (q.2.2.1.map mD) && (true && true)) && _) = true; rw [c, a]; rfl, by show max (max (PyData.depthAll (q.2.2.1.map mD) + 1) (max 0 0) + 1) _ ≤ 3; exact Nat.max_le.mpr ⟨by omega, b⟩⟩
def cD (vs : List Int) (l : Int) (rs : List Rd) : PyData := .tuple [.list (vs.map .int), .int l, .list (rs.map rD)]
theorem shape_cD (vs : List Int) (l : Int) (rs : List Rd) : SeqAt.shaped (cD vs l rs) = true := by
  obtain ⟨i1, i2⟩ := lay_ints vs
  obtain ⟨h1, h2⟩ := lay_rD rs
  unfold SeqAt.shaped
  rw [Bool.and_eq_true]
  refine ⟨?_, decide_eq_true ?_⟩
  · show (PyData.canLayAll0 (vs.map .int) && (true && (PyData.canLayAll0 (rs.map rD) && true))) = true
    rw [i1, h1]; rfl
  · show max (PyData.depthAll (vs.map PyData.int) + 1) (max 0 (max (PyData.depthAll (rs.map rD) + 1) 0)) + 1 ≤ 64
    omega
theorem reps_mD {K : PySem.W.Frag} {H : Hp} : ∀ {ms : List Mrk}, (∀ m ∈ ms, MkG H m) → Reps K H (ms.map mv) (ms.map mD)
  | [], _ => .nil
  | none :: _, g => .cons .non (reps_mD fun m k => g m (List.mem_cons_of_mem _ k))
  | some q :: _, g => .cons (.tup (SqT.of (g (some q) (List.mem_cons_self ..) q rfl)) (.cons (.int _) (.cons (.int _) .nil))) (reps_mD fun m k => g m (List.mem_cons_of_mem _ k))
theorem reps_rD {K : PySem.W.Frag} {H : Hp} : ∀ {rs : List Rd}, (∀ q ∈ rs, RdG H q) → Reps K H (rv rs) (rs.map rD)
  | [], _ => .nil
  | q :: _, g => .cons (.tup (SqT.of (g q (List.mem_cons_self ..)).t) (.cons (.lst (SqL.of (g q (List.mem_cons_self ..)).l) (reps_mD (g q (List.mem_cons_self ..)).m)) (.cons (.int _) .nil))) (reps_rD fun m k => g m (List.mem_cons_of_mem _ k))
theorem rep_cD {K : PySem.W.Frag} {H : Hp} {t va ra : Addr} {vs : List Int} {l : Int} {rs : List Rd} (e1 : H t = some (.tup [.ref va, .int l, .ref ra])) (e2 : H va = some (.lst (vs.map V.int))) (e3 : H ra = some (.lst (rv rs))) (g : ∀ q ∈ rs, RdG H q) : Rep K H (.ref t) (cD vs l rs) :=
  .tup (SqT.of e1) (.cons (.lst (SqL.of e2) (.ints _)) (.cons (.int _) (.cons (.lst (SqL.of e3) (reps_rD g)) .nil)))
structure RdN (H0 H : Hp) (r : Addr) (h : Nat) (q : Rd) : Prop where
  g : RdG H q
  f : H0 q.2.1 = none
  n : q.2.1 ≠ r
  len : q.2.2.1.length = h
  lim : ∀ a x y, some (a, x, y) ∈ q.2.2.1 → -(10 ^ 18) ≤ x ∧ x ≤ 10 ^ 18 ∧ -(10 ^ 18) ≤ y ∧ y ≤ 10 ^ 18
theorem exists_list {α : Type} {P : Nat → α → Prop} : ∀ {n : Nat}, (∀ j, j < n → ∃ x, P j x) → ∃ xs : List α, xs.length = n ∧ ∀ j x, xs[j]? = some x → P j x
  | 0, _ => ⟨[], rfl, fun j x e => by rw [List.getElem?_nil] at e; cases e⟩
  | n + 1, k => by
    obtain ⟨xs, l, p⟩ := exists_list fun j hj => k j (Nat.lt_succ_of_lt hj)
    obtain ⟨x, px⟩ := k n (Nat.lt_succ_self n)
    refine ⟨xs ++ [x], by rw [List.length_append, l]; rfl, fun j y e => ?_⟩
    rcases (by omega : j < n ∨ j = n ∨ n < j) with c | c | c
    · rw [List.getElem?_append_left (by omega)] at e
      exact p j y e
    · subst c
      rw [← l, List.getElem?_append_right (Nat.le_refl _), Nat.sub_self] at e
      cases Option.some.inj e
      exact px
    · rw [List.getElem?_eq_none (by rw [List.length_append, l]; exact c)] at e
      cases e
theorem Marks.copy {H : Hp} {a : Addr} {vs had : List Int} {l st : Int} {h : Nat} (m : Marks H a vs had l st h) (l1 : 1 ≤ l) (st0 : 0 ≤ st) (hb : ∀ j, 0 ≤ had.getD j 0 ∧ had.getD j 0 ≤ 60) (st9 : st ≤ 9) (vb : ∀ j, 0 ≤ vs.getD j 0 ∧ vs.getD j 0 < 10 ^ 18) :
    ∃ ms : List Mrk, H a = some (.lst (ms.map mv)) ∧ (∀ m ∈ ms, MkG H m) ∧ ms.length = h ∧ (∀ a x y, some (a, x, y) ∈ ms → -(10 ^ 18) ≤ x ∧ x ≤ 10 ^ 18 ∧ -(10 ^ 18) ≤ y ∧ y ≤ 10 ^ 18) ∧ ms.map mD = (List.range h).map (markD vs had l st) := by
  obtain ⟨ys, m1, m2, m3⟩ := m
  obtain ⟨ms, e1, e2⟩ := exists_list (P := fun j (m : Mrk) => ys[j]? = some (mv m) ∧ MkG H m ∧ mD m = markD vs had l st j ∧ ∀ a x y, m = some (a, x, y) → -(10 ^ 18) ≤ x ∧ x ≤ 10 ^ 18 ∧ -(10 ^ 18) ≤ y ∧ y ≤ 10 ^ 18) (n := h) fun j hj => by
    rcases m3 j hj with ⟨c, e⟩ | ⟨c, p, k1, k2⟩
    · exact ⟨none, e, (fun q z => nomatch z), by unfold markD; rw [if_pos c]; rfl, fun a x y z => nomatch z⟩
    · refine ⟨some (p, _, _), k1, (fun q z => by cases Option.some.inj z; exact k2), by unfold markD; rw [if_neg (by omega)]; rfl, fun a x y z => ?_⟩
      have d0 : 0 < 1 + st * had.getD j 0 := by have := Int.mul_nonneg st0 (hb j).1; omega
      have d9 : st * had.getD j 0 ≤ 9 * 60 := Int.mul_le_mul st9 (hb j).2 (hb j).1 (by decide)
      have := low_sz (v := vs.getD j 0) d0
      have v1 := vb j
      have B : -(10 ^ 18) ≤ lowT (vs.getD j 0) (1 + st * had.getD j 0) ∧ lowT (vs.getD j 0) (1 + st * had.getD j 0) ≤ 10 ^ 18 ∧ -(10 ^ 18) ≤ lowB (vs.getD j 0) (1 + st * had.getD j 0) ∧ lowB (vs.getD j 0) (1 + st * had.getD j 0) ≤ 10 ^ 18 := by split at this <;> omega
      have e := Option.some.inj z
      rw [Prod.mk.injEq, Prod.mk.injEq] at e
      rw [← e.2.1, ← e.2.2]
      exact B
  have ey : ys = ms.map mv := by
    refine List.ext_getElem? fun j => ?_
    by_cases c : j < h
    · obtain ⟨x, hx⟩ : ∃ x, ms[j]? = some x := ⟨_, List.getElem?_eq_getElem (by omega)⟩
      rw [(e2 j x hx).1, List.getElem?_map, hx]; rfl
    · rw [List.getElem?_eq_none (by omega), List.getElem?_eq_none (by rw [List.length_map]; omega)]
  refine ⟨ms, by rw [m1, ey], fun m k => ?_, e1, fun a x y k => ?_, ?_⟩
  · obtain ⟨j, hj⟩ := List.getElem?_of_mem k
    exact (e2 j m hj).2.1
  · obtain ⟨j, hj⟩ := List.getElem?_of_mem k
    exact (e2 j _ hj).2.2.2 a x y rfl
  · refine List.ext_getElem? fun j => ?_
    by_cases c : j < h
    · obtain ⟨x, hx⟩ : ∃ x, ms[j]? = some x := ⟨_, List.getElem?_eq_getElem (by omega)⟩
      rw [List.getElem?_map, hx, List.getElem?_map, List.getElem?_range c]
      exact congrArg some (e2 j x hx).2.2.1
    · rw [List.getElem?_eq_none (by rw [List.length_map]; omega), List.getElem?_eq_none (by rw [List.length_map, List.length_range]; omega)]
def IsM (C : Addr) (H : Hp) (g a : Addr) : Prop := ∃ dx, H g = some (.ins C dx [("way", .ref a)])
theorem IsM.same {C : Addr} {H H' : Hp} {g a : Addr} (s : Same H H') (m : IsM C H g a) : IsM C H' g a := let ⟨dx, h⟩ := m; ⟨dx, s _ _ h⟩
theorem putM (x : V) : putF "way" x [] = ([("way", x)] : List (Str × V)) := rfl
def spMarginInit (K : PySem.W.Frag) : Sp := fun vs H Q _ => ∃ (g C dx a : Addr), vs = [.ref g, .ref a] ∧ H g = some (.ins C dx []) ∧ Cls K C ∧ NoAttr K C "way" ∧ ∀ H' : Hp, Same (off H g) H' → H' g = some (.ins C dx [("way", .ref a)]) → Q .non H'
def spCopy68 : Sp := fun vs H Q _ => ∃ (p : Addr) (xs ns : List Int) (l st : Int) (h s : Nat), vs = [.ref p] ∧ Paper H p xs ns l st h s ∧ Sane xs ns l st h s ∧
  ∀ (t va ra : Addr) (rs : List Rd) (H1 H' : Hp), Same H H1 → H va = none → H1 va = some (.lst (xs.map V.int)) → H1 ra = none → Same H1 H' → H' t = some (.tup [.ref va, .int l, .ref ra]) → H' ra = some (.lst (rv rs)) → (∀ q ∈ rs, RdN H1 H' ra h q) → rs.length ≤ 60 → rs.map rD = (List.range (many xs ns l s)).map (roundD xs ns l st h) → Q (.ref t) H'
def spMark68 : Sp := fun vs H Q _ => ∃ (m : Mrk) (c : Int), vs = [mv m, .int c] ∧ MkG H m ∧ (∀ a x y, m = some (a, x, y) → -(10 ^ 18) ≤ x ∧ x ≤ 10 ^ 18 ∧ -(10 ^ 18) ≤ y ∧ y ≤ 10 ^ 18) ∧ 0 ≤ c ∧ Sz 64 c ∧
  ∀ (m' : Mrk) (H' : Hp), Same H H' → MkG H' m' → Q (mv m') H'
def spRounds68 : Sp := fun vs H Q _ => ∃ (r : Addr) (w c : Int) (h : Nat) (rs : List Rd) (H0 : Hp), vs = [.ref r, .int w, .int c, .int (h : Int)] ∧ Same H0 H ∧ H0 r = none ∧ H r = some (.lst (rv rs)) ∧ (∀ q ∈ rs, RdN H0 H r h q) ∧ rs.length ≤ 60 ∧ 1 ≤ h ∧ h ≤ 12 ∧ 0 ≤ c ∧ Sz 64 c ∧ 5 ≤ w ∧ w ≤ 15 ∧ w ≠ 12 ∧
  ∀ (r' : Addr) (qs : List Rd) (H' : Hp), Same H0 H' → H' r' = some (.lst (rv qs)) → (∀ q ∈ qs, RdG H' q) → Q (.ref r') H'
def spSpoilt68 : Sp := fun vs H Q _ => ∃ (p : Addr) (w c : Int) (h s : Nat) (xs ns : List Int) (l st : Int), vs = [.ref p, .int w, .int c, .int (h : Int)] ∧ Paper H p xs ns l st h s ∧ Sane xs ns l st h s ∧ 0 ≤ w ∧ w < 16 ∧ 0 ≤ c ∧ Sz 64 c ∧
  ∀ (t va ra : Addr) (vz : List Int) (z : Int) (qs : List Rd) (H' : Hp), Same H H' → H' t = some (.tup [.ref va, .int z, .ref ra]) → H' va = some (.lst (vz.map V.int)) → H' ra = some (.lst (rv qs)) → (∀ q ∈ qs, RdG H' q) → Q (.ref t) H'
def papD (ls : Ls) (ns : List Int) (u v st : Int) (h s : Nat) : PyData := paperD (tally h ls) ns (leastOf u v ls) st h s
def spRight68 (K : PySem.W.Frag) (M C : Addr) : Sp := fun vs H Q _ => ∃ (g a l p : Addr) (h s : Nat) (st u v : Int) (ns : List Int) (ls : Ls) (D : PyData), vs = [.ref g, .ref l, .ref p] ∧ IsM M H g a ∧ Made C H a h s st u v ns ∧ H l = some (.lst (vls ls)) ∧ GoodL h H ls ∧ ls.length ≤ 61 ∧ NumL ls ∧ Rep K H (.ref p) D ∧ SeqAt.shaped D = true ∧
  ∀ H' : Hp, Same H H' → Q (.bl (PyData.eqv D (papD ls ns u v st h s))) H'
def spPasses68 (K : PySem.W.Frag) (M C : Addr) : Sp := fun vs H Q _ => ∃ (g a l p o : Addr) (h s : Nat) (st u v : Int) (ns os : List Int) (ls : Ls) (D : PyData), vs = [.ref g, .ref l, .ref p, .ref o] ∧ IsM M H g a ∧ Made C H a h s st u v ns ∧ H l = some (.lst (vls ls)) ∧ GoodL h H ls ∧ ls.length ≤ 61 ∧ NumL ls ∧ Rep K H (.ref p) D ∧ SeqAt.shaped D = true ∧ H o = some (.lst (os.map V.int)) ∧ (PyData.eqv D (papD ls ns u v st h s) = true → Paper H p (tally h ls) ns (leastOf u v ls) st h s) ∧
  ∀ H' : Hp, Same H H' → Q (.bl (PyData.eqv D (papD ls ns u v st h s) && decide (outOf ls ns u v st h s = os))) H'
theorem shape_paper (vs ns : List Int) (l st : Int) (h s : Nat) : SeqAt.shaped (paperD vs ns l st h s) = true := by
  obtain ⟨i1, i2⟩ := lay_ints vs
  obtain ⟨h1, h2, _⟩ := lay_rounds vs ns l st h (List.range (many vs ns l s))
  unfold SeqAt.shaped
  rw [Bool.and_eq_true]
  refine ⟨?_, decide_eq_true ?_⟩
  · show (PyData.canLayAll0 (vs.map .int) && (true && (PyData.canLayAll0 ((List.range (many vs ns l s)).map (roundD vs ns l st h)) && true))) = true
    rw [i1, h1]; rfl
  · show max (PyData.depthAll (vs.map PyData.int) + 1) (max 0 (max (PyData.depthAll ((List.range (many vs ns l s)).map (roundD vs ns l st h)) + 1) 0)) + 1 ≤ 64
    omega
theorem eqv_paper (vs ns : List Int) (l st : Int) (h s : Nat) : PyData.eqv (paperD vs ns l st h s) (paperD vs ns l st h s) = true := by
  obtain ⟨_, _, h3⟩ := lay_rounds vs ns l st h (List.range (many vs ns l s))
  show (PyData.eqvAll (vs.map .int) (vs.map .int) && ((l == l) && (PyData.eqvAll ((List.range (many vs ns l s)).map (roundD vs ns l st h)) ((List.range (many vs ns l s)).map (roundD vs ns l st h)) && true))) = true
  rw [eqv_ints, decide_eq_true rfl, beq_self_eq_true, h3]; rfl
theorem eqv_votes {vs ws ns ms : List Int} {l k st tt : Int} {h i s r : Nat} (ne : vs ≠ ws) : PyData.eqv (paperD vs ns l st h s) (paperD ws ms k tt i r) = false := by
  show (PyData.eqvAll (vs.map .int) (ws.map .int) && _) = false
  rw [eqv_ints, decide_eq_false ne]; rfl
theorem Sane.had60 {vs ns : List Int} {l st : Int} {h s : Nat} (S : Sane vs ns l st h s) {i : Nat} (hi : i < many vs ns l s) (j : Nat) : 0 ≤ (hadAt vs ns l st h i).getD j 0 ∧ (hadAt vs ns l st h i).getD j 0 ≤ 60 := by
  have ne : takers vs ns l ≠ [] := fun z => by unfold many at hi; rw [if_pos z] at hi; omega
  have := had_pos (S.pk ne) i j
  have s60 := S.s60
  have : many vs ns l s ≤ s := by unfold many; split <;> omega
  omega
theorem shape_rs (rs : List Rd) : SeqAt.shaped (.list (rs.map rD)) = true := by
  obtain ⟨h1, h2⟩ := lay_rD rs
  unfold SeqAt.shaped
  rw [Bool.and_eq_true]
  refine ⟨h1, decide_eq_true ?_⟩
  show PyData.depthAll (rs.map rD) + 1 ≤ 64
  omega
def fixL (a : Addr) (new : List Mrk) (q : Rd) : Rd := if q.2.1 = a then (q.1, q.2.1, new, q.2.2.2) else q
theorem rv_fix (a : Addr) (new : List Mrk) (rs : List Rd) : rv (rs.map (fixL a new)) = rv rs := by
  unfold rv
  rw [List.map_map]
  refine List.map_congr_left fun q _ => ?_
  show V.ref (fixL a new q).1 = _
  unfold fixL
  split <;> rfl
theorem fix_l (a : Addr) (new : List Mrk) (q : Rd) : (fixL a new q).2.1 = q.2.1 := by unfold fixL; split <;> rfl
theorem MkG.upd {H : Hp} {m : Mrk} {a : Addr} {xs : List V} {o : HO} (g : MkG H m) (e : H a = some (.lst xs)) : MkG (L2.upd H a o) m := fun q h => by rw [upd_ne (ne_of (g q h) e (fun z => nomatch z))]; exact g q h
theorem RdG.fix {H : Hp} {q : Rd} {a : Addr} {xs : List V} {new : List Mrk} (g : RdG H q) (e : H a = some (.lst xs)) (gn : ∀ m ∈ new, MkG H m) : RdG (L2.upd H a (.lst (new.map mv))) (fixL a new q) := by
  unfold fixL
  split
  · rename_i c
    refine ⟨?_, ?_, fun m k => (gn m k).upd e⟩
    · show (L2.upd H a _) q.1 = _
      rw [upd_ne (ne_of g.t e (fun z => nomatch z))]; exact g.t
    · show (L2.upd H a _) q.2.1 = _
      rw [c]; exact upd_same
  · rename_i c
    exact g.upd e c
theorem rv_len (rs : List Rd) : (rv rs).length = rs.length := List.length_map ..
theorem rv_set (rs : List Rd) (i : Nat) (q : Rd) : (rv rs).set i (.ref q.1) = rv (rs.set i q) := by unfold rv; rw [List.map_set]
theorem cut_some (ms : List Mrk) (lo hi : Option Int) : ∃ ns : List Mrk, cutV (ms.map mv) lo hi = ns.map mv ∧ ∀ m ∈ ns, m ∈ ms := by
  unfold cutV
  refine ⟨(ms.drop (HT.sIx (ms.map mv).length 0 lo)).take (HT.sIx (ms.map mv).length (ms.map mv).length hi - HT.sIx (ms.map mv).length 0 lo), by rw [List.map_take, List.map_drop], fun m k => List.mem_of_mem_drop (List.mem_of_mem_take k)⟩
structure Rn (H0 J : Hp) (r a : Addr) (qs : List Rd) (ms : List Mrk) : Prop where
  sm : Same H0 J
  hr : J r = some (.lst (rv qs))
  gd : ∀ q ∈ qs, RdG J q ∧ q.2.1 ≠ r
  ha : J a = some (.lst (ms.map mv))
  hm : ∀ m ∈ ms, MkG J m
theorem Rn.same {H0 J J' : Hp} {r a : Addr} {qs : List Rd} {ms : List Mrk} (z : Rn H0 J r a qs ms) (e : Same J J') : Rn H0 J' r a qs ms := ⟨z.sm.trans e, e _ _ z.hr, fun q m => ⟨(z.gd q m).1.same e, (z.gd q m).2⟩, e _ _ z.ha, fun m k => (z.hm m k).same e⟩
theorem Rn.put {H0 J : Hp} {r a : Addr} {qs ps : List Rd} {ms : List Mrk} (z : Rn H0 J r a qs ms) (hr : H0 r = none) (ar : a ≠ r) (g : ∀ q ∈ ps, RdG J q ∧ q.2.1 ≠ r) : Rn H0 (upd J r (.lst (rv ps))) r a ps ms :=
  ⟨same_upd z.sm hr, upd_same, fun q m => ⟨(g q m).1.upd z.hr (g q m).2, (g q m).2⟩, by rw [upd_ne ar]; exact z.ha, fun m k => (z.hm m k).upd z.hr⟩
theorem rep_non (h : Nat) : (List.replicate h [V.non]).flatten = (List.replicate h (none : Mrk)).map mv := by
  induction h with
  | zero => rfl
  | succ k ih => rw [List.replicate_succ, List.flatten_cons, ih, List.replicate_succ]; rfl
structure Vt (H J : Hp) (va ra : Addr) (vz : List Int) (rs : List Rd) : Prop where
  sm : Same H J
  hv : J va = some (.lst (vz.map V.int))
  hr : J ra = some (.lst (rv rs))
  gd : ∀ q ∈ rs, RdG J q ∧ q.2.1 ≠ va
theorem Vt.put {H J : Hp} {va ra : Addr} {vz ws : List Int} {rs : List Rd} (z : Vt H J va ra vz rs) (hva : H va = none) (ne : ra ≠ va) : Vt H (upd J va (.lst (ws.map V.int))) va ra ws rs :=
  ⟨same_upd z.sm hva, upd_same, by rw [upd_ne ne]; exact z.hr, fun q m => ⟨(z.gd q m).1.upd z.hv (z.gd q m).2, (z.gd q m).2⟩⟩
theorem Vt.same {H J J' : Hp} {va ra : Addr} {vz : List Int} {rs : List Rd} (z : Vt H J va ra vz rs) (e : Same J J') : Vt H J' va ra vz rs := ⟨z.sm.trans e, e _ _ z.hv, e _ _ z.hr, fun q m => ⟨(z.gd q m).1.same e, (z.gd q m).2⟩⟩
theorem atG8 {xs : List Int} {n : Nat} (h : n < xs.length) : atI (xs.map V.int) (n : Int) = some (.int (xs.getD n 0)) := by
  refine atN ?_
  rw [List.getD_eq_getElem?_getD, List.getElem?_eq_getElem h]
  rfl
theorem int_set (xs : List Int) (i : Nat) (x : Int) : (xs.map V.int).set i (.int x) = (xs.set i x).map V.int := (List.map_set ..).symm
def spLonger68 (K : PySem.W.Frag) (M C : Addr) : Sp := fun vs H Q _ => ∃ (g a l r kp : Addr) (h s : Nat) (st u v : Int) (xs : List Int) (ls : Ls), vs = [.ref g, .ref r, .ref l, .ref kp] ∧ IsM M H g a ∧ Made C H a h s st u v xs ∧ s ≤ 24 ∧ gcdI u v = 1 ∧ Told H r (s : Int) st u v xs ∧ H l = some (.lst (vls ls)) ∧ GoodL h H ls ∧ ls.length ≤ 61 ∧ NumL ls ∧ Rep K H (.ref kp) (papD ls xs u v st h s) ∧
  ∀ H' : Hp, Same H H' → Q (.bl false) H'
theorem bump_ne {xs : List Int} {i : Nat} (h : i < xs.length) : xs ≠ xs.set i (xs.getD i 0 + 1) := fun e => by
  have a : (xs.set i (xs.getD i 0 + 1)).getD i 0 = xs.getD i 0 + 1 := by rw [List.getD_eq_getElem?_getD, List.getElem?_set_self h]; rfl
  rw [← e] at a
  omega
theorem eqvT8 {a b : List Int} : PyData.eqv (.tuple (a.map .int)) (.tuple (b.map .int)) = decide (a = b) := eqv_ints a b
theorem pap_ne {ls ms : Ls} {ns : List Int} {u v st : Int} {h s : Nat} (ne : total ls ≠ total ms) : PyData.eqv (papD ls ns u v st h s) (papD ms ns u v st h s) = false :=
  eqv_votes fun e => ne ((sum_tally h ls).symm.trans ((congrArg List.sum e).trans (sum_tally h ms)))
theorem cut_drop8 {xs : List V} {j : Nat} : cutV xs (some (j : Int)) none = xs.drop j := by
  unfold cutV
  rw [HT.sIx_none, HT.sIx_nat]
  by_cases c : j ≤ xs.length
  · rw [Nat.min_eq_left c, List.take_of_length_le (by rw [List.length_drop]; exact Nat.le_refl _)]
  · rw [Nat.min_eq_right (by omega), List.drop_of_length_le (Nat.le_refl _), List.drop_of_length_le (by omega), List.take_nil]
def top (i : Nat) : Stmt := PySem.Challenge.pw_pollproof_k68_papers_of_lists_let_by.main.body.getD i (.Pass ⟨0, 0, 0, 0⟩)
abbrev s_is_whole : Stmt := top 6
abbrev s_divisor : Stmt := top 7
abbrev s_up : Stmt := top 8
abbrev s_under : Stmt := top 21
abbrev s_members : Stmt := top 23
abbrev s_ballots_in : Stmt := top 25
abbrev s_law_cell : Stmt := top 34
abbrev s_law_mixed : Stmt := top 35
abbrev s_law_divisor : Stmt := top 36
abbrev s_law_copy : Stmt := top 44
abbrev s_law_mark : Stmt := top 45
abbrev s_Checker_init : Stmt := inClass (top 16) 0
abbrev s_Lists_told_by : Stmt := inClass (top 32) 8
abbrev s_are_hands : Stmt := top 12
abbrev s_are_seats : Stmt := top 13
abbrev s_are_lots : Stmt := top 14
abbrev s_fraction : Stmt := top 20
abbrev s_vote_of : Stmt := top 28
abbrev s_is_hurdle : Stmt := top 30
abbrev s_is_step : Stmt := top 31
abbrev s_law_lowest : Stmt := top 37
abbrev s_law_slip : Stmt := top 38
abbrev s_law_number : Stmt := top 39
abbrev s_law_lots : Stmt := top 41
abbrev s_law_rounds : Stmt := top 46
abbrev s_Lists_least_votes : Stmt := inClass (top 32) 1
abbrev s_Lists_greatest_mark : Stmt := inClass (top 32) 5
abbrev s_votes_of : Stmt := top 29
abbrev s_law_sheet : Stmt := top 40
abbrev s_law_hurdle : Stmt := top 42
abbrev s_law_spoilt : Stmt := top 47
abbrev s_Way_init : Stmt := inClass (top 15) 0
abbrev s_Lists_mark : Stmt := inClass (top 32) 2
abbrev s_law_way : Stmt := top 43
abbrev s_Lists_init : Stmt := inClass (top 32) 0
abbrev s_Lists_mark_or_none : Stmt := inClass (top 32) 3
abbrev s_Lists_marks_of : Stmt := inClass (top 32) 4
abbrev s_Lists_rounds_of : Stmt := inClass (top 32) 6
abbrev s_Lists_counted : Stmt := inClass (top 32) 7
abbrev s_Way_outcome : Stmt := inClass (top 15) 4
abbrev s_ListsChecker_right : Stmt := inClass (top 18) 0
abbrev s_Checker_passes : Stmt := inClass (top 16) 2
abbrev s_law_longer_let_by : Stmt := top 48
abbrev s_law : Stmt := top 49
theorem sc_is_whole : FnScope ["thing"] ["thing"] (defScope s_is_whole) := ⟨rfl, rfl, rfl, by decide +kernel, rfl, by decide +kernel, by decide +kernel⟩
theorem sc_divisor : FnScope ["one", "other", "great", "small", "rest"] ["one", "other"] (defScope s_divisor) := ⟨rfl, rfl, rfl, by decide +kernel, rfl, by decide +kernel, by decide +kernel⟩
theorem sc_up : FnScope ["top", "bottom"] ["top", "bottom"] (defScope s_up) := ⟨rfl, rfl, rfl, by decide +kernel, rfl, by decide +kernel, by decide +kernel⟩
theorem sc_under : FnScope ["one", "other"] ["one", "other"] (defScope s_under) := ⟨rfl, rfl, rfl, by decide +kernel, rfl, by decide +kernel, by decide +kernel⟩
theorem sc_members : FnScope ["mask"] ["mask"] (defScope s_members) := ⟨rfl, rfl, rfl, by decide +kernel, rfl, by decide +kernel, by decide +kernel⟩
theorem sc_ballots_in : FnScope ["sheet"] ["sheet"] (defScope s_ballots_in) := ⟨rfl, rfl, rfl, by decide +kernel, rfl, by decide +kernel, by decide +kernel⟩
theorem sc_law_cell : FnScope ["_law_script", "_law_k"] ["_law_script", "_law_k"] (defScope s_law_cell) := ⟨rfl, rfl, rfl, by decide +kernel, rfl, by decide +kernel, by decide +kernel⟩
theorem sc_law_mixed : FnScope ["_law_cell_here", "_law_by", "_law_number_here"] ["_law_cell_here", "_law_by"] (defScope s_law_mixed) := ⟨rfl, rfl, rfl, by decide +kernel, rfl, by decide +kernel, by decide +kernel⟩
theorem sc_law_divisor : FnScope ["_law_one", "_law_other"] ["_law_one", "_law_other"] (defScope s_law_divisor) := ⟨rfl, rfl, rfl, by decide +kernel, rfl, by decide +kernel, by decide +kernel⟩
theorem sc_law_copy : FnScope ["_law_paper"] ["_law_paper"] (defScope s_law_copy) := ⟨rfl, rfl, rfl, by decide +kernel, rfl, by decide +kernel, by decide +kernel⟩
theorem sc_law_mark : FnScope ["_law_mark_here", "_law_cell_here", "_law_some"] ["_law_mark_here", "_law_cell_here"] (defScope s_law_mark) := ⟨rfl, rfl, rfl, by decide +kernel, rfl, by decide +kernel, by decide +kernel⟩
theorem sc_Checker_init : FnScope ["self", "way"] ["self", "way"] (defScope s_Checker_init) := ⟨rfl, rfl, rfl, by decide +kernel, rfl, by decide +kernel, by decide +kernel⟩
theorem sc_Lists_told_by : FnScope ["self", "paper", "given"] ["self", "paper"] (defScope s_Lists_told_by) := ⟨rfl, rfl, rfl, by decide +kernel, rfl, by decide +kernel, by decide +kernel⟩
theorem sc_are_hands : FnScope ["thing"] ["thing"] (defScope s_are_hands) := ⟨rfl, rfl, rfl, by decide +kernel, rfl, by decide +kernel, by decide +kernel⟩
theorem sc_are_seats : FnScope ["thing"] ["thing"] (defScope s_are_seats) := ⟨rfl, rfl, rfl, by decide +kernel, rfl, by decide +kernel, by decide +kernel⟩
theorem sc_are_lots : FnScope ["thing", "hands"] ["thing", "hands"] (defScope s_are_lots) := ⟨rfl, rfl, rfl, by decide +kernel, rfl, by decide +kernel, by decide +kernel⟩
theorem sc_fraction : FnScope ["top", "bottom", "common"] ["top", "bottom"] (defScope s_fraction) := ⟨rfl, rfl, rfl, by decide +kernel, rfl, by decide +kernel, by decide +kernel⟩
theorem sc_vote_of : FnScope ["slip", "first"] ["slip"] (defScope s_vote_of) := ⟨rfl, rfl, rfl, by decide +kernel, rfl, by decide +kernel, by decide +kernel⟩
theorem sc_is_hurdle : FnScope ["thing"] ["thing"] (defScope s_is_hurdle) := ⟨rfl, rfl, rfl, by decide +kernel, rfl, by decide +kernel, by decide +kernel⟩
theorem sc_is_step : FnScope ["thing"] ["thing"] (defScope s_is_step) := ⟨rfl, rfl, rfl, by decide +kernel, rfl, by decide +kernel, by decide +kernel⟩
theorem sc_law_lowest : FnScope ["_law_top", "_law_bottom", "_law_by"] ["_law_top", "_law_bottom"] (defScope s_law_lowest) := ⟨rfl, rfl, rfl, by decide +kernel, rfl, by decide +kernel, by decide +kernel⟩
theorem sc_law_slip : FnScope ["_law_cell_here", "_law_hands", "_law_number_here", "_law_way_here", "_law_first", "_law_second", "_law_mask"] ["_law_cell_here", "_law_hands"] (defScope s_law_slip) := ⟨rfl, rfl, rfl, by decide +kernel, rfl, by decide +kernel, by decide +kernel⟩
theorem sc_law_number : FnScope ["_law_cell_here", "_law_k", "_law_mode", "_law_number_here"] ["_law_cell_here", "_law_k", "_law_mode"] (defScope s_law_number) := ⟨rfl, rfl, rfl, by decide +kernel, rfl, by decide +kernel, by decide +kernel⟩
theorem sc_law_lots : FnScope ["_law_cell_here", "_law_hands", "_law_order"] ["_law_cell_here", "_law_hands"] (defScope s_law_lots) := ⟨rfl, rfl, rfl, by decide +kernel, rfl, by decide +kernel, by decide +kernel⟩
theorem sc_law_rounds : FnScope ["_law_rounds_here", "_law_way_here", "_law_cell_here", "_law_hands", "_law_at", "_law_marks", "_law_hand", "_law_place"] ["_law_rounds_here", "_law_way_here", "_law_cell_here", "_law_hands"] (defScope s_law_rounds) := ⟨rfl, rfl, rfl, by decide +kernel, rfl, by decide +kernel, by decide +kernel⟩
theorem sc_Lists_least_votes : FnScope ["self", "ballots"] ["self", "ballots"] (defScope s_Lists_least_votes) := ⟨rfl, rfl, rfl, by decide +kernel, rfl, by decide +kernel, by decide +kernel⟩
theorem sc_Lists_greatest_mark : FnScope ["self", "marks", "by_lots", "best", "hand"] ["self", "marks"] (defScope s_Lists_greatest_mark) := ⟨rfl, rfl, rfl, by decide +kernel, rfl, by decide +kernel, by decide +kernel⟩
theorem sc_votes_of : FnScope ["sheet", "hands", "votes", "slip", "number", "hand", "place"] ["sheet", "hands"] (defScope s_votes_of) := ⟨rfl, rfl, rfl, by decide +kernel, rfl, by decide +kernel, by decide +kernel⟩
theorem sc_law_sheet : FnScope ["_law_script", "_law_at", "_law_hands", "_law_drawn", "_law_mode", "_law_many", "_law_k", "_law_cell_here", "_law_slip_here"] ["_law_script", "_law_at", "_law_hands"] (defScope s_law_sheet) := ⟨rfl, rfl, rfl, by decide +kernel, rfl, by decide +kernel, by decide +kernel⟩
theorem sc_law_hurdle : FnScope ["_law_cell_here", "_law_number_here", "_law_bottom"] ["_law_cell_here"] (defScope s_law_hurdle) := ⟨rfl, rfl, rfl, by decide +kernel, rfl, by decide +kernel, by decide +kernel⟩
theorem sc_law_spoilt : FnScope ["_law_paper", "_law_way_here", "_law_cell_here", "_law_hands", "_law_votes", "_law_least", "_law_rounds_here", "_law_place", "_law_other"] ["_law_paper", "_law_way_here", "_law_cell_here", "_law_hands"] (defScope s_law_spoilt) := ⟨rfl, rfl, rfl, by decide +kernel, rfl, by decide +kernel, by decide +kernel⟩
theorem sc_Way_init : FnScope ["self", "hands", "seats", "lots"] ["self", "hands", "seats", "lots"] (defScope s_Way_init) := ⟨rfl, rfl, rfl, by decide +kernel, rfl, by decide +kernel, by decide +kernel⟩
theorem sc_Lists_mark : FnScope ["self", "many", "had"] ["self", "many", "had"] (defScope s_Lists_mark) := ⟨rfl, rfl, rfl, by decide +kernel, rfl, by decide +kernel, by decide +kernel⟩
theorem sc_law_way : FnScope ["_law_script", "_law_hands", "_law_cell_here", "_law_seats", "_law_step"] ["_law_script", "_law_hands"] (defScope s_law_way) := ⟨rfl, rfl, rfl, by decide +kernel, rfl, by decide +kernel, by decide +kernel⟩
theorem sc_Lists_init : FnScope ["self", "hands", "seats", "lots", "hurdle", "step"] ["self", "hands", "seats", "lots", "hurdle", "step"] (defScope s_Lists_init) := ⟨rfl, rfl, rfl, by decide +kernel, rfl, by decide +kernel, by decide +kernel⟩
theorem sc_Lists_mark_or_none : FnScope ["self", "many", "least", "had"] ["self", "many", "least", "had"] (defScope s_Lists_mark_or_none) := ⟨rfl, rfl, rfl, by decide +kernel, rfl, by decide +kernel, by decide +kernel⟩
theorem sc_Lists_marks_of : FnScope ["self", "votes", "least", "had"] ["self", "votes", "least", "had"] (defScope s_Lists_marks_of) := ⟨rfl, rfl, rfl, by decide +kernel, rfl, by decide +kernel, by decide +kernel⟩
theorem sc_Lists_rounds_of : FnScope ["self", "votes", "least", "rounds", "had", "marks", "hand"] ["self", "votes", "least"] (defScope s_Lists_rounds_of) := ⟨rfl, rfl, rfl, by decide +kernel, rfl, by decide +kernel, by decide +kernel⟩
theorem sc_Lists_counted : FnScope ["self", "sheet", "votes", "least"] ["self", "sheet"] (defScope s_Lists_counted) := ⟨rfl, rfl, rfl, by decide +kernel, rfl, by decide +kernel, by decide +kernel⟩
theorem sc_Way_outcome : FnScope ["self", "sheet"] ["self", "sheet"] (defScope s_Way_outcome) := ⟨rfl, rfl, rfl, by decide +kernel, rfl, by decide +kernel, by decide +kernel⟩
theorem sc_ListsChecker_right : FnScope ["self", "sheet", "paper"] ["self", "sheet", "paper"] (defScope s_ListsChecker_right) := ⟨rfl, rfl, rfl, by decide +kernel, rfl, by decide +kernel, by decide +kernel⟩
theorem sc_Checker_passes : FnScope ["self", "sheet", "paper", "outcome"] ["self", "sheet", "paper", "outcome"] (defScope s_Checker_passes) := ⟨rfl, rfl, rfl, by decide +kernel, rfl, by decide +kernel, by decide +kernel⟩
theorem sc_law_longer_let_by : FnScope ["_law_checker", "_law_told", "_law_lent", "_law_kept", "_law_longer", "_law_more"] ["_law_checker", "_law_told", "_law_lent", "_law_kept"] (defScope s_law_longer_let_by) := ⟨rfl, rfl, rfl, by decide +kernel, rfl, by decide +kernel, by decide +kernel⟩
theorem sc_law : FnScope ["_law_script", "_law_hands", "_law_told", "_law_sheet_here", "_law_way_here", "_law_checker", "_law_paper", "_law_outcome", "_law_kept", "_law_lent", "_law_cell_here", "_law_spoilt_here", "_law_wrong", "_law_more"] ["_law_script"] (defScope s_law) := ⟨rfl, rfl, rfl, by decide +kernel, rfl, by decide +kernel, by decide +kernel⟩
structure Ads where
  f_is_whole : Addr
  d_is_whole : FuncData
  f_divisor : Addr
  d_divisor : FuncData
  f_up : Addr
  d_up : FuncData
  f_under : Addr
  d_under : FuncData
  f_members : Addr
  d_members : FuncData
  f_ballots_in : Addr
  d_ballots_in : FuncData
  f_law_cell : Addr
  d_law_cell : FuncData
  f_law_mixed : Addr
  d_law_mixed : FuncData
  f_law_divisor : Addr
  d_law_divisor : FuncData
  f_law_copy : Addr
  d_law_copy : FuncData
  f_law_mark : Addr
  d_law_mark : FuncData
  f_Checker_init : Addr
  d_Checker_init : FuncData
  f_Lists_told_by : Addr
  d_Lists_told_by : FuncData
  f_are_hands : Addr
  d_are_hands : FuncData
  f_are_seats : Addr
  d_are_seats : FuncData
  f_are_lots : Addr
  d_are_lots : FuncData
  f_fraction : Addr
  d_fraction : FuncData
  f_vote_of : Addr
  d_vote_of : FuncData
  f_is_hurdle : Addr
  d_is_hurdle : FuncData
  f_is_step : Addr
  d_is_step : FuncData
  f_law_lowest : Addr
  d_law_lowest : FuncData
  f_law_slip : Addr
  d_law_slip : FuncData
  f_law_number : Addr
  d_law_number : FuncData
  f_law_lots : Addr
  d_law_lots : FuncData
  f_law_rounds : Addr
  d_law_rounds : FuncData
  f_Lists_least_votes : Addr
  d_Lists_least_votes : FuncData
  f_Lists_greatest_mark : Addr
  d_Lists_greatest_mark : FuncData
  f_votes_of : Addr
  d_votes_of : FuncData
  f_law_sheet : Addr
  d_law_sheet : FuncData
  f_law_hurdle : Addr
  d_law_hurdle : FuncData
  f_law_spoilt : Addr
  d_law_spoilt : FuncData
  f_Way_init : Addr
  d_Way_init : FuncData
  f_Lists_mark : Addr
  d_Lists_mark : FuncData
  f_law_way : Addr
  d_law_way : FuncData
  f_Lists_init : Addr
  d_Lists_init : FuncData
  f_Lists_mark_or_none : Addr
  d_Lists_mark_or_none : FuncData
  f_Lists_marks_of : Addr
  d_Lists_marks_of : FuncData
  f_Lists_rounds_of : Addr
  d_Lists_rounds_of : FuncData
  f_Lists_counted : Addr
  d_Lists_counted : FuncData
  f_Way_outcome : Addr
  d_Way_outcome : FuncData
  f_ListsChecker_right : Addr
  d_ListsChecker_right : FuncData
  f_Checker_passes : Addr
  d_Checker_passes : FuncData
  f_law_longer_let_by : Addr
  d_law_longer_let_by : FuncData
  f_law : Addr
  d_law : FuncData
  c_Lists : Addr
  c_Way : Addr
  c_ListsChecker : Addr
  c_Checker : Addr
  t_MOST_HANDS : Tok
  t_MOST_SEATS : Tok
  t_MOST_STEP : Tok
  td_Lists_init2 : Tok
structure Tx (K : PySem.W.Frag) (mg : Str → Option Value) (a : Ads) : Prop where
  F_is_whole : Fun K "is_whole" "is_whole" s_is_whole a.f_is_whole a.d_is_whole
  b_is_whole : Binds K a.d_is_whole ["thing"] []
  m_is_whole : mg "is_whole" = some (.ref a.f_is_whole)
  F_divisor : Fun K "divisor" "divisor" s_divisor a.f_divisor a.d_divisor
  b_divisor : Binds K a.d_divisor ["one", "other"] []
  m_divisor : mg "divisor" = some (.ref a.f_divisor)
  F_up : Fun K "up" "up" s_up a.f_up a.d_up
  b_up : Binds K a.d_up ["top", "bottom"] []
  m_up : mg "up" = some (.ref a.f_up)
  F_under : Fun K "under" "under" s_under a.f_under a.d_under
  b_under : Binds K a.d_under ["one", "other"] []
  m_under : mg "under" = some (.ref a.f_under)
  F_members : Fun K "members" "members" s_members a.f_members a.d_members
  b_members : Binds K a.d_members ["mask"] []
  m_members : mg "members" = some (.ref a.f_members)
  F_ballots_in : Fun K "ballots_in" "ballots_in" s_ballots_in a.f_ballots_in a.d_ballots_in
  b_ballots_in : Binds K a.d_ballots_in ["sheet"] []
  m_ballots_in : mg "ballots_in" = some (.ref a.f_ballots_in)
  F_law_cell : Fun K "_law_cell" "_law_cell" s_law_cell a.f_law_cell a.d_law_cell
  b_law_cell : Binds K a.d_law_cell ["_law_script", "_law_k"] []
  m_law_cell : mg "_law_cell" = some (.ref a.f_law_cell)
  F_law_mixed : Fun K "_law_mixed" "_law_mixed" s_law_mixed a.f_law_mixed a.d_law_mixed
  b_law_mixed : Binds K a.d_law_mixed ["_law_cell_here", "_law_by"] []
  m_law_mixed : mg "_law_mixed" = some (.ref a.f_law_mixed)
  F_law_divisor : Fun K "_law_divisor" "_law_divisor" s_law_divisor a.f_law_divisor a.d_law_divisor
  b_law_divisor : Binds K a.d_law_divisor ["_law_one", "_law_other"] []
  m_law_divisor : mg "_law_divisor" = some (.ref a.f_law_divisor)
  F_law_copy : Fun K "_law_copy" "_law_copy" s_law_copy a.f_law_copy a.d_law_copy
  b_law_copy : Binds K a.d_law_copy ["_law_paper"] []
  m_law_copy : mg "_law_copy" = some (.ref a.f_law_copy)
  F_law_mark : Fun K "_law_mark" "_law_mark" s_law_mark a.f_law_mark a.d_law_mark
  b_law_mark : Binds K a.d_law_mark ["_law_mark_here", "_law_cell_here"] []
  m_law_mark : mg "_law_mark" = some (.ref a.f_law_mark)
  F_Checker_init : Fun K "__init__" "Checker.__init__" s_Checker_init a.f_Checker_init a.d_Checker_init
  b_Checker_init : Binds K a.d_Checker_init ["self", "way"] []
  F_Lists_told_by : Fun K "told_by" "Lists.told_by" s_Lists_told_by a.f_Lists_told_by a.d_Lists_told_by
  b_Lists_told_by : Binds K a.d_Lists_told_by ["self", "paper"] []
  F_are_hands : Fun K "are_hands" "are_hands" s_are_hands a.f_are_hands a.d_are_hands
  b_are_hands : Binds K a.d_are_hands ["thing"] []
  m_are_hands : mg "are_hands" = some (.ref a.f_are_hands)
  F_are_seats : Fun K "are_seats" "are_seats" s_are_seats a.f_are_seats a.d_are_seats
  b_are_seats : Binds K a.d_are_seats ["thing"] []
  m_are_seats : mg "are_seats" = some (.ref a.f_are_seats)
  F_are_lots : Fun K "are_lots" "are_lots" s_are_lots a.f_are_lots a.d_are_lots
  b_are_lots : Binds K a.d_are_lots ["thing", "hands"] []
  m_are_lots : mg "are_lots" = some (.ref a.f_are_lots)
  F_fraction : Fun K "fraction" "fraction" s_fraction a.f_fraction a.d_fraction
  b_fraction : Binds K a.d_fraction ["top", "bottom"] []
  m_fraction : mg "fraction" = some (.ref a.f_fraction)
  F_vote_of : Fun K "vote_of" "vote_of" s_vote_of a.f_vote_of a.d_vote_of
  b_vote_of : Binds K a.d_vote_of ["slip"] []
  m_vote_of : mg "vote_of" = some (.ref a.f_vote_of)
  F_is_hurdle : Fun K "is_hurdle" "is_hurdle" s_is_hurdle a.f_is_hurdle a.d_is_hurdle
  b_is_hurdle : Binds K a.d_is_hurdle ["thing"] []
  m_is_hurdle : mg "is_hurdle" = some (.ref a.f_is_hurdle)
  F_is_step : Fun K "is_step" "is_step" s_is_step a.f_is_step a.d_is_step
  b_is_step : Binds K a.d_is_step ["thing"] []
  m_is_step : mg "is_step" = some (.ref a.f_is_step)
  F_law_lowest : Fun K "_law_lowest" "_law_lowest" s_law_lowest a.f_law_lowest a.d_law_lowest
  b_law_lowest : Binds K a.d_law_lowest ["_law_top", "_law_bottom"] []
  m_law_lowest : mg "_law_lowest" = some (.ref a.f_law_lowest)
  F_law_slip : Fun K "_law_slip" "_law_slip" s_law_slip a.f_law_slip a.d_law_slip
  b_law_slip : Binds K a.d_law_slip ["_law_cell_here", "_law_hands"] []
  m_law_slip : mg "_law_slip" = some (.ref a.f_law_slip)
  F_law_number : Fun K "_law_number" "_law_number" s_law_number a.f_law_number a.d_law_number
  b_law_number : Binds K a.d_law_number ["_law_cell_here", "_law_k", "_law_mode"] []
  m_law_number : mg "_law_number" = some (.ref a.f_law_number)
  F_law_lots : Fun K "_law_lots" "_law_lots" s_law_lots a.f_law_lots a.d_law_lots
  b_law_lots : Binds K a.d_law_lots ["_law_cell_here", "_law_hands"] []
  m_law_lots : mg "_law_lots" = some (.ref a.f_law_lots)
  F_law_rounds : Fun K "_law_rounds" "_law_rounds" s_law_rounds a.f_law_rounds a.d_law_rounds
  b_law_rounds : Binds K a.d_law_rounds ["_law_rounds_here", "_law_way_here", "_law_cell_here", "_law_hands"] []
  m_law_rounds : mg "_law_rounds" = some (.ref a.f_law_rounds)
  F_Lists_least_votes : Fun K "least_votes" "Lists.least_votes" s_Lists_least_votes a.f_Lists_least_votes a.d_Lists_least_votes
  b_Lists_least_votes : Binds K a.d_Lists_least_votes ["self", "ballots"] []
  F_Lists_greatest_mark : Fun K "greatest_mark" "Lists.greatest_mark" s_Lists_greatest_mark a.f_Lists_greatest_mark a.d_Lists_greatest_mark
  b_Lists_greatest_mark : Binds K a.d_Lists_greatest_mark ["self", "marks"] []
  F_votes_of : Fun K "votes_of" "votes_of" s_votes_of a.f_votes_of a.d_votes_of
  b_votes_of : Binds K a.d_votes_of ["sheet", "hands"] []
  m_votes_of : mg "votes_of" = some (.ref a.f_votes_of)
  F_law_sheet : Fun K "_law_sheet" "_law_sheet" s_law_sheet a.f_law_sheet a.d_law_sheet
  b_law_sheet : Binds K a.d_law_sheet ["_law_script", "_law_at", "_law_hands"] []
  m_law_sheet : mg "_law_sheet" = some (.ref a.f_law_sheet)
  F_law_hurdle : Fun K "_law_hurdle" "_law_hurdle" s_law_hurdle a.f_law_hurdle a.d_law_hurdle
  b_law_hurdle : Binds K a.d_law_hurdle ["_law_cell_here"] []
  m_law_hurdle : mg "_law_hurdle" = some (.ref a.f_law_hurdle)
  F_law_spoilt : Fun K "_law_spoilt" "_law_spoilt" s_law_spoilt a.f_law_spoilt a.d_law_spoilt
  b_law_spoilt : Binds K a.d_law_spoilt ["_law_paper", "_law_way_here", "_law_cell_here", "_law_hands"] []
  m_law_spoilt : mg "_law_spoilt" = some (.ref a.f_law_spoilt)
  F_Way_init : FunD K "__init__" "Way.__init__" s_Way_init a.f_Way_init a.d_Way_init
  b_Way_init : Binds K a.d_Way_init ["self", "hands", "seats", "lots"] []
  F_Lists_mark : Fun K "mark" "Lists.mark" s_Lists_mark a.f_Lists_mark a.d_Lists_mark
  b_Lists_mark : Binds K a.d_Lists_mark ["self", "many", "had"] []
  F_law_way : Fun K "_law_way" "_law_way" s_law_way a.f_law_way a.d_law_way
  b_law_way : Binds K a.d_law_way ["_law_script", "_law_hands"] []
  m_law_way : mg "_law_way" = some (.ref a.f_law_way)
  F_Lists_init : FunD K "__init__" "Lists.__init__" s_Lists_init a.f_Lists_init a.d_Lists_init
  b_Lists_init : Binds K a.d_Lists_init ["self", "hands", "seats", "lots", "hurdle", "step"] []
  F_Lists_mark_or_none : Fun K "mark_or_none" "Lists.mark_or_none" s_Lists_mark_or_none a.f_Lists_mark_or_none a.d_Lists_mark_or_none
  b_Lists_mark_or_none : Binds K a.d_Lists_mark_or_none ["self", "many", "least", "had"] []
  F_Lists_marks_of : Fun K "marks_of" "Lists.marks_of" s_Lists_marks_of a.f_Lists_marks_of a.d_Lists_marks_of
  b_Lists_marks_of : Binds K a.d_Lists_marks_of ["self", "votes", "least", "had"] []
  F_Lists_rounds_of : Fun K "rounds_of" "Lists.rounds_of" s_Lists_rounds_of a.f_Lists_rounds_of a.d_Lists_rounds_of
  b_Lists_rounds_of : Binds K a.d_Lists_rounds_of ["self", "votes", "least"] []
  F_Lists_counted : Fun K "counted" "Lists.counted" s_Lists_counted a.f_Lists_counted a.d_Lists_counted
  b_Lists_counted : Binds K a.d_Lists_counted ["self", "sheet"] []
  F_Way_outcome : Fun K "outcome" "Way.outcome" s_Way_outcome a.f_Way_outcome a.d_Way_outcome
  b_Way_outcome : Binds K a.d_Way_outcome ["self", "sheet"] []
  F_ListsChecker_right : Fun K "right" "ListsChecker.right" s_ListsChecker_right a.f_ListsChecker_right a.d_ListsChecker_right
  b_ListsChecker_right : Binds K a.d_ListsChecker_right ["self", "sheet", "paper"] []
  F_Checker_passes : Fun K "passes" "Checker.passes" s_Checker_passes a.f_Checker_passes a.d_Checker_passes
  b_Checker_passes : Binds K a.d_Checker_passes ["self", "sheet", "paper", "outcome"] []
  F_law_longer_let_by : Fun K "_law_longer_let_by" "_law_longer_let_by" s_law_longer_let_by a.f_law_longer_let_by a.d_law_longer_let_by
  b_law_longer_let_by : Binds K a.d_law_longer_let_by ["_law_checker", "_law_told", "_law_lent", "_law_kept"] []
  m_law_longer_let_by : mg "_law_longer_let_by" = some (.ref a.f_law_longer_let_by)
  F_law : Fun K "law" "law" s_law a.f_law a.d_law
  b_law : Binds K a.d_law ["_law_script"] []
  m_law : mg "law" = some (.ref a.f_law)
  z_abs : mg "abs" = none
  z_all : mg "all" = none
  z_bool : mg "bool" = none
  z_int : mg "int" = none
  z_isinstance : mg "isinstance" = none
  z_len : mg "len" = none
  z_list : mg "list" = none
  z_max : mg "max" = none
  z_min : mg "min" = none
  z_range : mg "range" = none
  z_reversed : mg "reversed" = none
  z_sorted : mg "sorted" = none
  z_sum : mg "sum" = none
  z_tuple : mg "tuple" = none
  k_MOST_HANDS : mg "MOST_HANDS" = some (.int 12 a.t_MOST_HANDS)
  k_MOST_SEATS : mg "MOST_SEATS" = some (.int 60 a.t_MOST_SEATS)
  k_MOST_STEP : mg "MOST_STEP" = some (.int 9 a.t_MOST_STEP)
  m_Lists : mg "Lists" = some (.ref a.c_Lists)
  cl_Lists : Cls K a.c_Lists
  mk_Lists : Mk K a.c_Lists a.f_Lists_init
  me_Lists_least_votes : Meth K a.c_Lists "least_votes" a.f_Lists_least_votes
  me_Lists_mark : Meth K a.c_Lists "mark" a.f_Lists_mark
  me_Lists_mark_or_none : Meth K a.c_Lists "mark_or_none" a.f_Lists_mark_or_none
  me_Lists_marks_of : Meth K a.c_Lists "marks_of" a.f_Lists_marks_of
  me_Lists_greatest_mark : Meth K a.c_Lists "greatest_mark" a.f_Lists_greatest_mark
  me_Lists_rounds_of : Meth K a.c_Lists "rounds_of" a.f_Lists_rounds_of
  me_Lists_counted : Meth K a.c_Lists "counted" a.f_Lists_counted
  me_Lists_told_by : Meth K a.c_Lists "told_by" a.f_Lists_told_by
  me_Lists_outcome : Meth K a.c_Lists "outcome" a.f_Way_outcome
  na_Lists_hands : NoAttr K a.c_Lists "hands"
  na_Lists_seats : NoAttr K a.c_Lists "seats"
  na_Lists_lots : NoAttr K a.c_Lists "lots"
  na_Lists_hurdle : NoAttr K a.c_Lists "hurdle"
  na_Lists_step : NoAttr K a.c_Lists "step"
  m_Way : mg "Way" = some (.ref a.c_Way)
  cl_Way : Cls K a.c_Way
  cf_Way_init__ : CFn K a.c_Way "__init__" a.f_Way_init
  m_ListsChecker : mg "ListsChecker" = some (.ref a.c_ListsChecker)
  cl_ListsChecker : Cls K a.c_ListsChecker
  mk_ListsChecker : Mk K a.c_ListsChecker a.f_Checker_init
  me_ListsChecker_right : Meth K a.c_ListsChecker "right" a.f_ListsChecker_right
  me_ListsChecker_passes : Meth K a.c_ListsChecker "passes" a.f_Checker_passes
  na_ListsChecker_way : NoAttr K a.c_ListsChecker "way"
  ia_ListsChecker_Checker : IsaOf K a.c_ListsChecker a.c_Checker
  m_Checker : mg "Checker" = some (.ref a.c_Checker)
  cl_Checker : Cls K a.c_Checker
local macro_rules | `(tactic| trivial) => `(tactic| refine Sz.neg (by trivial))
local macro_rules | `(tactic| trivial) => `(tactic| refine Sz.fdiv (by trivial))
local macro_rules | `(tactic| trivial) => `(tactic| refine Sz.sub (by trivial) (by trivial))
local macro_rules | `(tactic| trivial) => `(tactic| refine Sz.add (by trivial) (by trivial))
local macro_rules | `(tactic| trivial) => `(tactic| refine Sz.mul (by trivial) (by trivial))
local macro_rules | `(tactic| trivial) => `(tactic| exact sz_fmod _ (by first | decide | decide +kernel) (szd 200))
local macro_rules | `(tactic| trivial) => `(tactic| first | assumption | exact szd 64 | exact szd 200 | exact szd 1000)
local macro_rules | `(tactic| and_intros) => `(tactic| (repeat (first | refine ⟨_, rfl, ?_⟩ | refine ⟨_, _, rfl, rfl, ?_⟩ | refine ⟨rfl, ?_⟩ | refine ⟨(by show (_ : Int) ≠ 0; first | decide | decide +kernel), ?_⟩ | refine ⟨⟨(by show (_ : Int) ≠ 0; decide), szd 9000⟩, ?_⟩ | refine ⟨(by show CPow _ _; exact ⟨by decide, by decide, by decide⟩), ?_⟩ | refine ⟨(by show CMulB _ _; refine ⟨_, _, (by trivial), (by trivial), ?_⟩; decide +kernel), ?_⟩ | refine ⟨_, _, _, _, rfl, rfl, SqL.of (by assumption), (by rfl), ?_⟩ | refine ⟨_, _, _, _, rfl, rfl, SqT.of (by assumption), (by rfl), ?_⟩ | refine ⟨_, _, rfl, .inl (SqL.of (by assumption)), ?_⟩ | refine ⟨_, _, rfl, .inr (SqT.of (by assumption)), ?_⟩)))
section
variable {P : Program} {w : World} {K : PySem.W.Frag} {mg : Str → Option Value} {base : Heap} {ad : Ads}
theorem ok_is_whole (T : Tx K mg ad) : FnOk P w K mg base CX0 1 ad.f_is_whole ad.d_is_whole ["thing"] spWhole := by
  refine T.F_is_whole.ok sc_is_whole (fun vs H Q E h => ?_) (fun cdv A outer s H vs Q E hr h => ?_)
  · obtain ⟨c, rfl, _⟩ := h
    rfl
  obtain ⟨c, rfl, q⟩ := h
  refine ⟨_, (@pss_one _ _ _ (@ps_ret _ _ _ _ (@pe_and _ _ _ _ _ _ _ (@pe_callB _ _ _ _ _ _ _ _ _ call_isi (by rfl) T.z_isinstance PyProof.Rows.boot_isinstance (@pa_cons _ _ _ _ _ (pv 0) (@pa_cons _ _ _ _ _ (pe_bltn (v := .ty "int") rfl T.z_int PyProof.Rows.boot_int rfl) pa_nil (by rfl)) (by rfl)) (by decide) (by decide) (by rfl) (by rfl)) (@pe_one _ _ _ _ _ (@pe_not _ _ _ _ (@pe_callB _ _ _ _ _ _ _ _ _ call_isi (by rfl) T.z_isinstance PyProof.Rows.boot_isinstance (@pa_cons _ _ _ _ _ (pv 0) (@pa_cons _ _ _ _ _ (pe_bltn (v := .ty "bool") rfl T.z_bool PyProof.Rows.boot_bool rfl) pa_nil (by rfl)) (by rfl)) (by decide) (by decide) (by rfl) (by rfl))))))), ?_⟩
  refine ⟨_, rfl, _, _, _, _, rfl, TyOf.int c, kit_int_int, _, rfl, ?_⟩
  refine iteT ?_
  exact ⟨_, rfl, _, _, _, _, rfl, TyOf.int c, kit_int_bool, _, rfl, q⟩
theorem ok_divisor (T : Tx K mg ad) : FnOk P w K mg base CX0 1 ad.f_divisor ad.d_divisor ["one", "other"] spDivisor := by
  refine T.F_divisor.ok sc_divisor (fun vs H Q E h => ?_) (fun cdv A outer s H vs Q E hr h => ?_)
  · obtain ⟨a, b, rfl, _⟩ := h
    rfl
  obtain ⟨a, b, rfl, q⟩ := h
  refine ⟨_, (@pss_cons _ _ _ _ _ (@ps_set _ _ (2) _ _ _ _ sc_divisor.nd rfl (Or.inl rfl) (@pe_callB _ _ _ _ _ _ _ _ _ call_abs (by rfl) T.z_abs PyProof.Rows.boot_abs (@pa_cons _ _ _ _ _ (pv 0) pa_nil (by rfl)) (by decide) (by decide) (by rfl) (by rfl)) (by rfl) (by first | exact .inl rfl | exact .inr rfl | assumption)) (@pss_cons _ _ _ _ _ (@ps_set _ _ (3) _ _ _ _ sc_divisor.nd rfl (Or.inl rfl) (@pe_callB _ _ _ _ _ _ _ _ _ call_abs (by rfl) T.z_abs PyProof.Rows.boot_abs (@pa_cons _ _ _ _ _ (pv 1) pa_nil (by rfl)) (by decide) (by decide) (by rfl) (by rfl)) (by rfl) (by first | exact .inl rfl | exact .inr rfl | assumption)) (@pss_cons _ _ _ _ _ (ps_while PassesOwn.never (@pt_cmpR _ _ _ _ _ _ _ _ op_gt (pv 3) pe_int (nomark _)) (@pss_cons _ _ _ _ _ (@ps_set _ _ (4) _ _ _ _ sc_divisor.nd rfl (Or.inl rfl) (@pe_op _ _ _ _ _ _ _ _ op_modN (pv 2) (pv 3)) (by rfl) (by first | exact .inl rfl | exact .inr rfl | assumption)) (@pss_cons _ _ _ _ _ (@ps_set _ _ (2) _ _ _ _ sc_divisor.nd rfl (Or.inl rfl) (pv 3) (by rfl) (by first | exact .inl rfl | exact .inr rfl | assumption)) (@pss_one _ _ _ (@ps_set _ _ (3) _ _ _ _ sc_divisor.nd rfl (Or.inl rfl) (pv 4) (by rfl) (by first | exact .inl rfl | exact .inr rfl | assumption)))))) (@pss_one _ _ _ (@ps_ret _ _ _ _ (pv 2)))))), ?_⟩
  refine ⟨_, rfl, _, rfl, ?_⟩
  refine ⟨_, rfl, _, rfl, ?_⟩
  refine while_by (fun σ' H' => ∃ (x y : Int) (v : Option V), σ' = [some (.int a), some (.int b), some (.int x), some (.int y), v] ∧ H' = H ∧ 0 ≤ x ∧ 0 ≤ y ∧ Int.gcd x y = Int.gcd a b) (fun σ' _ => match σ' with | [_, _, _, some (.int y), _] => y.toNat | _ => 0) ⟨_, _, _, rfl, rfl, ?_, ?_, gcd_abs a b⟩ ?_ while_mono1
  · rw [absI]; omega
  · rw [absI]; omega
  rintro σ1 H1 ⟨x, y, v, rfl, rfl, x0, y0, g⟩
  refine ⟨_, rfl, _, _, rfl, rfl, _, rfl, ?_⟩
  refine ite2 (fun c => ?_) (fun c => ?_)
  · have c' : 0 < y := of_decide_eq_true c
    have m := fmod_in x c'
    refine ⟨_, rfl, _, rfl, _, _, rfl, rfl, Int.ne_of_gt c', ?_⟩
    refine ⟨_, rfl, ?_⟩
    refine ⟨_, rfl, ?_⟩
    refine ⟨⟨y, x.fmod y, _, rfl, rfl, y0, m.1, (gcd_turn x0 c').trans g⟩, ?_⟩
    show (x.fmod y).toNat < y.toNat
    omega
  · have c' : ¬ 0 < y := fun e => c (decide_eq_true e)
    refine ⟨_, rfl, ?_⟩
    have e := gcd_end x0 y0 c'
    have e2 : gcdI x y = gcdI a b := by unfold gcdI; rw [g]
    rw [e, e2]
    exact q
theorem ok_up (T : Tx K mg ad) : FnOk P w K mg base CX0 1 ad.f_up ad.d_up ["top", "bottom"] spUp := by
  refine T.F_up.ok sc_up (fun vs H Q E h => ?_) (fun cdv A outer s H vs Q E hr h => ?_)
  · obtain ⟨t, b, rfl, _⟩ := h
    rfl
  obtain ⟨t, b, rfl, h0, hz, q⟩ := h
  refine ⟨_, (@pss_one _ _ _ (@ps_ret _ _ _ _ (@pe_un _ _ _ _ _ _ un_neg (@pe_op _ _ _ _ _ _ _ _ op_fdivB (@pe_un _ _ _ _ _ _ un_neg (pv 0)) (pv 1))))), ?_⟩
  exact ⟨_, rfl, _, rfl, _, rfl, _, _, rfl, rfl, ⟨Int.ne_of_gt h0, hz⟩, _, rfl, q⟩
theorem ok_under (T : Tx K mg ad) : FnOk P w K mg base CX0 1 ad.f_under ad.d_under ["one", "other"] (spUnder K) := by
  refine T.F_under.ok sc_under (fun vs H Q E h => ?_) (fun cdv A outer s H vs Q E hr h => ?_)
  · obtain ⟨p, r, t, b, u, c, rfl, _⟩ := h
    rfl
  obtain ⟨p, r, t, b, u, c, rfl, h1, h2, st, sb, su, sc, q⟩ := h
  refine ⟨_, (@pss_one _ _ _ (@ps_ret _ _ _ _ (@pe_cmpR _ _ _ _ _ _ _ _ op_lt (@pe_op _ _ _ _ _ _ _ _ op_mulB (@pe_ix _ _ _ _ _ _ _ ix_tup (pv 0) pe_int (fun _ _ => rfl)) (@pe_ix _ _ _ _ _ _ _ ix_tup (pv 1) pe_int (fun _ _ => rfl))) (@pe_op _ _ _ _ _ _ _ _ op_mulB (@pe_ix _ _ _ _ _ _ _ ix_tup (pv 1) pe_int (fun _ _ => rfl)) (@pe_ix _ _ _ _ _ _ _ ix_tup (pv 0) pe_int (fun _ _ => rfl))) (nomark _)))), ?_⟩
  exact ⟨_, rfl, p, _, _, _, rfl, rfl, h1, rfl, _, rfl, r, _, _, _, rfl, rfl, h2, rfl, _, _, rfl, rfl, mulB st sc, _, rfl, r, _, _, _, rfl, rfl, h2, rfl, _, rfl, p, _, _, _, rfl, rfl, h1, rfl, _, _, rfl, rfl, mulB su sb, _, _, rfl, rfl, q⟩
theorem ok_members (T : Tx K mg ad) : FnOk P w K mg base CX0 1 ad.f_members ad.d_members ["mask"] spMembers := by
  refine T.F_members.ok sc_members (fun vs H Q E h => ?_) (fun cdv A outer s H vs Q E hr h => ?_)
  · obtain ⟨m, rfl, _⟩ := h
    rfl
  obtain ⟨m, rfl, m0, m1, q⟩ := h
  refine ⟨_, (@pss_one _ _ _ (@ps_ret _ _ _ _ (pe_comp (fsc := defScope s_members) (N := ["mask"]) (Nc := ["mask", "hand"]) rfl rfl ⟨rfl, by decide +kernel, by decide +kernel, rfl, by decide +kernel, rfl, by decide +kernel, rfl, by decide +kernel⟩ rfl (pi_range1 rfl T.z_range (@pa_cons _ _ _ _ _ (pe_bm0 PySem.F.plainAttrs_int PySem.F.slot_int_bit_length PySem.F.type_int_bit_length mt_bits (pv 0)) pa_nil (by rfl))) (fun _ _ _ _ => (pif_one (@pt_cmpR _ _ _ _ _ _ _ _ op_eq (@pe_op _ _ _ _ _ _ _ _ op_and (@pe_op _ _ _ _ _ _ _ _ op_shr (pv 0) (pv 1)) pe_int) pe_int (nomark _)))) (fun _ _ _ _ => (pv 1))))), ?_⟩
  have hb : (Builtin.Int.intBits m) ≤ 12 := intBits_le_iff.mpr (by show m.natAbs < 4096; omega)
  refine ⟨_, rfl, rfl, m, rfl, rfl, _, rfl, by omega, by omega, ?_⟩
  have en : ((Builtin.Int.intBits m : Nat) : Int).toNat = Builtin.Int.intBits m := by omega
  rw [en]
  refine comp_range (small63 (by omega)) (fun D i ys H' => ys = (hands i (bit m)).map V.int ∧ H' = upd H D (.lst ys)) (fun D hD => ⟨rfl, rfl⟩) (fun D i ys H' ⟨e1, e2⟩ => by rw [e2, e1]; exact ⟨upd_same, by rw [List.length_map]; exact hands_len i (bit m)⟩) ?_ ?_
  · rintro D i ys H' K1 K2 hD hi ⟨e1, rfl⟩ k1 k2
    have ei : (0 + (i : Int)).toNat = i := by omega
    refine ⟨_, rfl, _, rfl, _, _, rfl, rfl, (by show (0 : Int) ≤ 0 + (i : Int); omega), _, _, rfl, rfl, rfl, _, rfl, ?_⟩
    dsimp only
    rw [show decide (V.int (Builtin.bitAnd (m / 2 ^ (0 + (i : Int)).toNat) 1) = V.int 1) = bit m i from by rw [holds_bit, ei]]
    have ms := hands_succ i (bit m)
    cases e : bit m i with
    | true =>
      rw [e, if_pos rfl] at ms
      refine iteT ⟨_, rfl, ?_⟩
      refine k1 _ _ upd_same ⟨?_, by rw [upd_upd]⟩
      rw [ms, List.map_append, e1, Int.zero_add]
      rfl
    | false =>
      rw [e, if_neg (by decide)] at ms
      refine iteF ?_
      exact k2 _ ⟨by rw [ms]; exact e1, rfl⟩
  · rintro D ys H' hD ⟨rfl, rfl⟩
    refine q D _ hD (same_new hD _) ?_
    rw [upd_same, bits_all m0 m1]
theorem ok_ballots_in (T : Tx K mg ad) : FnOk P w K mg base CX0 1 ad.f_ballots_in ad.d_ballots_in ["sheet"] spBallots4 := by
  refine T.F_ballots_in.ok sc_ballots_in (fun vs H Q E h => ?_) (fun cdv A outer s H vs Q E hr h => ?_)
  · obtain ⟨l, ls, h, rfl, _⟩ := h
    rfl
  obtain ⟨l, ls, h, rfl, hl, g, l60, q⟩ := h
  refine ⟨_, (@pss_one _ _ _ (@ps_ret _ _ _ _ (@pe_callB _ _ _ _ _ _ _ _ _ (call_sum rfl) (by rfl) T.z_sum PyProof.Rows.boot_sum (@pa_cons _ _ _ _ _ (pe_comp2 (fsc := defScope s_ballots_in) (N := ["sheet"]) (Nc := ["sheet", "slip", "number"]) rfl rfl ⟨rfl, by decide +kernel, by decide +kernel, by decide +kernel, by decide +kernel, rfl, by decide +kernel, rfl, by decide +kernel⟩ rfl (pi_list (pv 0)) (fun _ _ _ _ => pif_nil) (fun _ _ _ _ => (pv 2))) pa_nil (by rfl)) (by decide) (by decide) (by rfl) (by rfl)))), ?_⟩
  refine ⟨_, rfl, l, rfl, ⟨_, SqL.of hl⟩, ?_⟩
  refine comp_pairs (zs := vls ls) rfl rfl (by rw [vls_len]; exact small63 (by omega)) (fun D i ys H' => ys = ((ls.take i).map fun q => q.2.2.2).map V.int ∧ H' = upd H D (.lst ys)) (fun D hD => ⟨rfl, rfl⟩) (fun D i ys H' ⟨f1, f2⟩ => ⟨by rw [f2]; exact upd_same, by rw [f1, List.length_map, List.length_map]; exact List.length_take_le _ _⟩) (fun D i ys H' hD ⟨_, f2⟩ => by rw [f2]; exact SqL.of (same_new hD _ _ _ hl)) ?_ ?_
  · rintro D i x ys H' K1 K2 hD hx ⟨f1, rfl⟩ k1 k2
    obtain ⟨f, hf, rfl, fm, et⟩ := vls_get hx
    refine ⟨f.1, _, _, rfl, SqT.of (same_new hD _ _ _ (g f fm).1), ?_⟩
    refine yes (ifT rfl ?_)
    refine ⟨_, rfl, ?_⟩
    refine k1 _ _ upd_same ⟨?_, by rw [upd_upd]⟩
    rw [et, List.map_append, List.map_append, f1]
    rfl
  rintro D ys H1 hD ⟨rfl, rfl⟩
  rw [vls_len, List.take_of_length_le (Nat.le_refl _)]
  have s1 := same_new hD (.lst ((ls.map fun q => q.2.2.2).map V.int))
  refine ⟨D, _, rfl, SqL.of upd_same, ?_⟩
  exact q _ s1
theorem ok_law_cell (T : Tx K mg ad) : FnOk P w K mg base CX0 1 ad.f_law_cell ad.d_law_cell ["_law_script", "_law_k"] (spC40 K) := by
  refine T.F_law_cell.ok sc_law_cell (fun vs H Q E h => ?_) (fun cdv A outer s H vs Q E hr h => ?_)
  · obtain ⟨p, ns, k, rfl, _⟩ := h
    rfl
  obtain ⟨p, ns, k, rfl, hS, h63, k0, k1, q⟩ := h
  refine ⟨_, (@pss_cons _ _ _ _ _ (@ps_if _ _ _ _ _ _ _ _ (@pt_cmpR _ _ _ _ _ _ _ _ op_lt (pv 1) (@pe_callB _ _ _ _ _ _ _ _ _ call_len_seq (by rfl) T.z_len PySem.boot_len (@pa_cons _ _ _ _ _ (pv 0) pa_nil (by rfl)) (by decide) (by decide) (by rfl) (by rfl)) (nomark _)) (@pss_one _ _ _ (@ps_ret _ _ _ _ (@pe_op _ _ _ _ _ _ _ _ op_modN (@pe_ix _ _ _ _ _ _ _ ix_list (pv 0) (pv 1) (fun _ _ => rfl)) (@pe_op _ _ _ _ _ _ _ _ op_pow pe_int pe_int)))) pss_nil) (@pss_one _ _ _ (@ps_ret _ _ _ _ (@pe_op _ _ _ _ _ _ _ _ op_modN (@pe_op _ _ _ _ _ _ _ _ op_mulB (@pe_op _ _ _ _ _ _ _ _ op_add (@pe_op _ _ _ _ _ _ _ _ op_mulB (pv 1) (pv 1)) pe_int) pe_int) pe_int)))), ?_⟩
  have hl : (ns.map V.int).length = ns.length := List.length_map _
  have szk : Sz 64 k := sz_of (by omega) (by omega)
  have p40 : (0 : Int) < 10 ^ (40 : Int).toNat := by decide +kernel
  refine ⟨_, rfl, _, rfl, p, _, rfl, .inl hS, _, _, rfl, rfl, _, rfl, ?_⟩
  refine ite2 (fun c => ?_) (fun c => ?_)
  · have c' : k < (((ns.map V.int).length : Nat) : Int) := of_decide_eq_true c
    rw [hl] at c'
    obtain ⟨v, hv⟩ := item_at k0 c'
    refine ⟨_, rfl, _, rfl, p, _, _, _, rfl, rfl, hS, hv, _, _, rfl, rfl, cpow40, _, _, rfl, rfl, (Int.ne_of_gt p40), ?_⟩
    exact q _ (fmod_in v p40).1 (fmod_in v p40).2
  · and_intros
    have m := fmod_in ((k * k + 7) * 48271) (show (0 : Int) < 10007 by decide)
    exact q _ m.1 (Int.lt_trans m.2 (by decide))
theorem ok_law_mixed (T : Tx K mg ad) : FnOk P w K mg base CX0 1 ad.f_law_mixed ad.d_law_mixed ["_law_cell_here", "_law_by"] spMixed := by
  refine T.F_law_mixed.ok sc_law_mixed (fun vs H Q E h => ?_) (fun cdv A outer s H vs Q E hr h => ?_)
  · obtain ⟨c, b, rfl, _⟩ := h
    rfl
  obtain ⟨c, b, rfl, szc, szb, q⟩ := h
  refine ⟨_, (@pss_cons _ _ _ _ _ (@ps_set _ _ (2) _ _ _ _ sc_law_mixed.nd rfl (Or.inl rfl) (@pe_op _ _ _ _ _ _ _ _ op_add (@pe_op _ _ _ _ _ _ _ _ op_mulB (pv 0) pe_int) (@pe_op _ _ _ _ _ _ _ _ op_mulB (pv 1) pe_int)) (by rfl) (by first | exact .inl rfl | exact .inr rfl | assumption)) (@pss_cons _ _ _ _ _ (@ps_set _ _ (2) _ _ _ _ sc_law_mixed.nd rfl (Or.inl rfl) (@pe_op _ _ _ _ _ _ _ _ op_modN (@pe_op _ _ _ _ _ _ _ _ op_add (pv 2) pe_int) (@pe_op _ _ _ _ _ _ _ _ op_add (@pe_op _ _ _ _ _ _ _ _ op_pow pe_int pe_int) pe_int)) (by rfl) (by first | exact .inl rfl | exact .inr rfl | assumption)) (@pss_one _ _ _ (@ps_ret _ _ _ _ (@pe_op _ _ _ _ _ _ _ _ op_fdivB (@pe_op _ _ _ _ _ _ _ _ op_modN (@pe_op _ _ _ _ _ _ _ _ op_mulB (pv 2) (pv 2)) (@pe_op _ _ _ _ _ _ _ _ op_add (@pe_op _ _ _ _ _ _ _ _ op_pow pe_int pe_int) pe_int)) pe_int))))), ?_⟩
  and_intros
  exact q _ (mix_end _).1 (mix_end _).2
theorem ok_law_divisor (T : Tx K mg ad) : FnOk P w K mg base CX0 1 ad.f_law_divisor ad.d_law_divisor ["_law_one", "_law_other"] spDivisor := by
  refine T.F_law_divisor.ok sc_law_divisor (fun vs H Q E h => ?_) (fun cdv A outer s H vs Q E hr h => ?_)
  · obtain ⟨a, b, rfl, _⟩ := h
    rfl
  obtain ⟨a, b, rfl, q⟩ := h
  refine ⟨_, (@pss_cons _ _ _ _ _ (ps_par (i := 0) (j := 1) rfl sc_law_divisor.nd rfl rfl (by decide) rfl rfl (@pa_cons _ _ _ _ _ (@pe_callB _ _ _ _ _ _ _ _ _ call_abs (by rfl) T.z_abs PyProof.Rows.boot_abs (@pa_cons _ _ _ _ _ (pv 0) pa_nil (by rfl)) (by decide) (by decide) (by rfl) (by rfl)) (@pa_cons _ _ _ _ _ (@pe_callB _ _ _ _ _ _ _ _ _ call_abs (by rfl) T.z_abs PyProof.Rows.boot_abs (@pa_cons _ _ _ _ _ (pv 1) pa_nil (by rfl)) (by decide) (by decide) (by rfl) (by rfl)) pa_nil (by rfl)) (by rfl)) rfl) (@pss_cons _ _ _ _ _ (ps_while PassesOwn.never (@pt_cmpR _ _ _ _ _ _ _ _ op_gt (pv 1) pe_int (nomark _)) (@pss_one _ _ _ (ps_par (i := 0) (j := 1) rfl sc_law_divisor.nd rfl rfl (by decide) rfl rfl (@pa_cons _ _ _ _ _ (pv 1) (@pa_cons _ _ _ _ _ (@pe_op _ _ _ _ _ _ _ _ op_modN (pv 0) (pv 1)) pa_nil (by rfl)) (by rfl)) rfl))) (@pss_one _ _ _ (@ps_ret _ _ _ _ (pv 0))))), ?_⟩
  refine ⟨_, rfl, _, rfl, _, rfl, _, rfl, _, _, rfl, ?_⟩
  refine while_by (fun σ' H' => ∃ x y : Int, σ' = [some (.int x), some (.int y)] ∧ H' = H ∧ 0 ≤ x ∧ 0 ≤ y ∧ Int.gcd x y = Int.gcd a b) (fun σ' _ => match σ' with | [_, some (.int y)] => y.toNat | _ => 0) ⟨_, _, rfl, rfl, ?_, ?_, gcd_abs a b⟩ ?_ while_mono1
  · rw [absI]; omega
  · rw [absI]; omega
  rintro σ1 H1 ⟨x, y, rfl, rfl, x0, y0, g⟩
  refine ⟨_, rfl, _, _, rfl, rfl, _, rfl, ?_⟩
  refine ite2 (fun c => ?_) (fun c => ?_)
  · have c' : 0 < y := of_decide_eq_true c
    have m := fmod_in x c'
    refine ⟨_, rfl, _, rfl, _, rfl, _, _, rfl, rfl, Int.ne_of_gt c', _, _, rfl, ?_⟩
    refine ⟨⟨y, x.fmod y, rfl, rfl, y0, m.1, (gcd_turn x0 c').trans g⟩, ?_⟩
    show (x.fmod y).toNat < y.toNat
    omega
  · have c' : ¬ 0 < y := fun e => c (decide_eq_true e)
    refine ⟨_, rfl, ?_⟩
    have e := gcd_end x0 y0 c'
    have e2 : gcdI x y = gcdI a b := by unfold gcdI; rw [g]
    rw [e, e2]
    exact q
theorem ok_law_copy (T : Tx K mg ad) : FnOk P w K mg base CX0 1 ad.f_law_copy ad.d_law_copy ["_law_paper"] spCopy68 := by
  refine T.F_law_copy.ok sc_law_copy (fun vs H Q E h => ?_) (fun cdv A outer s H vs Q E hr h => ?_)
  · obtain ⟨p, xs, ns, l, st, h, s, rfl, _⟩ := h
    rfl
  obtain ⟨p, xs, ns, l, st, h, s, rfl, pp, sn, q⟩ := h
  refine ⟨_, (@pss_one _ _ _ (@ps_ret _ _ _ _ (@pe_tup _ _ _ _ _ (@pa_cons _ _ _ _ _ (@pe_callTy _ _ _ _ _ _ _ _ _ call_list_of (by rfl) T.z_list PyProof.Rows.boot_list (@pa_cons _ _ _ _ _ (@pe_ix _ _ _ _ _ _ _ ix_tup (pv 0) pe_int (fun _ _ => rfl)) pa_nil (by rfl)) (by decide) (by decide) (by rfl) (by rfl)) (@pa_cons _ _ _ _ _ (@pe_ix _ _ _ _ _ _ _ ix_tup (pv 0) pe_int (fun _ _ => rfl)) (@pa_cons _ _ _ _ _ (pe_comp2 (fsc := defScope s_law_copy) (N := ["_law_paper"]) (Nc := ["_law_paper", "_law_marks", "_law_hand"]) rfl rfl ⟨rfl, by decide +kernel, by decide +kernel, by decide +kernel, by decide +kernel, rfl, by decide +kernel, rfl, by decide +kernel⟩ rfl (pi_list (@pe_ix _ _ _ _ _ _ _ ix_tup (pv 0) pe_int (fun _ _ => rfl))) (fun _ _ _ _ => pif_nil) (fun _ _ _ _ => (@pe_tup _ _ _ _ _ (@pa_cons _ _ _ _ _ (@pe_callTy _ _ _ _ _ _ _ _ _ (call_list_ofK K) (by rfl) T.z_list PyProof.Rows.boot_list (@pa_cons _ _ _ _ _ (pv 1) pa_nil (by rfl)) (by decide) (by decide) (by rfl) (by rfl)) (@pa_cons _ _ _ _ _ (pv 2) pa_nil (by rfl)) (by rfl))))) pa_nil (by rfl)) (by rfl)) (by rfl))))), ?_⟩
  obtain ⟨pv, pr, p1, p2, ms, r1, r2, r3⟩ := id pp
  have mk60 : ms.length ≤ 60 := by rw [r2]; unfold many; have := sn.s60; split <;> omega
  have l1 := sn.l1
  have st1 := sn.st1
  and_intros
  intro va hva
  have s1 := same_new hva (.lst (xs.map V.int))
  have e1 : (upd H va (.lst (xs.map V.int))) va = some (.lst (xs.map V.int)) := upd_same
  generalize upd H va (.lst (xs.map V.int)) = H1 at s1 e1 ⊢
  have p1' := s1 _ _ p1
  have r1' := s1 _ _ r1
  and_intros
  refine ⟨⟨_, SqL.of r1'⟩, ?_⟩
  refine comp_pairs (zs := ms.map fun q => V.ref q.1) rfl rfl (by rw [List.length_map]; exact small63 (by omega)) (fun D i ys J => ∃ rs : List Rd, ys = rv rs ∧ rs.length = i ∧ J D = some (.lst ys) ∧ Same H1 J ∧ (∀ q ∈ rs, RdN H1 J D h q) ∧ ∀ n y, rs[n]? = some y → rD y = roundD xs ns l st h n) (fun D hD => ⟨[], rfl, rfl, upd_same, same_new hD _, (fun _ m => nomatch m), fun n y e => by rw [List.getElem?_nil] at e; cases e⟩) (fun D i ys J ⟨rs, f1, f2, f3, _⟩ => ⟨f3, by rw [f1]; unfold rv; rw [List.length_map, f2]; exact Nat.le_refl _⟩) (fun D i ys J hD ⟨_, _, _, _, f4, _⟩ => SqL.of (f4 _ _ r1')) ?_ ?_
  · rintro D i x ys J K1 K2 hD hx ⟨rs, rfl, f2, f3, f4, f5, f6⟩ kk1 kk2
    rw [List.getElem?_map] at hx
    obtain ⟨q0, hq, rfl⟩ := Option.map_eq_some_iff.mp hx
    have hi := (List.getElem?_eq_some_iff.mp hq).1
    obtain ⟨t0, m0⟩ := r3 i q0 hq
    have sJ := s1.trans f4
    obtain ⟨mk, k1, k2, k3, k4, k5⟩ := (m0.same sJ).copy l1 (by omega) (sn.had60 (by omega)) sn.st9 sn.big
    refine ⟨q0.1, _, _, rfl, SqT.of (sJ _ _ t0), ?_⟩
    refine yes (ifT rfl ?_)
    refine ⟨_, rfl, ?_⟩
    refine ⟨q0.2, _, rfl, .inl (SqL.of k1), fun c hc => ?_⟩
    have s2 := same_new hc (.lst (mk.map mv))
    have e2 : (upd J c (.lst (mk.map mv))) c = some (.lst (mk.map mv)) := upd_same
    generalize upd J c (.lst (mk.map mv)) = J1 at s2 e2 ⊢
    refine ⟨_, rfl, (by show 2 ≤ sizeLine; decide), fun t ht => ?_⟩
    have s3 := same_new ht (.tup [V.ref c, V.int (pick xs ns (hadAt xs ns l st h i) l st)])
    have e3 : (upd J1 t (.tup [V.ref c, V.int (pick xs ns (hadAt xs ns l st h i) l st)])) t = some (.tup [V.ref c, V.int (pick xs ns (hadAt xs ns l st h i) l st)]) := upd_same
    generalize upd J1 t (.tup [V.ref c, V.int (pick xs ns (hadAt xs ns l st h i) l st)]) = J2 at s3 e3 ⊢
    have s23 := s2.trans s3
    have f3' := s23 _ _ f3
    have cD : c ≠ D := fun z => by rw [z, f3] at hc; cases hc
    refine kk1 _ _ f3' ⟨rs ++ [(t, c, mk, pick xs ns (hadAt xs ns l st h i) l st)], by unfold rv; rw [List.map_append]; rfl, by rw [List.length_append, f2]; rfl, upd_same, same_upd (f4.trans s23) hD, fun y m => ?_, fun n y e => ?_⟩
    · rcases List.mem_append.mp m with m | m
      · have z := f5 y m
        exact ⟨(z.g.same s23).upd f3' z.n, z.f, z.n, z.len, z.lim⟩
      · rw [List.mem_singleton.mp m]
        exact ⟨RdG.upd ⟨e3, s3 _ _ e2, fun m k => (k2 m k).same s23⟩ f3' cD, none_of f4 hc, cD, k3, k4⟩
    · rcases (by omega : n < i ∨ n = i ∨ i < n) with lt | eq | gt
      · rw [List.getElem?_append_left (by omega)] at e
        exact f6 n y e
      · subst eq
        rw [← f2, List.getElem?_append_right (Nat.le_refl _), Nat.sub_self] at e
        cases Option.some.inj e
        rw [f2]
        show PyData.tuple [.list (mk.map mD), _] = _
        rw [k5]
        rfl
      · rw [List.getElem?_eq_none (by rw [List.length_append, f2]; exact gt)] at e
        cases e
  rintro D ys J hD ⟨rs, rfl, f2, f3, f4, f5, f6⟩
  rw [List.length_map, r2] at f2
  refine ⟨(by show 3 ≤ sizeLine; decide), fun t ht => ?_⟩
  have s4 := same_new ht (.tup [V.ref va, V.int l, V.ref D])
  refine q t va D rs H1 _ s1 hva e1 hD (f4.trans s4) upd_same (s4 _ _ f3) (fun y m => ?_) (by rw [f2, ← r2]; exact mk60) ?_
  · have z := f5 y m
    exact ⟨z.g.same s4, z.f, z.n, z.len, z.lim⟩
  · refine List.ext_getElem? fun n => ?_
    by_cases c : n < many xs ns l s
    · obtain ⟨y, hy⟩ : ∃ y, rs[n]? = some y := ⟨_, List.getElem?_eq_getElem (by omega)⟩
      rw [List.getElem?_map, hy, List.getElem?_map, List.getElem?_range c]
      exact congrArg some (f6 n y hy)
    · rw [List.getElem?_eq_none (by rw [List.length_map]; omega), List.getElem?_eq_none (by rw [List.length_map, List.length_range]; omega)]
theorem ok_law_mark (T : Tx K mg ad) : FnOk P w K mg base CX0 1 ad.f_law_mark ad.d_law_mark ["_law_mark_here", "_law_cell_here"] spMark68 := by
  refine T.F_law_mark.ok sc_law_mark (fun vs H Q E h => ?_) (fun cdv A outer s H vs Q E hr h => ?_)
  · obtain ⟨m, c, rfl, _⟩ := h
    rfl
  obtain ⟨m, c, rfl, mg', lim, c0, szc, q⟩ := h
  refine ⟨_, (@pss_cons _ _ _ _ _ (@ps_if _ _ _ _ _ _ _ _ (@pt_cmpR _ _ _ _ _ _ _ _ op_isN (pv 0) pe_non (nomark _)) (@pss_one _ _ _ (@ps_ret _ _ _ _ (@pe_tup _ _ _ _ _ (@pa_cons _ _ _ _ _ (@pe_op _ _ _ _ _ _ _ _ op_add pe_int (@pe_op _ _ _ _ _ _ _ _ op_modN (pv 1) pe_int)) (@pa_cons _ _ _ _ _ pe_int pa_nil (by rfl)) (by rfl))))) pss_nil) (@pss_cons _ _ _ _ _ (@ps_set _ _ (2) _ _ _ _ sc_law_mark.nd rfl (Or.inl rfl) (@pe_lst _ _ _ _ (@pa_cons _ _ _ _ _ pe_non (@pa_cons _ _ _ _ _ (@pe_tup _ _ _ _ _ (@pa_cons _ _ _ _ _ (@pe_op _ _ _ _ _ _ _ _ op_add (@pe_ix _ _ _ _ _ _ _ ix_tup (pv 0) pe_int (fun _ _ => rfl)) pe_int) (@pa_cons _ _ _ _ _ (@pe_ix _ _ _ _ _ _ _ ix_tup (pv 0) pe_int (fun _ _ => rfl)) pa_nil (by rfl)) (by rfl))) (@pa_cons _ _ _ _ _ (@pe_tup _ _ _ _ _ (@pa_cons _ _ _ _ _ (@pe_ix _ _ _ _ _ _ _ ix_tup (pv 0) pe_int (fun _ _ => rfl)) (@pa_cons _ _ _ _ _ (@pe_op _ _ _ _ _ _ _ _ op_add (@pe_ix _ _ _ _ _ _ _ ix_tup (pv 0) pe_int (fun _ _ => rfl)) pe_int) pa_nil (by rfl)) (by rfl))) (@pa_cons _ _ _ _ _ (@pe_tup _ _ _ _ _ (@pa_cons _ _ _ _ _ (@pe_op _ _ _ _ _ _ _ _ op_mulB pe_int (@pe_ix _ _ _ _ _ _ _ ix_tup (pv 0) pe_int (fun _ _ => rfl))) (@pa_cons _ _ _ _ _ (@pe_op _ _ _ _ _ _ _ _ op_mulB pe_int (@pe_ix _ _ _ _ _ _ _ ix_tup (pv 0) pe_int (fun _ _ => rfl))) pa_nil (by rfl)) (by rfl))) pa_nil (by rfl)) (by rfl)) (by rfl)) (by rfl))) (by rfl) (by first | exact .inl rfl | exact .inr rfl | assumption)) (@pss_cons _ _ _ _ _ (@ps_set _ _ (2) _ _ _ _ sc_law_mark.nd rfl (Or.inl rfl) (@pe_op _ _ _ _ _ _ _ _ op_cat (pv 2) (@pe_lst _ _ _ _ (@pa_cons _ _ _ _ _ (@pe_tup _ _ _ _ _ (@pa_cons _ _ _ _ _ (@pe_ix _ _ _ _ _ _ _ ix_tup (pv 0) pe_int (fun _ _ => rfl)) (@pa_cons _ _ _ _ _ pe_int pa_nil (by rfl)) (by rfl))) (@pa_cons _ _ _ _ _ (@pe_tup _ _ _ _ _ (@pa_cons _ _ _ _ _ (@pe_un _ _ _ _ _ _ un_neg (@pe_ix _ _ _ _ _ _ _ ix_tup (pv 0) pe_int (fun _ _ => rfl))) (@pa_cons _ _ _ _ _ (@pe_un _ _ _ _ _ _ un_neg (@pe_ix _ _ _ _ _ _ _ ix_tup (pv 0) pe_int (fun _ _ => rfl))) pa_nil (by rfl)) (by rfl))) (@pa_cons _ _ _ _ _ (@pe_tup _ _ _ _ _ (@pa_cons _ _ _ _ _ pe_int (@pa_cons _ _ _ _ _ pe_int pa_nil (by rfl)) (by rfl))) (@pa_cons _ _ _ _ _ (@pe_tup _ _ _ _ _ (@pa_cons _ _ _ _ _ (@pe_ix _ _ _ _ _ _ _ ix_tup (pv 0) pe_int (fun _ _ => rfl)) (@pa_cons _ _ _ _ _ (@pe_un _ _ _ _ _ _ un_neg (@pe_ix _ _ _ _ _ _ _ ix_tup (pv 0) pe_int (fun _ _ => rfl))) pa_nil (by rfl)) (by rfl))) pa_nil (by rfl)) (by rfl)) (by rfl)) (by rfl)))) (by rfl) (by first | exact .inl rfl | exact .inr rfl | assumption)) (@pss_one _ _ _ (@ps_ret _ _ _ _ (@pe_ix _ _ _ _ _ _ _ ix_list (pv 2) (@pe_op _ _ _ _ _ _ _ _ op_modN (pv 1) pe_int) (fun _ _ => rfl))))))), ?_⟩
  have m9 := fmod_in c (show (0 : Int) < 9 by decide)
  have m8 := fmod_in c (show (0 : Int) < 8 by decide)
  cases m with
  | none =>
    and_intros
    refine ⟨(by show 2 ≤ sizeLine; decide), fun t ht => ?_⟩
    exact q (some (t, 1 + c.fmod 9, 1)) _ (same_new ht _) (fun q e => by cases Option.some.inj e; exact upd_same)
  | some p =>
    obtain ⟨p, x, y⟩ := p
    obtain ⟨x0, x1, y0, y1⟩ := lim p x y rfl
    have hp := mg' _ rfl
    have szx : Sz 64 x := sz_of (by omega) (by omega)
    have szy : Sz 64 y := sz_of (by omega) (by omega)
    and_intros
    refine ⟨(by show 2 ≤ sizeLine; decide), fun a0 ha0 => ?_⟩
    dsimp only
    have as0 := same_new ha0 (.tup [V.int (x + 1), V.int y])
    have ae0 : (upd H a0 (.tup [V.int (x + 1), V.int y])) a0 = some (.tup [V.int (x + 1), V.int y]) := upd_same
    generalize upd H a0 (.tup [V.int (x + 1), V.int y]) = aH0 at as0 ae0 ⊢
    replace hp := as0 _ _ hp
    and_intros
    refine ⟨(by show 2 ≤ sizeLine; decide), fun a1 ha1 => ?_⟩
    dsimp only
    have as1 := same_new ha1 (.tup [V.int x, V.int (y + 1)])
    have ae1 : (upd aH0 a1 (.tup [V.int x, V.int (y + 1)])) a1 = some (.tup [V.int x, V.int (y + 1)]) := upd_same
    generalize upd aH0 a1 (.tup [V.int x, V.int (y + 1)]) = aH1 at as1 ae1 ⊢
    replace hp := as1 _ _ hp
    and_intros
    refine ⟨(by show 2 ≤ sizeLine; decide), fun a2 ha2 => ?_⟩
    dsimp only
    have as2 := same_new ha2 (.tup [V.int (2 * x), V.int (2 * y)])
    have ae2 : (upd aH1 a2 (.tup [V.int (2 * x), V.int (2 * y)])) a2 = some (.tup [V.int (2 * x), V.int (2 * y)]) := upd_same
    generalize upd aH1 a2 (.tup [V.int (2 * x), V.int (2 * y)]) = aH2 at as2 ae2 ⊢
    replace hp := as2 _ _ hp
    refine ⟨(by show 4 ≤ sizeLine; decide), fun u1 hu1 => ?_⟩
    have w1 := same_new hu1 (.lst [V.non, V.ref a0, V.ref a1, V.ref a2])
    have f1 : (upd aH2 u1 (.lst [V.non, V.ref a0, V.ref a1, V.ref a2])) u1 = some (.lst [V.non, V.ref a0, V.ref a1, V.ref a2]) := upd_same
    generalize upd aH2 u1 (.lst [V.non, V.ref a0, V.ref a1, V.ref a2]) = A1 at w1 f1 ⊢
    replace hp := w1 _ _ hp
    and_intros
    refine ⟨(by show 2 ≤ sizeLine; decide), fun b0 hb0 => ?_⟩
    dsimp only
    have bs0 := same_new hb0 (.tup [V.int x, V.int 0])
    have be0 : (upd A1 b0 (.tup [V.int x, V.int 0])) b0 = some (.tup [V.int x, V.int 0]) := upd_same
    generalize upd A1 b0 (.tup [V.int x, V.int 0]) = bH0 at bs0 be0 ⊢
    replace hp := bs0 _ _ hp
    and_intros
    refine ⟨(by show 2 ≤ sizeLine; decide), fun b1 hb1 => ?_⟩
    dsimp only
    have bs1 := same_new hb1 (.tup [V.int (-x), V.int (-y)])
    have be1 : (upd bH0 b1 (.tup [V.int (-x), V.int (-y)])) b1 = some (.tup [V.int (-x), V.int (-y)]) := upd_same
    generalize upd bH0 b1 (.tup [V.int (-x), V.int (-y)]) = bH1 at bs1 be1 ⊢
    replace hp := bs1 _ _ hp
    and_intros
    refine ⟨(by show 2 ≤ sizeLine; decide), fun b2 hb2 => ?_⟩
    dsimp only
    have bs2 := same_new hb2 (.tup [V.int 0, V.int 0])
    have be2 : (upd bH1 b2 (.tup [V.int 0, V.int 0])) b2 = some (.tup [V.int 0, V.int 0]) := upd_same
    generalize upd bH1 b2 (.tup [V.int 0, V.int 0]) = bH2 at bs2 be2 ⊢
    replace hp := bs2 _ _ hp
    and_intros
    refine ⟨(by show 2 ≤ sizeLine; decide), fun b3 hb3 => ?_⟩
    dsimp only
    have bs3 := same_new hb3 (.tup [V.int x, V.int (-y)])
    have be3 : (upd bH2 b3 (.tup [V.int x, V.int (-y)])) b3 = some (.tup [V.int x, V.int (-y)]) := upd_same
    generalize upd bH2 b3 (.tup [V.int x, V.int (-y)]) = bH3 at bs3 be3 ⊢
    replace hp := bs3 _ _ hp
    refine ⟨(by show 4 ≤ sizeLine; decide), fun u2 hu2 => ?_⟩
    have w2 := same_new hu2 (.lst [V.ref b0, V.ref b1, V.ref b2, V.ref b3])
    have f2 : (upd bH3 u2 (.lst [V.ref b0, V.ref b1, V.ref b2, V.ref b3])) u2 = some (.lst [V.ref b0, V.ref b1, V.ref b2, V.ref b3]) := upd_same
    generalize upd bH3 u2 (.lst [V.ref b0, V.ref b1, V.ref b2, V.ref b3]) = B1 at w2 f2 ⊢
    have bb : Same A1 B1 := (bs0.trans (bs1.trans (bs2.trans bs3))).trans w2
    refine ⟨u1, u2, _, _, rfl, rfl, bb _ _ f1, f2, (by show 8 ≤ sizeLine; decide), fun u3 hu3 => ?_⟩
    have w3 := same_new hu3 (.lst ([V.non, V.ref a0, V.ref a1, V.ref a2] ++ [V.ref b0, V.ref b1, V.ref b2, V.ref b3]))
    have f3 : (upd B1 u3 (.lst ([V.non, V.ref a0, V.ref a1, V.ref a2] ++ [V.ref b0, V.ref b1, V.ref b2, V.ref b3]))) u3 = some (.lst ([V.non, V.ref a0, V.ref a1, V.ref a2] ++ [V.ref b0, V.ref b1, V.ref b2, V.ref b3])) := upd_same
    generalize upd B1 u3 (.lst ([V.non, V.ref a0, V.ref a1, V.ref a2] ++ [V.ref b0, V.ref b1, V.ref b2, V.ref b3])) = C1 at w3 f3 ⊢
    have cc := bb.trans w3
    have aa : Same H A1 := (as0.trans (as1.trans as2)).trans w1
    have pk : ∃ m' : Mrk, atI ([V.non, V.ref a0, V.ref a1, V.ref a2] ++ [V.ref b0, V.ref b1, V.ref b2, V.ref b3]) (c.fmod 8) = some (mv m') ∧ MkG C1 m' := by
      rcases (by omega : c.fmod 8 = 0 ∨ c.fmod 8 = 1 ∨ c.fmod 8 = 2 ∨ c.fmod 8 = 3 ∨ c.fmod 8 = 4 ∨ c.fmod 8 = 5 ∨ c.fmod 8 = 6 ∨ c.fmod 8 = 7) with e | e | e | e | e | e | e | e <;> rw [e]
      · exact ⟨none, rfl, fun q z => nomatch z⟩
      · exact ⟨some (a0, x + 1, y), rfl, fun q z => by cases Option.some.inj z; exact ((as1.trans as2).trans (w1.trans cc)) _ _ ae0⟩
      · exact ⟨some (a1, x, y + 1), rfl, fun q z => by cases Option.some.inj z; exact (as2.trans (w1.trans cc)) _ _ ae1⟩
      · exact ⟨some (a2, 2 * x, 2 * y), rfl, fun q z => by cases Option.some.inj z; exact (w1.trans cc) _ _ ae2⟩
      · exact ⟨some (b0, x, 0), rfl, fun q z => by cases Option.some.inj z; exact ((bs1.trans (bs2.trans bs3)).trans (w2.trans w3)) _ _ be0⟩
      · exact ⟨some (b1, -x, -y), rfl, fun q z => by cases Option.some.inj z; exact ((bs2.trans bs3).trans (w2.trans w3)) _ _ be1⟩
      · exact ⟨some (b2, 0, 0), rfl, fun q z => by cases Option.some.inj z; exact (bs3.trans (w2.trans w3)) _ _ be2⟩
      · exact ⟨some (b3, x, -y), rfl, fun q z => by cases Option.some.inj z; exact (w2.trans w3) _ _ be3⟩
    obtain ⟨m', hm, g'⟩ := pk
    and_intros
    refine ⟨u3, _, _, _, rfl, rfl, SqL.of f3, hm, ?_⟩
    exact q m' C1 (aa.trans cc) g'
theorem ok_Checker_init (T : Tx K mg ad) : FnOk P w K mg base CX0 1 ad.f_Checker_init ad.d_Checker_init ["self", "way"] (spMarginInit K) := by
  refine T.F_Checker_init.ok sc_Checker_init (fun vs H Q E h => ?_) (fun cdv A outer s H vs Q E hr h => ?_)
  · obtain ⟨g, C, dx, a, rfl, _⟩ := h
    rfl
  obtain ⟨g, C, dx, a, rfl, hg, cl, na, q⟩ := h
  refine ⟨_, (@pss_one _ _ _ (ps_fld (pv 0) (pv 1) rfl)), ?_⟩
  refine ⟨_, rfl, _, rfl, g, C, dx, [], rfl, hg, cl, na, (by simp only [List.length_nil]; decide), ?_⟩
  rw [putM]
  exact q _ (off_put (off_le H g)) upd_same
theorem ok_Lists_told_by (T : Tx K mg ad) : FnOk P w K mg base CX0 1 ad.f_Lists_told_by ad.d_Lists_told_by ["self", "paper"] (spToldBy ad.c_Lists) := by
  refine T.F_Lists_told_by.ok sc_Lists_told_by (fun vs H Q E h => ?_) (fun cdv A outer s H vs Q E hr h => ?_)
  · obtain ⟨a, p, h, s, st, u, v, ns, xs, l, rfl, _⟩ := h
    rfl
  obtain ⟨a, p, h, s, st, u, v, ns, xs, l, rfl, il, sn, pp, q⟩ := h
  refine ⟨_, (@pss_cons _ _ _ _ _ (@ps_set _ _ (2) _ _ _ _ sc_Lists_told_by.nd rfl (Or.inr rfl) (pe_comp2 (fsc := defScope s_Lists_told_by) (N := ["self", "paper", "given"]) (Nc := ["self", "paper", "given", "marks", "hand"]) rfl rfl ⟨rfl, by decide +kernel, by decide +kernel, by decide +kernel, by decide +kernel, rfl, by decide +kernel, rfl, by decide +kernel⟩ rfl (pi_list (@pe_ix _ _ _ _ _ _ _ ix_tup (pv 1) pe_int (fun _ _ => rfl))) (fun _ _ _ _ => pif_nil) (fun _ _ _ _ => (pv 4))) (by rfl) (by first | exact .inl rfl | exact .inr rfl | assumption)) (@pss_one _ _ _ (@ps_ret _ _ _ _ (pe_comp (fsc := defScope s_Lists_told_by) (N := ["self", "paper", "given"]) (Nc := ["self", "paper", "given", "hand"]) rfl rfl ⟨rfl, by decide +kernel, by decide +kernel, rfl, by decide +kernel, rfl, by decide +kernel, rfl, by decide +kernel⟩ rfl (pi_range1 rfl T.z_range (@pa_cons _ _ _ _ _ (pe_fld (pv 0) rfl) pa_nil (by rfl))) (fun _ _ _ _ => pif_nil) (fun _ _ _ _ => (@pe_bmK _ _ _ _ _ _ _ _ _ _ _ _ K PySem.F.plainAttrs_list PySem.F.slot_list_count PySem.F.type_list_count (mt_count (K := K)) (pv 2) (@pa_cons _ _ _ _ _ (pv 3) pa_nil (by rfl)) (by rfl) (by rfl) (by rfl) (by rfl) (by rfl) (by rfl))))))), ?_⟩
  obtain ⟨dx, la, t, k1, k2, k3⟩ := id il
  obtain ⟨pv, pr, p1, p2, ms, r1, r2, r3⟩ := id pp
  have h12 := sn.h12
  have mk60 : ms.length ≤ 60 := by rw [r2]; unfold many; have := sn.s60; split <;> omega
  refine ⟨_, rfl, p, _, _, _, rfl, rfl, SqT.of p1, rfl, ?_⟩
  refine ⟨pr, rfl, ⟨_, SqL.of r1⟩, ?_⟩
  refine comp_pairs (zs := ms.map fun q => V.ref q.1) rfl rfl (by rw [List.length_map]; exact small63 (by omega)) (fun D i ys H' => ys = (picks xs ns l st h i).map V.int ∧ H' = upd H D (.lst ys)) (fun D hD => ⟨rfl, rfl⟩) (fun D i ys H' ⟨f1, f2⟩ => ⟨by rw [f2]; exact upd_same, by rw [f1, List.length_map, picks_len]; exact Nat.le_refl _⟩) (fun D i ys H' hD ⟨_, f2⟩ => by rw [f2]; exact SqL.of (same_new hD _ _ _ r1)) ?_ ?_
  · rintro D i x ys H' K1 K2 hD hx ⟨f1, rfl⟩ c1 c2
    rw [List.getElem?_map] at hx
    obtain ⟨q0, hq, rfl⟩ := Option.map_eq_some_iff.mp hx
    refine ⟨q0.1, _, _, rfl, SqT.of (same_new hD _ _ _ (r3 i q0 hq).1), ?_⟩
    refine yes (ifT rfl ?_)
    refine ⟨_, rfl, ?_⟩
    refine c1 _ _ upd_same ⟨?_, by rw [upd_upd]⟩
    rw [f1, picks_succ, List.map_append]
    rfl
  rintro D ys H1 hD ⟨rfl, rfl⟩
  rw [List.length_map, r2]
  have s1 := same_new hD (.lst ((picks xs ns l st h (many xs ns l s)).map V.int))
  have e1 : (upd H D (.lst ((picks xs ns l st h (many xs ns l s)).map V.int))) D = some (.lst ((picks xs ns l st h (many xs ns l s)).map V.int)) := upd_same
  generalize upd H D (.lst ((picks xs ns l st h (many xs ns l s)).map V.int)) = H1 at s1 e1 ⊢
  refine ⟨_, rfl, a, _, dx, _, _, rfl, s1 _ _ k1, T.cl_Lists, T.na_Lists_hands, rfl, ?_⟩
  and_intros
  refine ⟨by omega, by omega, ?_⟩
  refine comp_range (small63 (by omega)) (fun D2 i ys H' => ys = ((List.range i).map fun j : Nat => (((picks xs ns l st h (many xs ns l s)).count (j : Int) : Nat) : Int)).map V.int ∧ H' = upd H1 D2 (.lst ys)) (fun D2 hD2 => ⟨rfl, rfl⟩) (fun D2 i ys H' ⟨f1, f2⟩ => ⟨by rw [f2]; exact upd_same, by rw [f1, List.length_map, List.length_map, List.length_range]; exact Nat.le_refl _⟩) ?_ ?_
  · rintro D2 i ys H' K1 K2 hD2 hi ⟨f1, rfl⟩ c1 c2
    refine yes (ifT rfl ?_)
    have e1' := same_new hD2 (.lst ys) _ _ e1
    refine ⟨_, rfl, .inl ⟨rfl, _, SqL.of e1'⟩, _, rfl, D, _, _, rfl, rfl, SqL.of e1', ?_⟩
    refine c1 _ _ upd_same ⟨?_, by rw [upd_upd]⟩
    rw [f1, List.range_succ, List.map_append, List.map_append, Int.zero_add]
    rfl
  rintro D2 ys H2 hD2 ⟨rfl, rfl⟩
  have fin : ((List.range h).map fun j : Nat => (((picks xs ns l st h (many xs ns l s)).count (j : Int) : Nat) : Int)) = hadAt xs ns l st h (many xs ns l s) := by
    by_cases c : takers xs ns l = []
    · have e : many xs ns l s = 0 := if_pos c
      rw [e]
      exact had_zero
    · exact had_eq (sn.pk c) _
  rw [Int.toNat_natCast, fin]
  exact q D2 _ (none_of s1 hD2) (s1.trans (same_new hD2 _)) upd_same
theorem ok_are_hands (T : Tx K mg ad) : FnOk P w K mg base CX0 2 ad.f_are_hands ad.d_are_hands ["thing"] spHands := by
  refine T.F_are_hands.ok sc_are_hands (fun vs H Q E h => ?_) (fun cdv A outer s H vs Q E hr h => ?_)
  · obtain ⟨n, rfl, _⟩ := h
    rfl
  obtain ⟨n, rfl, n0, n1, q⟩ := h
  refine ⟨_, (@pss_one _ _ _ (@ps_ret _ _ _ _ (@pe_and _ _ _ _ _ _ _ (@pe_call _ _ _ _ _ _ _ _ _ _ _ _ _ _ _ _ (ok_is_whole T) (hr.mono (by decide)) rfl T.m_is_whole T.F_is_whole.kp T.b_is_whole .nil pass0 (@pa_cons _ _ _ _ _ (pv 0) pa_nil (by rfl)) (by decide) (by rfl) (by rfl)) (@pe_one _ _ _ _ _ (pe_chain op_le op_le pe_int (pv 0) (pe_glob (v := .int 12) rfl T.k_MOST_HANDS ⟨_, rfl⟩)))))), ?_⟩
  refine ⟨_, rfl, n, rfl, ?_⟩
  and_intros
  refine ifT (decide_eq_true n0) ?_
  and_intros
  show Q (.bl (decide (n ≤ 12))) H
  rw [decide_eq_true n1]
  exact q
theorem ok_are_seats (T : Tx K mg ad) : FnOk P w K mg base CX0 2 ad.f_are_seats ad.d_are_seats ["thing"] spSeats := by
  refine T.F_are_seats.ok sc_are_seats (fun vs H Q E h => ?_) (fun cdv A outer s H vs Q E hr h => ?_)
  · obtain ⟨n, rfl, _⟩ := h
    rfl
  obtain ⟨n, rfl, n0, n1, q⟩ := h
  refine ⟨_, (@pss_one _ _ _ (@ps_ret _ _ _ _ (@pe_and _ _ _ _ _ _ _ (@pe_call _ _ _ _ _ _ _ _ _ _ _ _ _ _ _ _ (ok_is_whole T) (hr.mono (by decide)) rfl T.m_is_whole T.F_is_whole.kp T.b_is_whole .nil pass0 (@pa_cons _ _ _ _ _ (pv 0) pa_nil (by rfl)) (by decide) (by rfl) (by rfl)) (@pe_one _ _ _ _ _ (pe_chain op_le op_le pe_int (pv 0) (pe_glob (v := .int 60) rfl T.k_MOST_SEATS ⟨_, rfl⟩)))))), ?_⟩
  refine ⟨_, rfl, n, rfl, ?_⟩
  and_intros
  refine ifT (decide_eq_true n0) ?_
  and_intros
  show Q (.bl (decide (n ≤ 60))) H
  rw [decide_eq_true n1]
  exact q
theorem ok_are_lots (T : Tx K mg ad) : FnOk P w K mg base CX0 2 ad.f_are_lots ad.d_are_lots ["thing", "hands"] (spLots K) := by
  refine T.F_are_lots.ok sc_are_lots (fun vs H Q E h => ?_) (fun cdv A outer s H vs Q E hr h => ?_)
  · obtain ⟨l, ns, n, rfl, _⟩ := h
    rfl
  obtain ⟨l, ns, n, rfl, hl, pm, n12, q⟩ := h
  refine ⟨_, (@pss_cons _ _ _ _ _ (@ps_if _ _ _ _ _ _ _ _ (@pt_not _ _ _ _ (@pt_val _ _ _ (@pe_callB _ _ _ _ _ _ _ _ _ call_isi (by rfl) T.z_isinstance PyProof.Rows.boot_isinstance (@pa_cons _ _ _ _ _ (pv 0) (@pa_cons _ _ _ _ _ (pe_bltn (v := .ty "list") rfl T.z_list PyProof.Rows.boot_list rfl) pa_nil (by rfl)) (by rfl)) (by decide) (by decide) (by rfl) (by rfl)) (by intro _; rfl))) (@pss_one _ _ _ (@ps_ret _ _ _ _ pe_bl)) pss_nil) (@pss_one _ _ _ (@ps_ret _ _ _ _ (@pe_and _ _ _ _ _ _ _ (@pe_callB _ _ _ _ _ _ _ _ _ (call_all rfl) (by rfl) T.z_all PyProof.Rows.boot_all (@pa_cons _ _ _ _ _ (pe_comp (fsc := defScope s_are_lots) (N := ["thing", "hands"]) (Nc := ["thing", "hands", "hand"]) rfl rfl ⟨rfl, by decide +kernel, by decide +kernel, rfl, by decide +kernel, rfl, by decide +kernel, rfl, by decide +kernel⟩ rfl (pi_list (pv 0)) (fun _ _ _ _ => pif_nil) (fun _ _ _ _ => (@pe_call _ _ _ _ _ _ _ _ _ _ _ _ _ _ _ _ (ok_is_whole T) (hr.mono (by decide)) rfl T.m_is_whole T.F_is_whole.kp T.b_is_whole .nil pass0 (@pa_cons _ _ _ _ _ (pv 2) pa_nil (by rfl)) (by decide) (by rfl) (by rfl)))) pa_nil (by rfl)) (by decide) (by decide) (by rfl) (by rfl)) (@pe_one _ _ _ _ _ (@pe_cmpR _ _ _ _ _ _ _ _ (op_eqD (K := K) hr.units) (@pe_callB _ _ _ _ _ _ _ _ _ call_sortedI (by rfl) T.z_sorted PyProof.Rows.boot_sorted (@pa_cons _ _ _ _ _ (pv 0) pa_nil (by rfl)) (by decide) (by decide) (by rfl) (by rfl)) (pe_listrange rfl (by rfl) T.z_list (by rfl) T.z_range (pv 1)) (nomark _))))))), ?_⟩
  have nl : ns.length = n := by rw [pm.length_eq, ups_len]
  refine ⟨_, rfl, _, _, _, _, rfl, TyOf.lst hl, kit_list_list, ?_⟩
  and_intros
  refine ⟨⟨_, SqL.of hl⟩, ?_⟩
  refine comp_list (xs := ns.map V.int) (by rw [List.length_map]; exact small63 (by omega)) (fun D i ys H' => ys = (List.replicate i true).map V.bl ∧ H' = upd H D (.lst ys)) (fun D hD => ⟨rfl, rfl⟩) (fun D i ys H' ⟨f1, f2⟩ => ⟨by rw [f2]; exact upd_same, by rw [f1, List.length_map, List.length_replicate]; exact Nat.le_refl _⟩) (fun D i ys H' hD ⟨_, f2⟩ => by rw [f2]; exact SqL.of (same_new hD _ _ _ hl)) ?_ ?_
  · rintro D i x ys H' K1 K2 hD hx ⟨f1, rfl⟩ k1 k2
    obtain ⟨z, hz, rfl⟩ := int_at hx
    refine yes (ifT rfl ?_)
    refine ⟨_, rfl, z, rfl, ?_⟩
    refine k1 _ _ upd_same ⟨?_, by rw [upd_upd]⟩
    rw [f1, List.replicate_succ', List.map_append]
    rfl
  · rintro D ys H' hD ⟨rfl, rfl⟩
    refine ⟨D, _, rfl, SqL.of upd_same, ?_⟩
    rw [show (List.replicate (ns.map V.int).length true).all id = true from List.all_eq_true.mpr fun b m => (List.mem_replicate.mp m).2]
    have s1 := same_new hD (.lst ((List.replicate (ns.map V.int).length true).map V.bl))
    generalize upd H D (.lst ((List.replicate (ns.map V.int).length true).map V.bl)) = H1 at s1 ⊢
    and_intros
    refine ⟨l, ns, rfl, SqL.of (s1 _ _ hl), by omega, fun a ms pa sa ha => ?_⟩
    have e := ups_of pa sa pm
    subst e
    have s2 := same_new ha (.lst ((ups n).map V.int))
    have e2 : (upd H1 a (.lst ((ups n).map V.int))) a = some (.lst ((ups n).map V.int)) := upd_same
    generalize upd H1 a (.lst ((ups n).map V.int)) = H2 at s2 e2 ⊢
    and_intros
    refine ⟨by omega, fun b hb => ?_⟩
    rw [← ups_v]
    have s3 := same_new hb (.lst ((ups n).map V.int))
    refine ⟨.list ((ups n).map .int), .list ((ups n).map .int), .lst (SqL.of (s3 _ _ e2)) (.ints _), .lst (SqL.of upd_same) (.ints _), (shape_ints _).2, (shape_ints _).2, ?_⟩
    rw [show PyData.eqv (.list ((ups n).map .int)) (.list ((ups n).map .int)) = true from by show PyData.eqvAll _ _ = true; rw [eqv_ints]; exact decide_eq_true rfl]
    exact q _ ((s1.trans s2).trans s3)
theorem ok_fraction (T : Tx K mg ad) : FnOk P w K mg base CX0 2 ad.f_fraction ad.d_fraction ["top", "bottom"] spLowest := by
  refine T.F_fraction.ok sc_fraction (fun vs H Q E h => ?_) (fun cdv A outer s H vs Q E hr h => ?_)
  · obtain ⟨t, b, rfl, _⟩ := h
    rfl
  obtain ⟨t, b, rfl, b0, szt, szb, q⟩ := h
  refine ⟨_, (@pss_cons _ _ _ _ _ (@ps_if _ _ _ _ _ _ _ _ (PW.pt (@pw_or _ _ _ _ _ _ _ (@pt_not _ _ _ _ (@pt_val _ _ _ (@pe_call _ _ _ _ _ _ _ _ _ _ _ _ _ _ _ _ (ok_is_whole T) (hr.mono (by decide)) rfl T.m_is_whole T.F_is_whole.kp T.b_is_whole .nil pass0 (@pa_cons _ _ _ _ _ (pv 0) pa_nil (by rfl)) (by decide) (by rfl) (by rfl)) (by intro _; rfl))) (@pw_or1 _ _ _ _ (@pt_not _ _ _ _ (@pt_val _ _ _ (@pe_call _ _ _ _ _ _ _ _ _ _ _ _ _ _ _ _ (ok_is_whole T) (hr.mono (by decide)) rfl T.m_is_whole T.F_is_whole.kp T.b_is_whole .nil pass0 (@pa_cons _ _ _ _ _ (pv 1) pa_nil (by rfl)) (by decide) (by rfl) (by rfl)) (by intro _; rfl)))))) (@pss_one _ _ _ ps_never) pss_nil) (@pss_cons _ _ _ _ _ (@ps_if _ _ _ _ _ _ _ _ (@pt_cmpR _ _ _ _ _ _ _ _ op_eq (pv 1) pe_int (nomark _)) (@pss_one _ _ _ ps_never) pss_nil) (@pss_cons _ _ _ _ _ (@ps_set _ _ (2) _ _ _ _ sc_fraction.nd rfl (Or.inl rfl) (@pe_call _ _ _ _ _ _ _ _ _ _ _ _ _ _ _ _ (ok_divisor T) (hr.mono (by decide)) rfl T.m_divisor T.F_divisor.kp T.b_divisor .nil pass0 (@pa_cons _ _ _ _ _ (pv 0) (@pa_cons _ _ _ _ _ (pv 1) pa_nil (by rfl)) (by rfl)) (by decide) (by rfl) (by rfl)) (by rfl) (by first | exact .inl rfl | exact .inr rfl | assumption)) (@pss_cons _ _ _ _ _ (@ps_ifJ _ _ _ _ _ _ _ _ (@pt_cmpR _ _ _ _ _ _ _ _ op_lt (pv 1) pe_int (nomark _)) (@pss_one _ _ _ (@ps_set _ _ (2) _ _ _ _ sc_fraction.nd rfl (Or.inl rfl) (@pe_un _ _ _ _ _ _ un_neg (pv 2)) (by rfl) (by first | exact .inl rfl | exact .inr rfl | assumption))) pss_nil) (@pss_one _ _ _ (@ps_ret _ _ _ _ (@pe_tup _ _ _ _ _ (@pa_cons _ _ _ _ _ (@pe_op _ _ _ _ _ _ _ _ op_fdivW (pv 0) (pv 2)) (@pa_cons _ _ _ _ _ (@pe_op _ _ _ _ _ _ _ _ op_fdivW (pv 1) (pv 2)) pa_nil (by rfl)) (by rfl))))))))), ?_⟩
  refine ⟨_, rfl, _, rfl, _, rfl, ?_⟩
  refine iteF ?_
  refine ⟨_, rfl, _, rfl, _, rfl, ?_⟩
  refine iteF ?_
  refine ⟨_, rfl, rfl, _, rfl, ?_⟩
  refine ite2 (fun c => absurd (V.int.inj (of_decide_eq_true c)) b0) (fun _ => ?_)
  refine ⟨_, rfl, _, rfl, t, b, rfl, ?_⟩
  refine ⟨fun σ' H' => σ' = [some (.int t), some (.int b), some (.int (byOf t b))] ∧ H' = H, ?_, ?_⟩
  · refine ⟨_, rfl, _, _, rfl, rfl, _, rfl, ?_⟩
    refine ite2 (fun c => ?_) (fun c => ?_)
    · have c' : b < 0 := of_decide_eq_true c
      refine ⟨_, rfl, _, rfl, ?_⟩
      refine ⟨?_, rfl⟩
      show [some (V.int t), some (V.int b), some (V.int (-(gcdI t b)))] = [some (V.int t), some (V.int b), some (V.int (byOf t b))]
      unfold byOf
      rw [if_pos c']
    · have c' : ¬ b < 0 := fun e => c (decide_eq_true e)
      refine ⟨?_, rfl⟩
      show [some (V.int t), some (V.int b), some (V.int (gcdI t b))] = [some (V.int t), some (V.int b), some (V.int (byOf t b))]
      unfold byOf
      rw [if_neg c']
  rintro σ' H' ⟨rfl, rfl⟩
  have ne := byOf_ne (t := t) b0
  refine ⟨_, rfl, _, rfl, _, _, rfl, rfl, ⟨ne, szt⟩, _, rfl, _, rfl, _, _, rfl, rfl, ⟨ne, szb⟩, (by show 2 ≤ sizeLine; decide), fun r hr' => ?_⟩
  exact q r _ (same_new hr' _) upd_same
theorem ok_vote_of (T : Tx K mg ad) : FnOk P w K mg base CX0 2 ad.f_vote_of ad.d_vote_of ["slip"] (spVote K) := by
  refine T.F_vote_of.ok sc_vote_of (fun vs H Q E h => ?_) (fun cdv A outer s H vs Q E hr h => ?_)
  · obtain ⟨t, ts, h, rfl, _⟩ := h
    rfl
  obtain ⟨t, ts, h, rfl, ht, f, h12, q0, q1⟩ := h
  refine ⟨_, (@pss_cons _ _ _ _ _ (@ps_if _ _ _ _ _ _ _ _ (@pt_cmpR _ _ _ _ _ _ _ _ (op_eqT hr.units0) (pv 0) (@pe_tup _ _ _ _ _ pa_nil) (nomark _)) (@pss_one _ _ _ (@ps_ret _ _ _ _ pe_non)) pss_nil) (@pss_cons _ _ _ _ _ (@ps_set _ _ (1) _ _ _ _ sc_vote_of.nd rfl (Or.inl rfl) (@pe_call _ _ _ _ _ _ _ _ _ _ _ _ _ _ _ _ (ok_members T) (hr.mono (by decide)) rfl T.m_members T.F_members.kp T.b_members .nil pass0 (@pa_cons _ _ _ _ _ (@pe_ix _ _ _ _ _ _ _ ix_tup (pv 0) pe_int (fun _ _ => rfl)) pa_nil (by rfl)) (by decide) (by rfl) (by rfl)) (by rfl) (by first | exact .inl rfl | exact .inr rfl | assumption)) (@pss_one _ _ _ (@ps_ret _ _ _ _ (pe_ifExp (@pt_cmpR _ _ _ _ _ _ _ _ op_eq (@pe_callB _ _ _ _ _ _ _ _ _ call_len_seq (by rfl) T.z_len PySem.boot_len (@pa_cons _ _ _ _ _ (pv 1) pa_nil (by rfl)) (by decide) (by decide) (by rfl) (by rfl)) pe_int (nomark _)) (@pe_ix _ _ _ _ _ _ _ ix_list (pv 1) pe_int (fun _ _ => rfl)) pe_non))))), ?_⟩
  refine ⟨_, rfl, (by show 0 ≤ sizeLine; decide), fun e he => ?_⟩
  have s1 := same_new he (.tup [])
  have ee : (upd H e (.tup [])) e = some (.tup (([] : List Int).map V.int)) := upd_same
  generalize upd H e (.tup []) = H1 at s1 ee ⊢
  have ht1 := s1 _ _ ht
  refine ⟨t, e, ts, [], rfl, rfl, SqT.of ht1, SqT.of ee, _, rfl, ?_⟩
  rcases f with rfl | ⟨t0, r, rfl, t00, t01⟩
  · exact ifT (decide_eq_true rfl) (q0 rfl _ s1)
  refine ifF (decide_eq_false (by simp)) ?_
  have lt : t0 < 4096 := by
    have p : 2 ^ h ≤ 2 ^ 12 := Nat.pow_le_pow_right (by decide) h12
    have e1 : ((2 ^ h : Nat) : Int) = (2 : Int) ^ h := by simp
    omega
  refine ⟨_, rfl, t, _, _, _, rfl, rfl, SqT.of ht1, (show atI ((t0 :: r).map V.int) ((0 : Nat) : Int) = some (.int t0) from atN rfl), t0, rfl, t00, lt, fun p H2 hp s2 e2 => ?_⟩
  and_intros
  have s12 := s1.trans s2
  by_cases c : (hands 12 (bit t0)).length = 1
  · obtain ⟨z, ez⟩ : ∃ z, hands 12 (bit t0) = [z] := List.length_eq_one_iff.mp c
    obtain ⟨p1, p2⟩ := pl_one (r := r) h12 t00 t01 ez
    refine ifT (eq_t (by rw [List.length_map, c]; rfl)) ?_
    refine ⟨_, rfl, p, _, _, _, rfl, rfl, SqL.of e2, (by rw [ez]; rfl), ?_⟩
    rw [← p1]
    exact q1 p2 _ s12
  · refine ifF (eq_f (by rw [List.length_map]; omega)) ?_
    exact q0 (pl_none h12 c) _ s12
theorem ok_is_hurdle (T : Tx K mg ad) : FnOk P w K mg base CX0 2 ad.f_is_hurdle ad.d_is_hurdle ["thing"] spHurdle := by
  refine T.F_is_hurdle.ok sc_is_hurdle (fun vs H Q E h => ?_) (fun cdv A outer s H vs Q E hr h => ?_)
  · obtain ⟨t, u, v, rfl, _⟩ := h
    rfl
  obtain ⟨t, u, v, rfl, ht, u0, uv, g, q⟩ := h
  refine ⟨_, (@pss_cons _ _ _ _ _ (@ps_if _ _ _ _ _ _ _ _ (PW.pt (@pw_or _ _ _ _ _ _ _ (@pt_not _ _ _ _ (@pt_val _ _ _ (@pe_callB _ _ _ _ _ _ _ _ _ call_isi (by rfl) T.z_isinstance PyProof.Rows.boot_isinstance (@pa_cons _ _ _ _ _ (pv 0) (@pa_cons _ _ _ _ _ (pe_bltn (v := .ty "tuple") rfl T.z_tuple PyProof.Rows.boot_tuple rfl) pa_nil (by rfl)) (by rfl)) (by decide) (by decide) (by rfl) (by rfl)) (by intro _; rfl))) (@pw_or1 _ _ _ _ (@pt_cmpR _ _ _ _ _ _ _ _ op_ne (@pe_callB _ _ _ _ _ _ _ _ _ call_len_seq (by rfl) T.z_len PySem.boot_len (@pa_cons _ _ _ _ _ (pv 0) pa_nil (by rfl)) (by decide) (by decide) (by rfl) (by rfl)) pe_int (nomark _))))) (@pss_one _ _ _ (@ps_ret _ _ _ _ pe_bl)) pss_nil) (@pss_cons _ _ _ _ _ (@ps_if _ _ _ _ _ _ _ _ (PW.pt (@pw_or _ _ _ _ _ _ _ (@pt_not _ _ _ _ (@pt_val _ _ _ (@pe_call _ _ _ _ _ _ _ _ _ _ _ _ _ _ _ _ (ok_is_whole T) (hr.mono (by decide)) rfl T.m_is_whole T.F_is_whole.kp T.b_is_whole .nil pass0 (@pa_cons _ _ _ _ _ (@pe_ix _ _ _ _ _ _ _ ix_tup (pv 0) pe_int (fun _ _ => rfl)) pa_nil (by rfl)) (by decide) (by rfl) (by rfl)) (by intro _; rfl))) (@pw_or1 _ _ _ _ (@pt_not _ _ _ _ (@pt_val _ _ _ (@pe_call _ _ _ _ _ _ _ _ _ _ _ _ _ _ _ _ (ok_is_whole T) (hr.mono (by decide)) rfl T.m_is_whole T.F_is_whole.kp T.b_is_whole .nil pass0 (@pa_cons _ _ _ _ _ (@pe_ix _ _ _ _ _ _ _ ix_tup (pv 0) pe_int (fun _ _ => rfl)) pa_nil (by rfl)) (by decide) (by rfl) (by rfl)) (by intro _; rfl)))))) (@pss_one _ _ _ (@ps_ret _ _ _ _ pe_bl)) pss_nil) (@pss_one _ _ _ (@ps_ret _ _ _ _ (@pe_and _ _ _ _ _ _ _ (pe_chain op_le op_le pe_int (@pe_ix _ _ _ _ _ _ _ ix_tup (pv 0) pe_int (fun _ _ => rfl)) (@pe_ix _ _ _ _ _ _ _ ix_tup (pv 0) pe_int (fun _ _ => rfl))) (@pe_one _ _ _ _ _ (@pe_cmpR _ _ _ _ _ _ _ _ op_eq (@pe_call _ _ _ _ _ _ _ _ _ _ _ _ _ _ _ _ (ok_divisor T) (hr.mono (by decide)) rfl T.m_divisor T.F_divisor.kp T.b_divisor .nil pass0 (@pa_cons _ _ _ _ _ (@pe_ix _ _ _ _ _ _ _ ix_tup (pv 0) pe_int (fun _ _ => rfl)) (@pa_cons _ _ _ _ _ (@pe_ix _ _ _ _ _ _ _ ix_tup (pv 0) pe_int (fun _ _ => rfl)) pa_nil (by rfl)) (by rfl)) (by decide) (by rfl) (by rfl)) pe_int (nomark _)))))))), ?_⟩
  refine ⟨_, rfl, _, _, _, _, rfl, TyOf.tup ht, kit_tuple_tuple, ?_⟩
  and_intros
  refine ifT (decide_eq_true u0) ?_
  and_intros
  refine ifT (decide_eq_true uv) ?_
  and_intros
  rw [g]
  exact q
theorem ok_is_step (T : Tx K mg ad) : FnOk P w K mg base CX0 2 ad.f_is_step ad.d_is_step ["thing"] spStep := by
  refine T.F_is_step.ok sc_is_step (fun vs H Q E h => ?_) (fun cdv A outer s H vs Q E hr h => ?_)
  · obtain ⟨n, rfl, _⟩ := h
    rfl
  obtain ⟨n, rfl, n0, n1, q⟩ := h
  refine ⟨_, (@pss_one _ _ _ (@ps_ret _ _ _ _ (@pe_and _ _ _ _ _ _ _ (@pe_call _ _ _ _ _ _ _ _ _ _ _ _ _ _ _ _ (ok_is_whole T) (hr.mono (by decide)) rfl T.m_is_whole T.F_is_whole.kp T.b_is_whole .nil pass0 (@pa_cons _ _ _ _ _ (pv 0) pa_nil (by rfl)) (by decide) (by rfl) (by rfl)) (@pe_one _ _ _ _ _ (pe_chain op_le op_le pe_int (pv 0) (pe_glob (v := .int 9) rfl T.k_MOST_STEP ⟨_, rfl⟩)))))), ?_⟩
  refine ⟨_, rfl, n, rfl, ?_⟩
  and_intros
  refine ifT (decide_eq_true n0) ?_
  and_intros
  show Q (.bl (decide (n ≤ 9))) H
  rw [decide_eq_true n1]
  exact q
theorem ok_law_lowest (T : Tx K mg ad) : FnOk P w K mg base CX0 2 ad.f_law_lowest ad.d_law_lowest ["_law_top", "_law_bottom"] spLowest := by
  refine T.F_law_lowest.ok sc_law_lowest (fun vs H Q E h => ?_) (fun cdv A outer s H vs Q E hr h => ?_)
  · obtain ⟨t, b, rfl, _⟩ := h
    rfl
  obtain ⟨t, b, rfl, b0, szt, szb, q⟩ := h
  refine ⟨_, (@pss_cons _ _ _ _ _ (@ps_set _ _ (2) _ _ _ _ sc_law_lowest.nd rfl (Or.inl rfl) (@pe_call _ _ _ _ _ _ _ _ _ _ _ _ _ _ _ _ (ok_law_divisor T) (hr.mono (by decide)) rfl T.m_law_divisor T.F_law_divisor.kp T.b_law_divisor .nil pass0 (@pa_cons _ _ _ _ _ (pv 0) (@pa_cons _ _ _ _ _ (pv 1) pa_nil (by rfl)) (by rfl)) (by decide) (by rfl) (by rfl)) (by rfl) (by first | exact .inl rfl | exact .inr rfl | assumption)) (@pss_cons _ _ _ _ _ (@ps_ifJ _ _ _ _ _ _ _ _ (@pt_cmpR _ _ _ _ _ _ _ _ op_lt (pv 1) pe_int (nomark _)) (@pss_one _ _ _ (@ps_set _ _ (2) _ _ _ _ sc_law_lowest.nd rfl (Or.inl rfl) (@pe_un _ _ _ _ _ _ un_neg (pv 2)) (by rfl) (by first | exact .inl rfl | exact .inr rfl | assumption))) pss_nil) (@pss_one _ _ _ (@ps_ret _ _ _ _ (@pe_tup _ _ _ _ _ (@pa_cons _ _ _ _ _ (@pe_op _ _ _ _ _ _ _ _ op_fdivW (pv 0) (pv 2)) (@pa_cons _ _ _ _ _ (@pe_op _ _ _ _ _ _ _ _ op_fdivW (pv 1) (pv 2)) pa_nil (by rfl)) (by rfl))))))), ?_⟩
  refine ⟨_, rfl, _, rfl, t, b, rfl, ?_⟩
  refine ⟨fun σ' H' => σ' = [some (.int t), some (.int b), some (.int (byOf t b))] ∧ H' = H, ?_, ?_⟩
  · refine ⟨_, rfl, _, _, rfl, rfl, _, rfl, ?_⟩
    refine ite2 (fun c => ?_) (fun c => ?_)
    · have c' : b < 0 := of_decide_eq_true c
      refine ⟨_, rfl, _, rfl, ?_⟩
      refine ⟨?_, rfl⟩
      show [some (V.int t), some (V.int b), some (V.int (-(gcdI t b)))] = [some (V.int t), some (V.int b), some (V.int (byOf t b))]
      unfold byOf
      rw [if_pos c']
    · have c' : ¬ b < 0 := fun e => c (decide_eq_true e)
      refine ⟨?_, rfl⟩
      show [some (V.int t), some (V.int b), some (V.int (gcdI t b))] = [some (V.int t), some (V.int b), some (V.int (byOf t b))]
      unfold byOf
      rw [if_neg c']
  rintro σ' H' ⟨rfl, rfl⟩
  have ne := byOf_ne (t := t) b0
  refine ⟨_, rfl, _, rfl, _, _, rfl, rfl, ⟨ne, szt⟩, _, rfl, _, rfl, _, _, rfl, rfl, ⟨ne, szb⟩, (by show 2 ≤ sizeLine; decide), fun r hr' => ?_⟩
  exact q r _ (same_new hr' _) upd_same
theorem ok_law_slip (T : Tx K mg ad) : FnOk P w K mg base CX0 2 ad.f_law_slip ad.d_law_slip ["_law_cell_here", "_law_hands"] spSlip61 := by
  refine T.F_law_slip.ok sc_law_slip (fun vs H Q E h => ?_) (fun cdv A outer s H vs Q E hr h => ?_)
  · obtain ⟨c, h, rfl, _⟩ := h
    rfl
  obtain ⟨c, h, rfl, szc, h1, h12, q⟩ := h
  refine ⟨_, (@pss_cons _ _ _ _ _ (@ps_set _ _ (2) _ _ _ _ sc_law_slip.nd rfl (Or.inl rfl) (@pe_call _ _ _ _ _ _ _ _ _ _ _ _ _ _ _ _ (ok_law_mixed T) (hr.mono (by decide)) rfl T.m_law_mixed T.F_law_mixed.kp T.b_law_mixed .nil pass0 (@pa_cons _ _ _ _ _ (pv 0) (@pa_cons _ _ _ _ _ pe_int pa_nil (by rfl)) (by rfl)) (by decide) (by rfl) (by rfl)) (by rfl) (by first | exact .inl rfl | exact .inr rfl | assumption)) (@pss_cons _ _ _ _ _ (@ps_set _ _ (3) _ _ _ _ sc_law_slip.nd rfl (Or.inl rfl) (@pe_op _ _ _ _ _ _ _ _ op_modN (pv 2) pe_int) (by rfl) (by first | exact .inl rfl | exact .inr rfl | assumption)) (@pss_cons _ _ _ _ _ (@ps_set _ _ (4) _ _ _ _ sc_law_slip.nd rfl (Or.inl rfl) (@pe_op _ _ _ _ _ _ _ _ op_modN (@pe_op _ _ _ _ _ _ _ _ op_fdivB (pv 2) pe_int) (pv 1)) (by rfl) (by first | exact .inl rfl | exact .inr rfl | assumption)) (@pss_cons _ _ _ _ _ (@ps_set _ _ (5) _ _ _ _ sc_law_slip.nd rfl (Or.inl rfl) (@pe_op _ _ _ _ _ _ _ _ op_modN (@pe_op _ _ _ _ _ _ _ _ op_fdivB (pv 2) pe_int) (pv 1)) (by rfl) (by first | exact .inl rfl | exact .inr rfl | assumption)) (@pss_cons _ _ _ _ _ (@ps_if _ _ _ _ _ _ _ _ (@pt_cmpR _ _ _ _ _ _ _ _ op_eq (pv 3) pe_int (nomark _)) (@pss_one _ _ _ (@ps_ret _ _ _ _ (@pe_tup _ _ _ _ _ pa_nil))) pss_nil) (@pss_cons _ _ _ _ _ (@ps_if _ _ _ _ _ _ _ _ (PW.pt (@pw_or _ _ _ _ _ _ _ (@pt_cmpR _ _ _ _ _ _ _ _ op_eq (pv 5) (pv 4) (nomark _)) (@pw_or1 _ _ _ _ (@pt_cmpR _ _ _ _ _ _ _ _ op_lt (pv 3) pe_int (nomark _))))) (@pss_one _ _ _ (@ps_ret _ _ _ _ (@pe_tup _ _ _ _ _ (@pa_cons _ _ _ _ _ (@pe_op _ _ _ _ _ _ _ _ op_shl pe_int (pv 4)) pa_nil (by rfl))))) pss_nil) (@pss_cons _ _ _ _ _ (@ps_if _ _ _ _ _ _ _ _ (@pt_cmpR _ _ _ _ _ _ _ _ op_eq (pv 3) pe_int (nomark _)) (@pss_one _ _ _ (@ps_ret _ _ _ _ (@pe_tup _ _ _ _ _ (@pa_cons _ _ _ _ _ (@pe_op _ _ _ _ _ _ _ _ op_add (@pe_op _ _ _ _ _ _ _ _ op_shl pe_int (pv 4)) (@pe_op _ _ _ _ _ _ _ _ op_shl pe_int (pv 5))) pa_nil (by rfl))))) pss_nil) (@pss_cons _ _ _ _ _ (@ps_if _ _ _ _ _ _ _ _ (@pt_cmpR _ _ _ _ _ _ _ _ op_eq (pv 3) pe_int (nomark _)) (@pss_cons _ _ _ _ _ (@ps_set _ _ (6) _ _ _ _ sc_law_slip.nd rfl (Or.inl rfl) (@pe_op _ _ _ _ _ _ _ _ op_add pe_int (@pe_op _ _ _ _ _ _ _ _ op_modN (@pe_op _ _ _ _ _ _ _ _ op_fdivB (pv 2) pe_int) (@pe_op _ _ _ _ _ _ _ _ op_sub (@pe_op _ _ _ _ _ _ _ _ op_shl pe_int (pv 1)) pe_int))) (by rfl) (by first | exact .inl rfl | exact .inr rfl | assumption)) (@pss_one _ _ _ (@ps_ret _ _ _ _ (pe_slice sl_tupP (@pe_tup _ _ _ _ _ (@pa_cons _ _ _ _ _ (pv 6) (@pa_cons _ _ _ _ _ (@pe_op _ _ _ _ _ _ _ _ op_sub (@pe_op _ _ _ _ _ _ _ _ op_sub (@pe_op _ _ _ _ _ _ _ _ op_shl pe_int (pv 1)) pe_int) (pv 6)) pa_nil (by rfl)) (by rfl))) po_none (po_some (@pe_op _ _ _ _ _ _ _ _ op_add pe_int (@pe_callTy _ _ _ _ _ _ _ _ _ call_int1 (by rfl) T.z_int PyProof.Rows.boot_int (@pa_cons _ _ _ _ _ (@pe_cmpR _ _ _ _ _ _ _ _ op_lt (pv 6) (@pe_op _ _ _ _ _ _ _ _ op_sub (@pe_op _ _ _ _ _ _ _ _ op_shl pe_int (pv 1)) pe_int) (nomark _)) pa_nil (by rfl)) (by decide) (by decide) (by rfl) (by rfl)))))))) pss_nil) (@pss_cons _ _ _ _ _ (@ps_if _ _ _ _ _ _ _ _ (@pt_cmpR _ _ _ _ _ _ _ _ op_eq (pv 3) pe_int (nomark _)) (@pss_one _ _ _ (@ps_ret _ _ _ _ (@pe_tup _ _ _ _ _ (@pa_cons _ _ _ _ _ (@pe_op _ _ _ _ _ _ _ _ op_shl pe_int (pv 4)) (@pa_cons _ _ _ _ _ (@pe_op _ _ _ _ _ _ _ _ op_sub (@pe_op _ _ _ _ _ _ _ _ op_sub (@pe_op _ _ _ _ _ _ _ _ op_shl pe_int (pv 1)) pe_int) (@pe_op _ _ _ _ _ _ _ _ op_shl pe_int (pv 4))) pa_nil (by rfl)) (by rfl))))) pss_nil) (@pss_one _ _ _ (@ps_ret _ _ _ _ (@pe_tup _ _ _ _ _ (@pa_cons _ _ _ _ _ (@pe_op _ _ _ _ _ _ _ _ op_shl pe_int (pv 4)) (@pa_cons _ _ _ _ _ (@pe_op _ _ _ _ _ _ _ _ op_shl pe_int (pv 5)) pa_nil (by rfl)) (by rfl)))))))))))))), ?_⟩
  have nh : h ≠ 0 := by omega
  refine ⟨_, rfl, c, 5, rfl, szc, szd 64, fun z z0 z1 => ?_⟩
  and_intros
  refine ⟨nh, ?_⟩
  and_intros
  refine ⟨nh, ?_⟩
  have ha := fmod_in (z.fdiv 8) (show (0 : Int) < h by omega)
  have hb := fmod_in (z.fdiv 128) (show (0 : Int) < h by omega)
  obtain ⟨a, ea⟩ : ∃ a, a = (z.fdiv 8).fmod h := ⟨_, rfl⟩
  obtain ⟨b, eb⟩ : ∃ b, b = (z.fdiv 128).fmod h := ⟨_, rfl⟩
  dsimp only
  rw [← ea] at ha ⊢
  rw [← eb] at hb ⊢
  have ca : CPow 1 a := ⟨ha.1, by omega, by decide⟩
  have cb : CPow 1 b := ⟨hb.1, by omega, by decide⟩
  have ch : CPow 1 h := ⟨by omega, by omega, by decide⟩
  have la : 0 ≤ (1 : Int) * 2 ^ a.toNat ∧ (1 : Int) * 2 ^ a.toNat < 2 ^ h.toNat := pow_lt (by omega)
  and_intros
  refine ite2 (fun _ => ?_) (fun _ => ?_)
  · exact ⟨(by show 0 ≤ sizeLine; decide), fun t ht => q t [] _ (same_new ht _) upd_same (.inl rfl)⟩
  and_intros
  have fp := full_pos h1
  by_cases c : b = a
  · exact ifT (eq_t c) (ifT rfl ⟨_, rfl, _, _, rfl, rfl, ca, (by show 1 ≤ sizeLine; decide), fun t ht => q t [1 * 2 ^ a.toNat] _ (same_new ht _) upd_same (.inr ⟨_, _, rfl, la.1, la.2⟩)⟩)
  refine ifF (eq_f c) ?_
  and_intros
  refine ite2 (fun _ => ?_) (fun _ => ?_)
  · exact ⟨_, rfl, _, _, rfl, rfl, ca, (by show 1 ≤ sizeLine; decide), fun t ht => q t [1 * 2 ^ a.toNat] _ (same_new ht _) upd_same (.inr ⟨_, _, rfl, la.1, la.2⟩)⟩
  and_intros
  refine ite2 (fun _ => ?_) (fun _ => ?_)
  · have tl := two_lt ha hb c
    exact ⟨_, rfl, _, _, rfl, rfl, ca, _, rfl, _, _, rfl, rfl, cb, _, _, rfl, rfl, (by show 1 ≤ sizeLine; decide), fun t ht => q t [1 * 2 ^ a.toNat + 1 * 2 ^ b.toNat] _ (same_new ht _) upd_same (.inr ⟨_, _, rfl, tl.1, tl.2⟩)⟩
  and_intros
  refine ite2 (fun _ => ?_) (fun _ => ?_)
  · refine ⟨_, rfl, _, _, rfl, rfl, ⟨(by show (_ : Int) ≠ 0; decide), szd 9000⟩, _, rfl, _, _, rfl, rfl, ch, _, _, rfl, rfl, _, _, rfl, rfl, (by show (1 : Int) * 2 ^ h.toNat - 1 ≠ 0; omega), _, _, rfl, rfl, ?_⟩
    have hm := fmod_in (z.fdiv 8) (show (0 : Int) < 1 * 2 ^ h.toNat - 1 by omega)
    dsimp only
    obtain ⟨m, em⟩ : ∃ m, m = 1 + (z.fdiv 8).fmod (1 * 2 ^ h.toNat - 1) := ⟨_, rfl⟩
    have m01 : 0 ≤ m ∧ m < 2 ^ h.toNat := by omega
    rw [← em]
    clear em hm
    refine ⟨_, rfl, _, rfl, _, _, rfl, rfl, ch, _, _, rfl, rfl, _, rfl, _, _, rfl, rfl, (by show 2 ≤ sizeLine; decide), fun o ho => ?_⟩
    refine ⟨_, rfl, _, rfl, _, _, rfl, rfl, ch, _, _, rfl, rfl, _, _, rfl, rfl, .inr ⟨_, rfl, _, _, rfl, rfl, _, rfl, o, _, rfl, upd_same, fun t H' s e => ?_⟩⟩
    cases cc : decide (m < 1 * 2 ^ h.toNat - 1) with
    | true =>
      rw [cc] at e
      exact q t [m, 1 * 2 ^ h.toNat - 1 - m] H' ((same_new ho _).trans s) e (.inr ⟨_, _, rfl, m01.1, m01.2⟩)
    | false =>
      rw [cc] at e
      exact q t [m] H' ((same_new ho _).trans s) e (.inr ⟨_, _, rfl, m01.1, m01.2⟩)
  and_intros
  refine ite2 (fun _ => ?_) (fun _ => ?_)
  · exact ⟨_, rfl, _, _, rfl, rfl, ca, _, rfl, _, _, rfl, rfl, ch, _, _, rfl, rfl, _, rfl, _, _, rfl, rfl, ca, _, _, rfl, rfl, (by show 2 ≤ sizeLine; decide), fun t ht => q t [1 * 2 ^ a.toNat, 1 * 2 ^ h.toNat - 1 - 1 * 2 ^ a.toNat] _ (same_new ht _) upd_same (.inr ⟨_, _, rfl, la.1, la.2⟩)⟩
  · exact ⟨_, rfl, _, _, rfl, rfl, ca, _, rfl, _, _, rfl, rfl, cb, (by show 2 ≤ sizeLine; decide), fun t ht => q t [1 * 2 ^ a.toNat, 1 * 2 ^ b.toNat] _ (same_new ht _) upd_same (.inr ⟨_, _, rfl, la.1, la.2⟩)⟩
theorem ok_law_number (T : Tx K mg ad) : FnOk P w K mg base CX0 2 ad.f_law_number ad.d_law_number ["_law_cell_here", "_law_k", "_law_mode"] spNumberN := by
  refine T.F_law_number.ok sc_law_number (fun vs H Q E h => ?_) (fun cdv A outer s H vs Q E hr h => ?_)
  · obtain ⟨c, k, m, rfl, _⟩ := h
    rfl
  obtain ⟨c, k, m, rfl, szc, k0, k1, m0, m1, q⟩ := h
  refine ⟨_, (@pss_cons _ _ _ _ _ (@ps_set _ _ (3) _ _ _ _ sc_law_number.nd rfl (Or.inl rfl) (@pe_op _ _ _ _ _ _ _ _ op_fdivB (@pe_call _ _ _ _ _ _ _ _ _ _ _ _ _ _ _ _ (ok_law_mixed T) (hr.mono (by decide)) rfl T.m_law_mixed T.F_law_mixed.kp T.b_law_mixed .nil pass0 (@pa_cons _ _ _ _ _ (pv 0) (@pa_cons _ _ _ _ _ (@pe_op _ _ _ _ _ _ _ _ op_add (pv 1) pe_int) pa_nil (by rfl)) (by rfl)) (by decide) (by rfl) (by rfl)) pe_int) (by rfl) (by first | exact .inl rfl | exact .inr rfl | assumption)) (@pss_one _ _ _ (@ps_ret _ _ _ _ (@pe_ix _ _ _ _ _ _ _ ix_list (@pe_lst _ _ _ _ (@pa_cons _ _ _ _ _ (@pe_op _ _ _ _ _ _ _ _ op_add pe_int (@pe_op _ _ _ _ _ _ _ _ op_modN (pv 3) pe_int)) (@pa_cons _ _ _ _ _ (@pe_op _ _ _ _ _ _ _ _ op_mulB (@pe_op _ _ _ _ _ _ _ _ op_add pe_int (@pe_op _ _ _ _ _ _ _ _ op_modN (pv 3) pe_int)) (@pe_op _ _ _ _ _ _ _ _ op_pow pe_int pe_int)) (@pa_cons _ _ _ _ _ (@pe_op _ _ _ _ _ _ _ _ op_add pe_int (@pe_op _ _ _ _ _ _ _ _ op_modN (pv 3) (@pe_op _ _ _ _ _ _ _ _ op_pow pe_int pe_int))) (@pa_cons _ _ _ _ _ (@pe_op _ _ _ _ _ _ _ _ op_add pe_int (@pe_op _ _ _ _ _ _ _ _ op_modN (pv 3) pe_int)) pa_nil (by rfl)) (by rfl)) (by rfl)) (by rfl))) (pv 2) (fun _ _ => rfl))))), ?_⟩
  and_intros
  refine ⟨c, k + 60, rfl, szc, sz_of (by omega) (by omega), fun z z0 z1 => ?_⟩
  have szz := sz18 z0 z1
  and_intros
  refine ⟨(by show 4 ≤ sizeLine; decide), fun a ha => ?_⟩
  have q5 := fmod_in (z.fdiv 64) (show (0 : Int) < 5 by decide)
  have q4 := fmod_in (z.fdiv 64) (show (0 : Int) < 4 by decide)
  have q9 := fmod_in (z.fdiv 64) (show (0 : Int) < 10 ^ (9 : Int).toNat by decide)
  have q60 := fmod_in (z.fdiv 64) (show (0 : Int) < 60 by decide)
  have e8 : (10 : Int) ^ (8 : Int).toNat = 100000000 := by decide
  have e9 : (10 : Int) ^ (9 : Int).toNat = 1000000000 := by decide
  obtain ⟨v, hv, v0, v1⟩ := pick4 (x0 := 1 + (z.fdiv 64).fmod 5) (x1 := (1 + (z.fdiv 64).fmod 4) * 10 ^ (8 : Int).toNat) (x2 := 1 + (z.fdiv 64).fmod (10 ^ (9 : Int).toNat)) (x3 := 1 + (z.fdiv 64).fmod 60) (fun v => 1 ≤ v ∧ v ≤ 1000000000) m m0 m1 ⟨by omega, by omega⟩ (by rw [e8]; exact ⟨by omega, by omega⟩) ⟨by omega, by omega⟩ ⟨by omega, by omega⟩
  exact ⟨_, rfl, a, _, _, _, rfl, rfl, SqL.of upd_same, hv, q _ _ (same_new ha _) v0 v1⟩
theorem ok_law_lots (T : Tx K mg ad) : FnOk P w K mg base CX0 2 ad.f_law_lots ad.d_law_lots ["_law_cell_here", "_law_hands"] spLots62 := by
  refine T.F_law_lots.ok sc_law_lots (fun vs H Q E h => ?_) (fun cdv A outer s H vs Q E hr h => ?_)
  · obtain ⟨c, h, rfl, _⟩ := h
    rfl
  obtain ⟨c, h, rfl, szc, h1, h12, q⟩ := h
  refine ⟨_, (@pss_cons _ _ _ _ _ (@ps_set _ _ (2) _ _ _ _ sc_law_lots.nd rfl (Or.inl rfl) (@pe_callB _ _ _ _ _ _ _ _ _ (call_sortedT hr.units) (by rfl) T.z_sorted PyProof.Rows.boot_sorted (@pa_cons _ _ _ _ _ (pe_comp (fsc := defScope s_law_lots) (N := ["_law_cell_here", "_law_hands", "_law_order"]) (Nc := ["_law_cell_here", "_law_hands", "_law_order", "_law_hand"]) rfl rfl ⟨rfl, by decide +kernel, by decide +kernel, rfl, by decide +kernel, rfl, by decide +kernel, rfl, by decide +kernel⟩ rfl (pi_range1 rfl T.z_range (@pa_cons _ _ _ _ _ (pv 1) pa_nil (by rfl))) (fun _ _ _ _ => pif_nil) (fun _ _ _ _ => (@pe_tup _ _ _ _ _ (@pa_cons _ _ _ _ _ (@pe_call _ _ _ _ _ _ _ _ _ _ _ _ _ _ _ _ (ok_law_mixed T) (hr.mono (by decide)) rfl T.m_law_mixed T.F_law_mixed.kp T.b_law_mixed .nil pass0 (@pa_cons _ _ _ _ _ (pv 0) (@pa_cons _ _ _ _ _ (@pe_op _ _ _ _ _ _ _ _ op_add pe_int (pv 3)) pa_nil (by rfl)) (by rfl)) (by decide) (by rfl) (by rfl)) (@pa_cons _ _ _ _ _ (pv 3) pa_nil (by rfl)) (by rfl))))) pa_nil (by rfl)) (by decide) (by decide) (by rfl) (by rfl)) (by rfl) (by first | exact .inl rfl | exact .inr rfl | assumption)) (@pss_one _ _ _ (@ps_ret _ _ _ _ (pe_comp (fsc := defScope s_law_lots) (N := ["_law_cell_here", "_law_hands", "_law_order"]) (Nc := ["_law_cell_here", "_law_hands", "_law_order", "_law_pair"]) rfl rfl ⟨rfl, by decide +kernel, by decide +kernel, rfl, by decide +kernel, rfl, by decide +kernel, rfl, by decide +kernel⟩ rfl (pi_list (pv 2)) (fun _ _ _ _ => pif_nil) (fun _ _ _ _ => (@pe_ix _ _ _ _ _ _ _ (ix_tupK K) (pv 3) pe_int (fun _ _ => rfl))))))), ?_⟩
  obtain ⟨n, rfl⟩ : ∃ n : Nat, h = (n : Int) := ⟨h.toNat, by omega⟩
  and_intros
  refine ⟨by omega, by omega, ?_⟩
  refine comp_range (small63 (by omega)) (fun D i ys H' => ∃ qs : List (Addr × List Int), ys = (qs.map fun q => V.ref q.1) ∧ qs.length = i ∧ (qs.map fun q => q.2.getD 1 0) = ups i ∧ H' D = some (.lst ys) ∧ Same H H' ∧ ∀ q ∈ qs, H' q.1 = some (.tup (q.2.map V.int)) ∧ ∃ z k, q.2 = [z, k]) (fun D hD => ⟨[], rfl, rfl, rfl, upd_same, same_new hD _, (fun _ m => nomatch m)⟩) (fun D i ys H' ⟨qs, f1, f2, _, f3, _⟩ => ⟨f3, by rw [f1, List.length_map]; omega⟩) ?_ ?_
  · rintro D i ys H' K1 K2 hD hi ⟨qs, rfl, f2, f3, f4, f5, f6⟩ k1 k2
    refine yes (ifT rfl ?_)
    and_intros
    refine ⟨c, _, rfl, szc, sz_of (by omega) (by omega), fun z z0 z1 => ?_⟩
    and_intros
    refine ⟨(by show 2 ≤ sizeLine; decide), fun t ht => ?_⟩
    have s2 := same_new ht (.tup [V.int z, V.int (0 + (i : Int))])
    have f4' := s2 _ _ f4
    refine k1 _ _ f4' ⟨qs ++ [(t, [z, 0 + (i : Int)])], by rw [List.map_append]; rfl, by rw [List.length_append, f2]; rfl, ?_, upd_same, same_upd (f5.trans s2) hD, fun q m => ?_⟩
    · rw [List.map_append, f3]
      unfold ups
      rw [List.range_succ, List.map_append]
      show _ ++ [0 + (i : Int)] = _
      rw [Int.zero_add]
      rfl
    · have keep : ∀ b u, (upd H' t (.tup [V.int z, V.int (0 + (i : Int))])) b = some (.tup u) → (upd (upd H' t (.tup [V.int z, V.int (0 + (i : Int))])) D (.lst ((qs.map fun q => V.ref q.1) ++ [V.ref t]))) b = some (.tup u) := fun b u e => by
        rw [upd_ne (ne_of e f4' (fun z => nomatch z))]
        exact e
      rcases List.mem_append.mp m with m | m
      · exact ⟨keep _ _ (s2 _ _ (f6 q m).1), (f6 q m).2⟩
      · rw [List.mem_singleton.mp m]
        exact ⟨keep _ _ upd_same, _, _, rfl⟩
  rintro D ys H1 hD ⟨qs, rfl, f2, f3, f4, f5, f6⟩
  rw [Int.toNat_natCast] at f2 f3
  refine ⟨D, qs, rfl, SqL.of f4, (fun q m => SqT.of (f6 q m).1), by omega, fun l rs pm srt hl => ?_⟩
  have s2 := same_new hl (.lst (rs.map fun q => V.ref q.1))
  have e2 : (upd H1 l (.lst (rs.map fun q => V.ref q.1))) l = some (.lst (rs.map fun q => V.ref q.1)) := upd_same
  generalize upd H1 l (.lst (rs.map fun q => V.ref q.1)) = H2 at s2 e2 ⊢
  have rl : rs.length = n := by rw [pm.length_eq, f2]
  refine ⟨_, rfl, l, rfl, ⟨_, SqL.of e2⟩, ?_⟩
  refine comp_list (xs := rs.map fun q => V.ref q.1) (by rw [List.length_map]; exact small63 (by omega)) (fun D2 i ys H' => ys = ((rs.take i).map fun q => q.2.getD 1 0).map V.int ∧ H' = upd H2 D2 (.lst ys)) (fun D2 hD2 => ⟨rfl, rfl⟩) (fun D2 i ys H' ⟨g1, g2⟩ => ⟨by rw [g2]; exact upd_same, by rw [g1, List.length_map, List.length_map]; exact List.length_take_le _ _⟩) (fun D2 i ys H' hD2 ⟨_, g2⟩ => by rw [g2]; exact SqL.of (same_new hD2 _ _ _ e2)) ?_ ?_
  · rintro D2 i x ys H' K1 K2 hD2 hx ⟨g1, rfl⟩ k1 k2
    rw [List.getElem?_map] at hx
    obtain ⟨r, hr', rfl⟩ := Option.map_eq_some_iff.mp hx
    have rm := List.mem_of_getElem? hr'
    obtain ⟨er, z, k, ek⟩ := f6 r (pm.mem_iff.mp rm)
    have et : rs.take (i + 1) = rs.take i ++ [r] := by rw [List.take_succ, hr']; rfl
    have er2 := same_new hD2 (.lst ys) _ _ (s2 _ _ er)
    rw [ek] at er2
    refine yes (ifT rfl ?_)
    refine ⟨_, rfl, r.1, _, _, _, rfl, rfl, SqT.of er2, rfl, ?_⟩
    refine k1 _ _ upd_same ⟨?_, by rw [upd_upd]⟩
    rw [et, List.map_append, List.map_append, g1]
    show _ = _ ++ [V.int (r.2.getD 1 0)]
    rw [ek]
    rfl
  rintro D2 ys H3 hD2 ⟨rfl, rfl⟩
  rw [List.length_map, List.take_of_length_le (Nat.le_refl _)]
  refine q D2 (rs.map fun q => q.2.getD 1 0) _ ((f5.trans s2).trans (same_new hD2 _)) upd_same ?_
  rw [Int.toNat_natCast, ← f3]
  exact pm.map _
theorem ok_law_rounds (T : Tx K mg ad) : FnOk P w K mg base CX0 2 ad.f_law_rounds ad.d_law_rounds ["_law_rounds_here", "_law_way_here", "_law_cell_here", "_law_hands"] spRounds68 := by
  refine T.F_law_rounds.ok sc_law_rounds (fun vs H Q E h => ?_) (fun cdv A outer s H vs Q E hr h => ?_)
  · obtain ⟨r, w, c, h, rs, H0, rfl, _⟩ := h
    rfl
  obtain ⟨r, w, c, h, rs, H0, rfl, s0, hr0, hr', gr, l60, h1, h12, c0, szc, w5, w15, w12, q⟩ := h
  refine ⟨_, (@pss_cons _ _ _ _ _ (@ps_if _ _ _ _ _ _ _ _ (@pt_cmpR _ _ _ _ _ _ _ _ (op_eqD (K := K) hr.units) (pv 0) (@pe_lst _ _ _ _ pa_nil) (nomark _)) (@pss_one _ _ _ (@ps_ret _ _ _ _ (@pe_lst _ _ _ _ (@pa_cons _ _ _ _ _ (@pe_tup _ _ _ _ _ (@pa_cons _ _ _ _ _ (@pe_op _ _ _ _ _ _ _ _ op_rep (@pe_lst _ _ _ _ (@pa_cons _ _ _ _ _ pe_non pa_nil (by rfl))) (pv 3)) (@pa_cons _ _ _ _ _ pe_int pa_nil (by rfl)) (by rfl))) pa_nil (by rfl))))) pss_nil) (@pss_cons _ _ _ _ _ (@ps_set _ _ (4) _ _ _ _ sc_law_rounds.nd rfl (Or.inl rfl) (@pe_op _ _ _ _ _ _ _ _ op_modN (pv 2) (@pe_callB _ _ _ _ _ _ _ _ _ call_len_seq (by rfl) T.z_len PySem.boot_len (@pa_cons _ _ _ _ _ (pv 0) pa_nil (by rfl)) (by decide) (by decide) (by rfl) (by rfl))) (by rfl) (by first | exact .inl rfl | exact .inr rfl | assumption)) (@pss_cons _ _ _ _ _ (ps_asg (@pe_ix _ _ _ _ _ _ _ ix_list (pv 0) (pv 4) (fun _ _ => rfl)) (pg_tup rfl (pgs_cons (pg_name (i := 5) sc_law_rounds.nd rfl (Or.inl rfl)) (pgs_cons (pg_name (i := 6) sc_law_rounds.nd rfl (Or.inl rfl)) pgs_nil)))) (@pss_cons _ _ _ _ _ (@ps_set _ _ (2) _ _ _ _ sc_law_rounds.nd rfl (Or.inl rfl) (@pe_op _ _ _ _ _ _ _ _ op_fdivB (pv 2) pe_int) (by rfl) (by first | exact .inl rfl | exact .inr rfl | assumption)) (@pss_cons _ _ _ _ _ (@ps_ifJ _ _ _ _ _ _ _ _ (PW.pt (@pw_or _ _ _ _ _ _ _ (@pt_cmpR _ _ _ _ _ _ _ _ op_eq (pv 1) pe_int (nomark _)) (@pw_or1 _ _ _ _ (@pt_cmpR _ _ _ _ _ _ _ _ op_eq (pv 1) pe_int (nomark _))))) (@pss_cons _ _ _ _ _ (@ps_set _ _ (7) _ _ _ _ sc_law_rounds.nd rfl (Or.inl rfl) (@pe_op _ _ _ _ _ _ _ _ op_modN (pv 2) (pv 3)) (by rfl) (by first | exact .inl rfl | exact .inr rfl | assumption)) (@pss_one _ _ _ (ps_asg (@pe_call _ _ _ _ _ _ _ _ _ _ _ _ _ _ _ _ (ok_law_mark T) (hr.mono (by decide)) rfl T.m_law_mark T.F_law_mark.kp T.b_law_mark .nil pass0 (@pa_cons _ _ _ _ _ (@pe_ix _ _ _ _ _ _ _ ix_list (pv 5) (pv 7) (fun _ _ => rfl)) (@pa_cons _ _ _ _ _ (@pe_op _ _ _ _ _ _ _ _ op_fdivB (pv 2) pe_int) pa_nil (by rfl)) (by rfl)) (by decide) (by rfl) (by rfl)) (pg_sub (pv 5) (pv 7) set_list)))) pss_nil) (@pss_cons _ _ _ _ _ (@ps_ifJ _ _ _ _ _ _ _ _ (@pt_cmpR _ _ _ _ _ _ _ _ op_eq (pv 1) pe_int (nomark _)) (@pss_one _ _ _ (ps_asg (@pe_tup _ _ _ _ _ (@pa_cons _ _ _ _ _ (pv 5) (@pa_cons _ _ _ _ _ (@pe_op _ _ _ _ _ _ _ _ op_sub (@pe_op _ _ _ _ _ _ _ _ op_modN (pv 2) (@pe_op _ _ _ _ _ _ _ _ op_add (pv 3) pe_int)) pe_int) pa_nil (by rfl)) (by rfl))) (pg_sub (pv 0) (pv 4) set_list))) pss_nil) (@pss_cons _ _ _ _ _ (@ps_ifJ _ _ _ _ _ _ _ _ (@pt_cmpR _ _ _ _ _ _ _ _ op_eq (pv 1) pe_int (nomark _)) (@pss_one _ _ _ (@ps_expr _ _ _ _ (pe_bm PySem.F.plainAttrs_list PySem.F.slot_list_pop PySem.F.type_list_pop mt_popAt (pv 0) (@pa_cons _ _ _ _ _ (pv 4) pa_nil (by rfl))) (by rfl))) pss_nil) (@pss_cons _ _ _ _ _ (@ps_ifJ _ _ _ _ _ _ _ _ (@pt_cmpR _ _ _ _ _ _ _ _ op_eq (pv 1) pe_int (nomark _)) (@pss_one _ _ _ (@ps_expr _ _ _ _ (pe_bm PySem.F.plainAttrs_list PySem.F.slot_list_insert PySem.F.type_list_insert mt_insert (pv 0) (@pa_cons _ _ _ _ _ (pv 4) (@pa_cons _ _ _ _ _ (@pe_tup _ _ _ _ _ (@pa_cons _ _ _ _ _ (@pe_callTy _ _ _ _ _ _ _ _ _ (call_list_ofK K) (by rfl) T.z_list PyProof.Rows.boot_list (@pa_cons _ _ _ _ _ (pv 5) pa_nil (by rfl)) (by decide) (by decide) (by rfl) (by rfl)) (@pa_cons _ _ _ _ _ (pv 6) pa_nil (by rfl)) (by rfl))) pa_nil (by rfl)) (by rfl))) (by rfl))) pss_nil) (@pss_cons _ _ _ _ _ (@ps_if _ _ _ _ _ _ _ _ (@pt_cmpR _ _ _ _ _ _ _ _ op_eq (pv 1) pe_int (nomark _)) (@pss_one _ _ _ (@ps_ret _ _ _ _ (@pe_lst _ _ _ _ pa_nil))) pss_nil) (@pss_cons _ _ _ _ _ (@ps_if _ _ _ _ _ _ _ _ (@pt_cmpR _ _ _ _ _ _ _ _ op_eq (pv 1) pe_int (nomark _)) (@pss_one _ _ _ (@ps_ret _ _ _ _ (pe_listrev rfl (by rfl) T.z_list (by rfl) T.z_reversed (pv 0)))) pss_nil) (@pss_cons _ _ _ _ _ (@ps_if _ _ _ _ _ _ _ _ (@pt_cmpR _ _ _ _ _ _ _ _ op_gt (pv 1) pe_int (nomark _)) (@pss_one _ _ _ (ps_asg (@pe_tup _ _ _ _ _ (@pa_cons _ _ _ _ _ (@pe_ix _ _ _ _ _ _ _ ix_list (@pe_lst _ _ _ _ (@pa_cons _ _ _ _ _ (pe_slice sl_list (pv 5) po_none (po_some (@pe_un _ _ _ _ _ _ un_neg pe_int))) (@pa_cons _ _ _ _ _ (@pe_op _ _ _ _ _ _ _ _ op_cat (pv 5) (@pe_lst _ _ _ _ (@pa_cons _ _ _ _ _ pe_non pa_nil (by rfl)))) (@pa_cons _ _ _ _ _ (@pe_lst _ _ _ _ pa_nil) pa_nil (by rfl)) (by rfl)) (by rfl))) (@pe_op _ _ _ _ _ _ _ _ op_sub (pv 1) pe_int) (fun _ _ => rfl)) (@pa_cons _ _ _ _ _ (pv 6) pa_nil (by rfl)) (by rfl))) (pg_sub (pv 0) (pv 4) set_list))) pss_nil) (@pss_one _ _ _ (@ps_ret _ _ _ _ (pv 0)))))))))))))), ?_⟩
  and_intros
  refine ⟨(by show 0 ≤ sizeLine; decide), fun e0 he0 => ?_⟩
  have s1 := same_new he0 (.lst [])
  have ee0 : (upd H e0 (.lst [])) e0 = some (.lst []) := upd_same
  generalize upd H e0 (.lst []) = H1 at s1 ee0 ⊢
  have hr1 := s1 _ _ hr'
  have s01 := s0.trans s1
  refine ⟨.list (rs.map rD), .list [], .lst (SqL.of hr1) (reps_rD fun q m => (gr q m).g.same s1), .lst (SqL.of ee0) .nil, shape_rs _, rfl, ?_⟩
  refine ⟨_, rfl, ?_⟩
  by_cases rn : rs = []
  · refine ifT (by rw [rn]; rfl) ?_
    and_intros
    refine ⟨(by show 1 ≤ sizeLine; decide), fun n1 hn1 => ?_⟩
    have s2 := same_new hn1 (.lst [V.non])
    have en1 : (upd H1 n1 (.lst [V.non])) n1 = some (.lst [V.non]) := upd_same
    generalize upd H1 n1 (.lst [V.non]) = H2 at s2 en1 ⊢
    and_intros
    refine ⟨n1, _, _, rfl, rfl, en1, by omega, by omega, (by rw [Int.toNat_natCast]; exact small63 (by show 1 * h ≤ 1000; omega)), fun n2 hn2 => ?_⟩
    rw [Int.toNat_natCast, rep_non]
    have s3 := same_new hn2 (.lst ((List.replicate h (none : Mrk)).map mv))
    have en2 : (upd H2 n2 (.lst ((List.replicate h (none : Mrk)).map mv))) n2 = some (.lst ((List.replicate h (none : Mrk)).map mv)) := upd_same
    generalize upd H2 n2 (.lst ((List.replicate h (none : Mrk)).map mv)) = H3 at s3 en2 ⊢
    and_intros
    refine ⟨(by show 2 ≤ sizeLine; decide), fun n3 hn3 => ?_⟩
    have s4 := same_new hn3 (.tup [V.ref n2, V.int 0])
    have en3 : (upd H3 n3 (.tup [V.ref n2, V.int 0])) n3 = some (.tup [V.ref n2, V.int 0]) := upd_same
    generalize upd H3 n3 (.tup [V.ref n2, V.int 0]) = H4 at s4 en3 ⊢
    refine ⟨(by show 1 ≤ sizeLine; decide), fun n4 hn4 => ?_⟩
    have s5 := same_new hn4 (.lst [V.ref n3])
    exact q n4 [(n3, n2, List.replicate h none, 0)] _ (s01.trans ((s2.trans s3).trans (s4.trans s5))) upd_same (fun y m => by rw [List.mem_singleton.mp m]; exact ⟨s5 _ _ en3, (s4.trans s5) _ _ en2, fun m k => by rw [(List.mem_replicate.mp k).2]; exact fun q z => nomatch z⟩)
  refine ifF (by cases rs with | nil => exact absurd rfl rn | cons _ _ => rfl) ?_
  have rl : 0 < rs.length := List.length_pos_iff.mpr rn
  have vl := rv_len rs
  and_intros
  refine ⟨(by show ((rv rs).length : Int) ≠ 0; omega), ?_⟩
  have ma := fmod_in c (show (0 : Int) < ((rv rs).length : Int) by omega)
  dsimp only
  obtain ⟨i, hi⟩ : ∃ i : Nat, c.fmod ((rv rs).length : Int) = (i : Int) := ⟨(c.fmod ((rv rs).length : Int)).toNat, by omega⟩
  rw [hi]
  obtain ⟨q0, hq0⟩ : ∃ q, rs[i]? = some q := ⟨_, List.getElem?_eq_getElem (by omega)⟩
  have gq := gr q0 (List.mem_of_getElem? hq0)
  and_intros
  refine ⟨r, _, _, _, rfl, rfl, SqL.of hr1, (atI_nat (by unfold rv; rw [List.getElem?_map, hq0]; rfl)), ?_⟩
  refine ⟨q0.1, _, rfl, SqT.of (s1 _ _ gq.g.t), rfl, _, _, rfl, _, _, rfl, rfl, ?_⟩
  have z64 : 0 ≤ c.fdiv 64 := by rw [Int.fdiv_eq_ediv_of_nonneg c (by decide)]; exact Int.ediv_nonneg c0 (by decide)
  have sz2 : Sz 64 (c.fdiv 64) := szc.fdiv
  and_intros
  dsimp only
  generalize c.fdiv 64 = z at z64 sz2 ⊢
  clear c0 szc ma hi
  have rn0 : Rn H0 H1 r q0.2.1 rs q0.2.2.1 := ⟨s01, hr1, fun q m => ⟨(gr q m).g.same s1, (gr q m).n⟩, s1 _ _ gq.g.l, fun m k => (gq.g.m m k).same s1⟩
  have il : i < rs.length := (List.getElem?_eq_some_iff.mp hq0).1
  have gf := gq.f
  have gn := gq.n
  have glen := gq.len
  have glim := gq.lim
  clear gr hr1 s01 hr' s1 ee0 he0 s0 gq hq0 rn
  refine ⟨fun σ' J => ∃ (qs : List Rd) (ms : List Mrk) (v7 : Option V), σ' = [some (.ref r), some (.int w), some (.int z), some (.int (h : Int)), some (.int (i : Int)), some (.ref q0.2.1), some (.int q0.2.2.2), v7] ∧ Rn H0 J r q0.2.1 qs ms ∧ ms.length ≤ 12 ∧ qs.length ≤ 70 ∧ (0 ≤ w → qs.length = rs.length), ?_, ?_⟩
  · and_intros
    by_cases w5' : w = 5
    · refine ifT (eq_t w5') (ifT rfl ?_)
      and_intros
      refine ⟨(by show (_ : Int) ≠ 0; omega), ?_⟩
      have mj := fmod_in z (show (0 : Int) < (h : Int) by omega)
      dsimp only
      obtain ⟨j, hj⟩ : ∃ j : Nat, z.fmod (h : Int) = (j : Int) := ⟨(z.fmod (h : Int)).toNat, by omega⟩
      rw [hj]
      obtain ⟨m, hm⟩ : ∃ m, q0.2.2.1[j]? = some m := ⟨_, List.getElem?_eq_getElem (by omega)⟩
      have z16 : 0 ≤ z.fdiv 16 := by rw [Int.fdiv_eq_ediv_of_nonneg z (by decide)]; exact Int.ediv_nonneg z64 (by decide)
      and_intros
      refine ⟨q0.2.1, _, _, _, rfl, rfl, SqL.of rn0.ha, (atI_nat (by rw [List.getElem?_map, hm]; rfl)), ?_⟩
      and_intros
      refine ⟨m, _, rfl, rn0.hm m (List.mem_of_getElem? hm), (fun a x y e => glim a x y (by rw [← e]; exact List.mem_of_getElem? hm)), z16, sz2.fdiv, fun m' J1 j1 g1 => ?_⟩
      have rn1 := rn0.same j1
      and_intros
      refine ⟨q0.2.1, _, _, j, rfl, rfl, rn1.ha, ixN_nat (by rw [List.length_map]; omega), ?_⟩
      rw [show (q0.2.2.1.map mv).set j (mv m') = (q0.2.2.1.set j m').map mv from (List.map_set ..).symm]
      have gs : ∀ m ∈ q0.2.2.1.set j m', MkG J1 m := fun y k => by
        rcases List.mem_or_eq_of_mem_set k with k | rfl
        · exact rn1.hm y k
        · exact g1
      exact ⟨rs.map (fixL q0.2.1 (q0.2.2.1.set j m')), q0.2.2.1.set j m', _, rfl, ⟨same_upd rn1.sm gf, by rw [upd_ne (Ne.symm gn), rv_fix]; exact rn1.hr, (fun y k => by
        obtain ⟨x, xm, rfl⟩ := List.mem_map.mp k
        exact ⟨(rn1.gd x xm).1.fix rn1.ha gs, by rw [fix_l]; exact (rn1.gd x xm).2⟩), upd_same, fun y k => (gs y k).upd rn1.ha⟩, by rw [List.length_set]; omega, by rw [List.length_map]; omega, fun _ => List.length_map ..⟩
    refine ifF (eq_f w5') ?_
    and_intros
    by_cases w6 : w = 6
    · refine ifT (eq_t w6) ?_
      and_intros
      refine ⟨(by show (_ : Int) ≠ 0; omega), ?_⟩
      have mj := fmod_in z (show (0 : Int) < (h : Int) by omega)
      dsimp only
      obtain ⟨j, hj⟩ : ∃ j : Nat, z.fmod (h : Int) = (j : Int) := ⟨(z.fmod (h : Int)).toNat, by omega⟩
      rw [hj]
      obtain ⟨m, hm⟩ : ∃ m, q0.2.2.1[j]? = some m := ⟨_, List.getElem?_eq_getElem (by omega)⟩
      have z16 : 0 ≤ z.fdiv 16 := by rw [Int.fdiv_eq_ediv_of_nonneg z (by decide)]; exact Int.ediv_nonneg z64 (by decide)
      and_intros
      refine ⟨q0.2.1, _, _, _, rfl, rfl, SqL.of rn0.ha, (atI_nat (by rw [List.getElem?_map, hm]; rfl)), ?_⟩
      and_intros
      refine ⟨m, _, rfl, rn0.hm m (List.mem_of_getElem? hm), (fun a x y e => glim a x y (by rw [← e]; exact List.mem_of_getElem? hm)), z16, sz2.fdiv, fun m' J1 j1 g1 => ?_⟩
      have rn1 := rn0.same j1
      and_intros
      refine ⟨q0.2.1, _, _, j, rfl, rfl, rn1.ha, ixN_nat (by rw [List.length_map]; omega), ?_⟩
      rw [show (q0.2.2.1.map mv).set j (mv m') = (q0.2.2.1.set j m').map mv from (List.map_set ..).symm]
      have gs : ∀ m ∈ q0.2.2.1.set j m', MkG J1 m := fun y k => by
        rcases List.mem_or_eq_of_mem_set k with k | rfl
        · exact rn1.hm y k
        · exact g1
      exact ⟨rs.map (fixL q0.2.1 (q0.2.2.1.set j m')), q0.2.2.1.set j m', _, rfl, ⟨same_upd rn1.sm gf, by rw [upd_ne (Ne.symm gn), rv_fix]; exact rn1.hr, (fun y k => by
        obtain ⟨x, xm, rfl⟩ := List.mem_map.mp k
        exact ⟨(rn1.gd x xm).1.fix rn1.ha gs, by rw [fix_l]; exact (rn1.gd x xm).2⟩), upd_same, fun y k => (gs y k).upd rn1.ha⟩, by rw [List.length_set]; omega, by rw [List.length_map]; omega, fun _ => List.length_map ..⟩
    refine ifF (eq_f w6) ?_
    exact ⟨rs, q0.2.2.1, _, rfl, rn0, by omega, by omega, fun _ => rfl⟩
  clear rn0
  rintro σ' J ⟨qs, ms, v7, rfl, rn, m12, q70, ql⟩
  refine ⟨fun σ' J => ∃ (qs : List Rd) (ms : List Mrk) (v7 : Option V), σ' = [some (.ref r), some (.int w), some (.int z), some (.int (h : Int)), some (.int (i : Int)), some (.ref q0.2.1), some (.int q0.2.2.2), v7] ∧ Rn H0 J r q0.2.1 qs ms ∧ ms.length ≤ 12 ∧ qs.length ≤ 70 ∧ (0 ≤ w → qs.length = rs.length), ?_, ?_⟩
  · and_intros
    by_cases cw : w = 7
    · refine ifT (eq_t cw) ?_
      have ql' := ql (by omega)
      and_intros
      refine ⟨(by show (_ : Int) ≠ 0; omega), ?_⟩
      and_intros
      dsimp only
      refine ⟨(by show 2 ≤ sizeLine; decide), fun t ht => ?_⟩
      have j1 := same_new ht (.tup [V.ref q0.2.1, V.int (z.fmod ((h : Int) + 2) - 1)])
      have e1 : (upd J t (.tup [V.ref q0.2.1, V.int (z.fmod ((h : Int) + 2) - 1)])) t = some (.tup [V.ref q0.2.1, V.int (z.fmod ((h : Int) + 2) - 1)]) := upd_same
      generalize upd J t (.tup [V.ref q0.2.1, V.int (z.fmod ((h : Int) + 2) - 1)]) = J1 at j1 e1 ⊢
      have rn1 := rn.same j1
      have hr1 := rn1.hr
      and_intros
      refine ⟨r, _, _, i, rfl, rfl, hr1, ixN_nat (by rw [rv_len]; omega), ?_⟩
      rw [show (rv qs).set i (V.ref t) = rv (qs.set i (t, q0.2.1, ms, z.fmod ((h : Int) + 2) - 1)) from rv_set qs i (t, q0.2.1, ms, z.fmod ((h : Int) + 2) - 1)]
      exact ⟨qs.set i (t, q0.2.1, ms, z.fmod ((h : Int) + 2) - 1), ms, v7, rfl, rn1.put hr0 gn (fun y k => by
        rcases List.mem_or_eq_of_mem_set k with k | rfl
        · exact rn1.gd y k
        · exact ⟨⟨e1, rn1.ha, rn1.hm⟩, gn⟩), m12, by rw [List.length_set]; omega, fun k => by rw [List.length_set]; exact ql k⟩
    · refine ifF (eq_f cw) ?_
      exact ⟨qs, ms, v7, rfl, rn, m12, q70, fun k => ql k⟩
  clear rn m12 q70 ql
  rintro σ' J ⟨qs, ms, v7, rfl, rn, m12, q70, ql⟩
  refine ⟨fun σ' J => ∃ (qs : List Rd) (ms : List Mrk) (v7 : Option V), σ' = [some (.ref r), some (.int w), some (.int z), some (.int (h : Int)), some (.int (i : Int)), some (.ref q0.2.1), some (.int q0.2.2.2), v7] ∧ Rn H0 J r q0.2.1 qs ms ∧ ms.length ≤ 12 ∧ qs.length ≤ 70 ∧ (9 ≤ w → qs.length = rs.length), ?_, ?_⟩
  · and_intros
    by_cases cw : w = 8
    · refine ifT (eq_t cw) ?_
      have ql' := ql (by omega)
      have hr1 := rn.hr
      and_intros
      refine ⟨.inl ⟨rfl, _, SqL.of hr1⟩, ?_⟩
      and_intros
      refine ⟨r, _, _, i, _, rfl, rfl, hr1, by omega, by omega, seqAt (by rw [rv_len]; omega), List.getElem?_eq_getElem (by rw [rv_len]; omega), ?_⟩
      rw [show (rv qs).eraseIdx i = rv (qs.eraseIdx i) from map_erase ..]
      exact ⟨qs.eraseIdx i, ms, v7, rfl, rn.put hr0 gn (fun y k => rn.gd y (List.mem_of_mem_eraseIdx k)), m12, Nat.le_trans (by rw [List.length_eraseIdx]; split <;> omega) q70, fun k => by omega⟩
    · refine ifF (eq_f cw) ?_
      exact ⟨qs, ms, v7, rfl, rn, m12, q70, fun k => ql (by omega)⟩
  clear rn m12 q70 ql
  rintro σ' J ⟨qs, ms, v7, rfl, rn, m12, q70, ql⟩
  refine ⟨fun σ' J => ∃ (qs : List Rd) (ms : List Mrk) (v7 : Option V), σ' = [some (.ref r), some (.int w), some (.int z), some (.int (h : Int)), some (.int (i : Int)), some (.ref q0.2.1), some (.int q0.2.2.2), v7] ∧ Rn H0 J r q0.2.1 qs ms ∧ ms.length ≤ 12 ∧ qs.length ≤ 70 ∧ (10 ≤ w → qs.length = rs.length), ?_, ?_⟩
  · and_intros
    by_cases cw : w = 9
    · refine ifT (eq_t cw) ?_
      have ql' := ql (by omega)
      have hr1 := rn.hr
      have ha1 := rn.ha
      and_intros
      refine ⟨.inl ⟨rfl, _, SqL.of hr1⟩, ?_⟩
      and_intros
      intro c1 hc1
      have j1 := same_new hc1 (.lst (ms.map mv))
      have e1 : (upd J c1 (.lst (ms.map mv))) c1 = some (.lst (ms.map mv)) := upd_same
      generalize upd J c1 (.lst (ms.map mv)) = J1 at j1 e1 ⊢
      and_intros
      refine ⟨(by show 2 ≤ sizeLine; decide), fun t ht => ?_⟩
      have j2 := same_new ht (.tup [V.ref c1, V.int q0.2.2.2])
      have e2 : (upd J1 t (.tup [V.ref c1, V.int q0.2.2.2])) t = some (.tup [V.ref c1, V.int q0.2.2.2]) := upd_same
      generalize upd J1 t (.tup [V.ref c1, V.int q0.2.2.2]) = J2 at j2 e2 ⊢
      have rn2 := rn.same (j1.trans j2)
      have cr : c1 ≠ r := fun e => by rw [e, hr1] at hc1; cases hc1
      refine ⟨r, _, i, _, rfl, rfl, rn2.hr, (by rw [rv_len]; omega), (by rw [rv_len]; exact Nat.lt_of_le_of_lt q70 (by decide)), ?_⟩
      rw [show (rv qs).take i ++ V.ref t :: (rv qs).drop i = rv (qs.take i ++ (t, c1, ms, q0.2.2.2) :: qs.drop i) from by unfold rv; rw [List.map_append, List.map_cons, List.map_take, List.map_drop]]
      exact ⟨qs.take i ++ (t, c1, ms, q0.2.2.2) :: qs.drop i, ms, v7, rfl, rn2.put hr0 gn (fun y m => by
        rcases List.mem_append.mp m with m | m
        · exact rn2.gd y (List.mem_of_mem_take m)
        · rcases List.mem_cons.mp m with rfl | m
          · exact ⟨⟨e2, j2 _ _ e1, rn2.hm⟩, cr⟩
          · exact rn2.gd y (List.mem_of_mem_drop m)), m12, (by rw [List.length_append, List.length_cons, List.length_take, List.length_drop]; omega), fun k => by omega⟩
    · refine ifF (eq_f cw) ?_
      exact ⟨qs, ms, v7, rfl, rn, m12, q70, fun k => ql (by omega)⟩
  clear rn m12 q70 ql
  rintro σ' J ⟨qs, ms, v7, rfl, rn, m12, q70, ql⟩
  have hr1 := rn.hr
  have ha1 := rn.ha
  and_intros
  by_cases cw : w = 10
  · refine ifT (eq_t cw) ?_
    refine ⟨(by show 0 ≤ sizeLine; decide), fun b hb => ?_⟩
    exact q b [] _ (rn.sm.trans (same_new hb _)) upd_same (fun _ m => nomatch m)
  refine ifF (eq_f cw) ?_
  and_intros
  by_cases cw' : w = 11
  · refine ifT (eq_t cw') ?_
    and_intros
    refine ⟨r, _, rfl, SqL.of hr1, fun b hb => ?_⟩
    exact q b qs.reverse _ (rn.sm.trans (same_new hb _)) (by rw [upd_same, show (rv qs).reverse = rv qs.reverse from (List.map_reverse ..).symm]) (fun y m => (rn.gd y (List.mem_reverse.mp m)).1.same (same_new hb _))
  refine ifF (eq_f cw') ?_
  and_intros
  by_cases cx : 12 < w
  · refine ifT (decide_eq_true cx) ?_
    have ql' := ql (by omega)
    and_intros
    refine ⟨q0.2.1, _, rfl, SqL.of ha1, fun c1 hc1 => ?_⟩
    obtain ⟨m1, em1, mm1⟩ := cut_some ms none (some (-1))
    rw [em1]
    have j1 := same_new hc1 (.lst (m1.map mv))
    have e1 : (upd J c1 (.lst (m1.map mv))) c1 = some (.lst (m1.map mv)) := upd_same
    generalize upd J c1 (.lst (m1.map mv)) = J1 at j1 e1 ⊢
    and_intros
    refine ⟨(by show 1 ≤ sizeLine; decide), fun n1 hn1 => ?_⟩
    have j2 := same_new hn1 (.lst [V.non])
    have en : (upd J1 n1 (.lst [V.non])) n1 = some (.lst [V.non]) := upd_same
    generalize upd J1 n1 (.lst [V.non]) = J2 at j2 en ⊢
    have j12 := j1.trans j2
    refine ⟨q0.2.1, n1, _, _, rfl, rfl, j12 _ _ ha1, en, (by rw [List.length_map]; exact small63 (by show _ + 1 ≤ 1000; omega)), fun c2 hc2 => ?_⟩
    rw [show ms.map mv ++ [V.non] = (ms ++ [none]).map mv from by rw [List.map_append]; rfl]
    have j3 := same_new hc2 (.lst ((ms ++ [none]).map mv))
    have e2 : (upd J2 c2 (.lst ((ms ++ [none]).map mv))) c2 = some (.lst ((ms ++ [none]).map mv)) := upd_same
    generalize upd J2 c2 (.lst ((ms ++ [none]).map mv)) = J3 at j3 e2 ⊢
    refine ⟨(by show 0 ≤ sizeLine; decide), fun c3 hc3 => ?_⟩
    have j4 := same_new hc3 (.lst [])
    have e3 : (upd J3 c3 (.lst [])) c3 = some (.lst []) := upd_same
    generalize upd J3 c3 (.lst []) = J4 at j4 e3 ⊢
    refine ⟨(by show 3 ≤ sizeLine; decide), fun c4 hc4 => ?_⟩
    have j5 := same_new hc4 (.lst [V.ref c1, V.ref c2, V.ref c3])
    have e4 : (upd J4 c4 (.lst [V.ref c1, V.ref c2, V.ref c3])) c4 = some (.lst [V.ref c1, V.ref c2, V.ref c3]) := upd_same
    generalize upd J4 c4 (.lst [V.ref c1, V.ref c2, V.ref c3]) = J5 at j5 e4 ⊢
    have j15 := j12.trans (j3.trans (j4.trans j5))
    have rn5 := rn.same j15
    have n1' : ∀ b, J b = none → b ≠ r := fun b hb e => by rw [e, hr1] at hb; cases hb
    obtain ⟨cx', mx, hx, ex, gx, nx⟩ : ∃ (b : Addr) (mx : List Mrk), atI [V.ref c1, V.ref c2, V.ref c3] (w - 13) = some (.ref b) ∧ J5 b = some (.lst (mx.map mv)) ∧ (∀ m ∈ mx, MkG J5 m) ∧ b ≠ r := by
      rcases (by omega : w - 13 = 0 ∨ w - 13 = 1 ∨ w - 13 = 2) with e | e | e <;> rw [e]
      · exact ⟨c1, m1, rfl, (j2.trans (j3.trans (j4.trans j5))) _ _ e1, fun m k => rn5.hm m (mm1 m k), n1' c1 hc1⟩
      · refine ⟨c2, ms ++ [none], rfl, (j4.trans j5) _ _ e2, fun m k => ?_, n1' c2 (none_of j12 hc2)⟩
        rcases List.mem_append.mp k with k | k
        · exact rn5.hm m k
        · rw [List.mem_singleton.mp k]; exact fun q z => nomatch z
      · exact ⟨c3, [], rfl, j5 _ _ e3, (fun _ m => nomatch m), n1' c3 (none_of (j12.trans j3) hc3)⟩
    and_intros
    refine ⟨c4, _, _, _, rfl, rfl, SqL.of e4, hx, ?_⟩
    and_intros
    refine ⟨(by show 2 ≤ sizeLine; decide), fun t ht => ?_⟩
    have j6 := same_new ht (.tup [V.ref cx', V.int q0.2.2.2])
    have e6 : (upd J5 t (.tup [V.ref cx', V.int q0.2.2.2])) t = some (.tup [V.ref cx', V.int q0.2.2.2]) := upd_same
    generalize upd J5 t (.tup [V.ref cx', V.int q0.2.2.2]) = J6 at j6 e6 ⊢
    have rn6 := rn5.same j6
    have hr6 := rn6.hr
    and_intros
    refine ⟨r, _, _, i, rfl, rfl, hr6, ixN_nat (by rw [rv_len]; omega), ?_⟩
    rw [show (rv qs).set i (V.ref t) = rv (qs.set i (t, cx', mx, q0.2.2.2)) from rv_set qs i (t, cx', mx, q0.2.2.2)]
    have rn7 := rn6.put (ps := qs.set i (t, cx', mx, q0.2.2.2)) hr0 gn (fun y k => by
        rcases List.mem_or_eq_of_mem_set k with k | rfl
        · exact rn6.gd y k
        · exact ⟨⟨e6, j6 _ _ ex, fun m k => (gx m k).same j6⟩, nx⟩)
    exact ⟨_, rfl, q r _ _ rn7.sm rn7.hr (fun y m => (rn7.gd y m).1)⟩
  · refine ifF (decide_eq_false cx) ?_
    exact ⟨_, rfl, q r qs J rn.sm hr1 (fun y m => (rn.gd y m).1)⟩
theorem ok_Lists_least_votes (T : Tx K mg ad) : FnOk P w K mg base CX0 2 ad.f_Lists_least_votes ad.d_Lists_least_votes ["self", "ballots"] (spLeast ad.c_Lists) := by
  refine T.F_Lists_least_votes.ok sc_Lists_least_votes (fun vs H Q E h => ?_) (fun cdv A outer s H vs Q E hr h => ?_)
  · obtain ⟨a, h, s, st, u, v, ns, n, rfl, _⟩ := h
    rfl
  obtain ⟨a, h, s, st, u, v, ns, n, rfl, k, v0, su, sv, sn, q⟩ := h
  refine ⟨_, (@pss_one _ _ _ (@ps_ret _ _ _ _ (@pe_callB _ _ _ _ _ _ _ _ _ (call_max2 rfl) (by rfl) T.z_max PyProof.Rows.boot_max (@pa_cons _ _ _ _ _ pe_int (@pa_cons _ _ _ _ _ (@pe_call _ _ _ _ _ _ _ _ _ _ _ _ _ _ _ _ (ok_up T) (hr.mono (by decide)) rfl T.m_up T.F_up.kp T.b_up .nil pass0 (@pa_cons _ _ _ _ _ (@pe_op _ _ _ _ _ _ _ _ op_mulB (@pe_ix _ _ _ _ _ _ _ ix_tup (pe_fld (pv 0) rfl) pe_int (fun _ _ => rfl)) (pv 1)) (@pa_cons _ _ _ _ _ (@pe_ix _ _ _ _ _ _ _ ix_tup (pe_fld (pv 0) rfl) pe_int (fun _ _ => rfl)) pa_nil (by rfl)) (by rfl)) (by decide) (by rfl) (by rfl)) pa_nil (by rfl)) (by rfl)) (by decide) (by decide) (by rfl) (by rfl)))), ?_⟩
  obtain ⟨dx, l, t, k1, k2, k3⟩ := k
  refine ⟨_, rfl, a, _, dx, _, _, rfl, k1, T.cl_Lists, T.na_Lists_hurdle, rfl, ?_⟩
  and_intros
  refine ⟨a, _, dx, _, _, rfl, k1, T.cl_Lists, T.na_Lists_hurdle, rfl, ?_⟩
  and_intros
  refine ⟨_, _, rfl, v0, sv.mono (by decide), ?_⟩
  and_intros
  refine ⟨1, _, rfl, ?_⟩
  rw [show (if -((-(u * n)).fdiv v) > 1 then -((-(u * n)).fdiv v) else 1) = max 1 (-((-(u * n)).fdiv v)) from by split <;> omega]
  exact q
theorem ok_Lists_greatest_mark (T : Tx K mg ad) : FnOk P w K mg base CX0 2 ad.f_Lists_greatest_mark ad.d_Lists_greatest_mark ["self", "marks"] (spGreatest ad.c_Lists) := by
  refine T.F_Lists_greatest_mark.ok sc_Lists_greatest_mark (fun vs H Q E h => ?_) (fun cdv A outer s H vs Q E hr h => ?_)
  · obtain ⟨a, m, h, s, st, u, v, ns, xs, had, l, rfl, _⟩ := h
    rfl
  obtain ⟨a, m, h, s, st, u, v, ns, xs, had, l, rfl, il, sn, mk, hp, ne, q⟩ := h
  refine ⟨_, (@pss_cons _ _ _ _ _ (ps_setC (j := 2) (fsc := defScope s_Lists_greatest_mark) (N := ["self", "marks", "by_lots", "best", "hand"]) (Nc := ["self", "marks", "by_lots", "best", ".s4", "hand"]) rfl rfl ⟨rfl, by decide +kernel, by decide +kernel, rfl, by decide +kernel, rfl, by decide +kernel, rfl, by decide +kernel⟩ rfl sc_Lists_greatest_mark.nd rfl rfl (pi_list (pe_fld (pv 0) rfl)) (fun _ _ _ _ => (pif_one (@pt_cmpR _ _ _ _ _ _ _ _ op_notN (@pe_ix _ _ _ _ _ _ _ (ix_listK K) (pv 1) (pv 5) (fun _ _ => rfl)) pe_non (nomark _)))) (fun _ _ _ _ => (pv 5)) rfl) (@pss_cons _ _ _ _ _ (@ps_set _ _ (3) _ _ _ _ sc_Lists_greatest_mark.nd rfl (Or.inl rfl) (@pe_ix _ _ _ _ _ _ _ ix_list (pv 2) pe_int (fun _ _ => rfl)) (by rfl) (by first | exact .inl rfl | exact .inr rfl | assumption)) (@pss_cons _ _ _ _ _ (ps_for PassesOwn.never rfl (pi_list (pv 2)) (pg_name (i := 4) sc_Lists_greatest_mark.nd rfl (Or.inl rfl)) (@pss_one _ _ _ (@ps_if _ _ _ _ _ _ _ _ (@pt_val _ _ _ (@pe_call _ _ _ _ _ _ _ _ _ _ _ _ _ _ _ _ (ok_under T) (hr.mono (by decide)) rfl T.m_under T.F_under.kp T.b_under .nil pass0 (@pa_cons _ _ _ _ _ (@pe_ix _ _ _ _ _ _ _ ix_list (pv 1) (pv 3) (fun _ _ => rfl)) (@pa_cons _ _ _ _ _ (@pe_ix _ _ _ _ _ _ _ ix_list (pv 1) (pv 4) (fun _ _ => rfl)) pa_nil (by rfl)) (by rfl)) (by decide) (by rfl) (by rfl)) (by intro _; rfl)) (@pss_one _ _ _ (@ps_set _ _ (3) _ _ _ _ sc_Lists_greatest_mark.nd rfl (Or.inl rfl) (pv 4) (by rfl) (by first | exact .inl rfl | exact .inr rfl | assumption))) pss_nil))) (@pss_one _ _ _ (@ps_ret _ _ _ _ (pv 3)))))), ?_⟩
  obtain ⟨dx, la, t, k1, k2, k3⟩ := id il
  obtain ⟨ys, m1, m2, m3⟩ := id mk
  have h12 := sn.h12
  have st1 := sn.st1
  have st9 := sn.st9
  have nl : ns.length = h := by rw [sn.perm.length_eq, ups_len]
  have inr : ∀ z ∈ ns, 0 ≤ z ∧ z < h := fun z m => ups_mem.mp (sn.perm.mem_iff.mp m)
  refine ⟨_, rfl, a, _, dx, _, _, rfl, k1, T.cl_Lists, T.na_Lists_lots, rfl, ?_⟩
  refine ⟨la, rfl, ⟨_, SqL.of k2⟩, ?_⟩
  refine comp_list (xs := ns.map V.int) (by rw [List.length_map]; exact small63 (by omega)) (fun D i ys' H' => ys' = (takers xs (ns.take i) l).map V.int ∧ H' = upd H D (.lst ys')) (fun D hD => ⟨rfl, rfl⟩) (fun D i ys' H' ⟨f1, f2⟩ => ⟨by rw [f2]; exact upd_same, by rw [f1, List.length_map]; unfold takers; exact Nat.le_trans (List.length_filter_le _ _) (List.length_take_le _ _)⟩) (fun D i ys' H' hD ⟨_, f2⟩ => by rw [f2]; exact SqL.of (same_new hD _ _ _ k2)) ?_ ?_
  · rintro D i x ys' H' K1 K2 hD hx ⟨f1, rfl⟩ c1 c2
    obtain ⟨z, hz, rfl⟩ := int_at hx
    have zm := List.mem_of_getElem? hz
    obtain ⟨z0, z1⟩ := inr z zm
    have et : ns.take (i + 1) = ns.take i ++ [z] := by rw [List.take_succ, hz]; rfl
    have m1' := same_new hD (.lst ys') _ _ m1
    rcases m3 z.toNat (by omega) with ⟨lo, e⟩ | ⟨lo, p, e, ep⟩
    · have ea : atI ys z = some .non := by have := atI_nat e; rwa [Int.toNat_of_nonneg z0] at this
      refine ⟨_, rfl, _, rfl, m, _, _, _, rfl, rfl, SqL.of m1', ea, rfl, ?_⟩
      refine ⟨_, rfl, ?_⟩
      refine ifF rfl ?_
      refine c2 _ ⟨?_, rfl⟩
      rw [f1, et, takers_snoc, if_neg (by omega), List.append_nil]
    · have ea : atI ys z = some (.ref p) := by have := atI_nat e; rwa [Int.toNat_of_nonneg z0] at this
      refine ⟨_, rfl, _, rfl, m, _, _, _, rfl, rfl, SqL.of m1', ea, rfl, ?_⟩
      refine ⟨_, rfl, ?_⟩
      refine ifT rfl ?_
      refine ⟨_, rfl, ?_⟩
      refine c1 _ _ upd_same ⟨?_, by rw [upd_upd]⟩
      rw [f1, et, takers_snoc, if_pos lo, List.map_append]
      rfl
  rintro D ys' H1 hD ⟨rfl, rfl⟩
  rw [List.length_map, List.take_of_length_le (Nat.le_refl _)]
  have s1 := same_new hD (.lst ((takers xs ns l).map V.int))
  have e1 : (upd H D (.lst ((takers xs ns l).map V.int))) D = some (.lst ((takers xs ns l).map V.int)) := upd_same
  generalize upd H D (.lst ((takers xs ns l).map V.int)) = H1 at s1 e1 ⊢
  have mark : ∀ x ∈ takers xs ns l, ∃ p, atI ys x = some (.ref p) ∧ H1 p = some (.tup [.int (lowT (xs.getD x.toNat 0) (1 + st * had.getD x.toNat 0)), .int (lowB (xs.getD x.toNat 0) (1 + st * had.getD x.toNat 0))]) := fun x xm => by
    obtain ⟨xn, xl⟩ := takers_in xm
    obtain ⟨x0, x1⟩ := inr x xn
    rcases m3 x.toNat (by omega) with ⟨lo, e⟩ | ⟨lo, p, e, ep⟩
    · omega
    · exact ⟨p, by have := atI_nat e; rwa [Int.toNat_of_nonneg x0] at this, s1 _ _ ep⟩
  have pos : ∀ x : Int, 0 < 1 + st * had.getD x.toNat 0 ∧ 1 + st * had.getD x.toNat 0 ≤ 541 := fun x => by
    have := Int.mul_nonneg (show 0 ≤ st by omega) (hp x.toNat).1
    have := Int.mul_le_mul st9 (hp x.toNat).2 (hp x.toNat).1 (by decide)
    omega
  have q' : Q (.int (pick xs ns had l st)) H1 := q _ s1
  unfold pick at q'
  cases et : takers xs ns l with
  | nil => exact absurd et ne
  | cons b r =>
    rw [et] at e1 mark q'
    dsimp only at q'
    have a0 : atI ((b :: r).map V.int) 0 = some (.int b) := atN (i := 0) rfl
    refine ⟨_, rfl, D, _, _, _, rfl, rfl, SqL.of e1, a0, ?_⟩
    refine ⟨_, rfl, D, rfl, ⟨_, SqL.of e1⟩, for_list (xs := (b :: r).map V.int) (fun i σ' H' => ∃ v4, σ' = [some (.ref a), some (.ref m), some (.ref D), some (.int (bestOf xs had st b ((b :: r).take i))), v4] ∧ H1 = H') ⟨none, rfl, rfl⟩ (fun i σ' H' _ ⟨_, _, e⟩ => by rw [← e]; exact SqL.of e1) ?_ ?_⟩
    · rintro i x σ' H' hx ⟨v4, rfl, rfl⟩
      obtain ⟨z, hz, rfl⟩ := int_at hx
      have zm := List.mem_of_getElem? hz
      have tk : (b :: r).take (i + 1) = (b :: r).take i ++ [z] := by rw [List.take_succ, hz]; rfl
      have bm : bestOf xs had st b ((b :: r).take i) ∈ b :: r := by
        rcases bestOf_mem xs had st ((b :: r).take i) b with e | e
        · rw [e]; exact List.mem_cons_self ..
        · exact List.mem_of_mem_take e
      have nx : bestOf xs had st b ((b :: r).take (i + 1)) = if undB xs had st (bestOf xs had st b ((b :: r).take i)) z = true then z else bestOf xs had st b ((b :: r).take i) := by
        rw [tk]
        unfold bestOf
        rw [List.foldl_append]
        rfl
      rw [nx]
      generalize bestOf xs had st b ((b :: r).take i) = c at bm ⊢
      obtain ⟨p1, a1, h1⟩ := mark c bm
      obtain ⟨p2, a2, h2⟩ := mark z zm
      have z1 := low_sz (v := xs.getD c.toNat 0) (pos c).1
      have z2 := low_sz (v := xs.getD z.toNat 0) (pos z).1
      have b1 := sn.big c.toNat
      have b2 := sn.big z.toNat
      rw [if_neg (by omega)] at z1 z2
      have pc := pos c
      have pz := pos z
      have m1' := s1 _ _ m1
      refine ⟨_, rfl, _, rfl, m, _, _, _, rfl, rfl, SqL.of m1', a1, _, rfl, _, rfl, m, _, _, _, rfl, rfl, SqL.of m1', a2, p1, p2, _, _, _, _, rfl, SqT.of h1, SqT.of h2, (sz_of (n := 64) (by omega) (by omega)).mono (by decide), (sz_of (n := 64) (by omega) (by omega)).mono (by decide), (sz_of (n := 64) (by omega) (by omega)).mono (by decide), (sz_of (n := 64) (by omega) (by omega)).mono (by decide), ?_⟩
      rw [low_cross pc.1 pz.1]
      refine ⟨_, rfl, ?_⟩
      refine ite2 (fun k => ?_) (fun k => ?_)
      · refine ⟨_, rfl, ?_⟩
        exact ⟨_, by rw [if_pos (show undB xs had st c z = true from k)]; rfl, rfl⟩
      · exact ⟨_, by rw [if_neg (show ¬ undB xs had st c z = true from k)]; rfl, rfl⟩
    · rintro σ' H' ⟨v4, rfl, rfl⟩
      rw [List.length_map, List.take_of_length_le (Nat.le_refl _)]
      exact ⟨_, rfl, q'⟩
theorem ok_votes_of (T : Tx K mg ad) : FnOk P w K mg base CX0 3 ad.f_votes_of ad.d_votes_of ["sheet", "hands"] (spVotes K) := by
  refine T.F_votes_of.ok sc_votes_of (fun vs H Q E h => ?_) (fun cdv A outer s H vs Q E hr h => ?_)
  · obtain ⟨l, ls, h, rfl, _⟩ := h
    rfl
  obtain ⟨l, ls, h, rfl, hl, g, h1, h12, q⟩ := h
  refine ⟨_, (@pss_cons _ _ _ _ _ (ps_setC (j := 2) (fsc := defScope s_votes_of) (N := ["sheet", "hands", "votes", "slip", "number", "hand", "place"]) (Nc := ["sheet", "hands", "votes", "slip", "number", "hand", ".s6", "place"]) rfl rfl ⟨rfl, by decide +kernel, by decide +kernel, rfl, by decide +kernel, rfl, by decide +kernel, rfl, by decide +kernel⟩ rfl sc_votes_of.nd rfl rfl (pi_range1 rfl T.z_range (@pa_cons _ _ _ _ _ (@pe_op _ _ _ _ _ _ _ _ op_add (pv 1) pe_int) pa_nil (by rfl))) (fun _ _ _ _ => pif_nil) (fun _ _ _ _ => pe_int) rfl) (@pss_cons _ _ _ _ _ (ps_for PassesOwn.never rfl (pi_list (pv 0)) (pg_tup rfl (pgs_cons (pg_name (i := 3) sc_votes_of.nd rfl (Or.inl rfl)) (pgs_cons (pg_name (i := 4) sc_votes_of.nd rfl (Or.inl rfl)) pgs_nil))) (@pss_cons _ _ _ _ _ (@ps_set _ _ (5) _ _ _ _ sc_votes_of.nd rfl (Or.inl rfl) (@pe_call _ _ _ _ _ _ _ _ _ _ _ _ _ _ _ _ (ok_vote_of T) (hr.mono (by decide)) rfl T.m_vote_of T.F_vote_of.kp T.b_vote_of .nil pass0 (@pa_cons _ _ _ _ _ (pv 3) pa_nil (by rfl)) (by decide) (by rfl) (by rfl)) (by rfl) (by first | exact .inl rfl | exact .inr rfl | assumption)) (@pss_cons _ _ _ _ _ (@ps_set _ _ (6) _ _ _ _ sc_votes_of.nd rfl (Or.inl rfl) (pe_ifExp (@pt_cmpR _ _ _ _ _ _ _ _ op_isN (pv 5) pe_non (nomark _)) (pv 1) (pv 5)) (by rfl) (by first | exact .inl rfl | exact .inr rfl | assumption)) (@pss_one _ _ _ (ps_asg (@pe_op _ _ _ _ _ _ _ _ op_add (@pe_ix _ _ _ _ _ _ _ ix_list (pv 2) (pv 6) (fun _ _ => rfl)) (pv 4)) (pg_sub (pv 2) (pv 6) set_list)))))) (@pss_one _ _ _ (@ps_ret _ _ _ _ (pv 2))))), ?_⟩
  refine ⟨_, rfl, _, _, rfl, rfl, _, rfl, by omega, by omega, ?_⟩
  have en : (h + 1).toNat = h.toNat + 1 := by omega
  rw [en]
  refine comp_range (small63 (by omega)) (fun D i ys H' => ys = (List.replicate i (0 : Int)).map V.int ∧ H' = upd H D (.lst ys)) (fun D hD => ⟨rfl, rfl⟩) (fun D i ys H' ⟨f1, f2⟩ => ⟨by rw [f2]; exact upd_same, by rw [f1, List.length_map, List.length_replicate]; exact Nat.le_refl _⟩) ?_ ?_
  · rintro D i ys H' K1 K2 hD hi ⟨f1, rfl⟩ k1 k2
    refine yes (ifT rfl ?_)
    refine k1 _ _ upd_same ⟨?_, by rw [upd_upd]⟩
    rw [f1, List.replicate_succ', List.map_append]
    rfl
  rintro D ys H1 hD ⟨rfl, rfl⟩
  have s1 := same_new hD (.lst ((List.replicate (h.toNat + 1) (0 : Int)).map V.int))
  have eD : (upd H D (.lst ((List.replicate (h.toNat + 1) (0 : Int)).map V.int))) D = some (.lst ((tally h.toNat []).map V.int)) := upd_same
  generalize upd H D (.lst ((List.replicate (h.toNat + 1) (0 : Int)).map V.int)) = H1 at s1 eD ⊢
  refine ⟨_, rfl, l, rfl, ⟨_, SqL.of (s1 _ _ hl)⟩, for_list (xs := vls ls) (fun i σ' H' => ∃ v3 v4 v5 v6, σ' = [some (.ref l), some (.int h), some (.ref D), v3, v4, v5, v6] ∧ Same H H' ∧ H' D = some (.lst ((tally h.toNat (ls.take i)).map V.int))) ⟨none, none, none, none, rfl, s1, eD⟩ (fun i σ' H' _ ⟨_, _, _, _, _, e, _⟩ => SqL.of (e _ _ hl)) ?_ ?_⟩
  · rintro i x σ' H' hx ⟨v3, v4, v5, v6, rfl, s2, e2⟩
    obtain ⟨f, hf, rfl, fm, et⟩ := vls_get hx
    obtain ⟨g1, g2, g3⟩ := g f fm
    refine ⟨f.1, _, rfl, SqT.of (s2 _ _ g1), rfl, _, _, rfl, _, _, rfl, rfl, ?_⟩
    have tl := tally_len h.toNat (ls.take i)
    have ple := pl_le h.toNat f.2.2.1
    have fin : ∀ (H3 : Hp) (v5 : Option V), Same H' H3 → ∃ w3 w4 w5 w6, [some (V.ref l), some (.int h), some (.ref D), some (.ref f.2.1), some (.int f.2.2.2), v5, some (.int (pl h.toNat f.2.2.1 : Nat))] = [some (V.ref l), some (.int h), some (.ref D), w3, w4, w5, w6] ∧ Same H (upd H3 D (.lst ((tally h.toNat (ls.take (i + 1))).map V.int))) ∧ (upd H3 D (.lst ((tally h.toNat (ls.take (i + 1))).map V.int))) D = some (.lst ((tally h.toNat (ls.take (i + 1))).map V.int)) := fun H3 v5 s3 =>
      ⟨_, _, _, _, rfl, same_upd (s2.trans s3) hD, upd_same⟩
    have gv : (tally h.toNat (ls.take i))[pl h.toNat f.2.2.1]? = some ((tally h.toNat (ls.take i)).getD (pl h.toNat f.2.2.1) 0) := by
      rw [List.getD_eq_getElem?_getD, List.getElem?_eq_getElem (by omega)]
      rfl
    have es : ((tally h.toNat (ls.take i)).map V.int).set (pl h.toNat f.2.2.1) (V.int ((tally h.toNat (ls.take i)).getD (pl h.toNat f.2.2.1) 0 + f.2.2.2)) = (tally h.toNat (ls.take (i + 1))).map V.int := by
      rw [et, tally_snoc]
      unfold addV
      rw [List.map_set]
    refine ⟨_, rfl, f.2.1, f.2.2.1, h.toNat, rfl, s2 _ _ g2, g3, by omega, fun ep H3 s3 => ?_, fun lp H3 s3 => ?_⟩
    · and_intros
      have eh : h = ((pl h.toNat f.2.2.1 : Nat) : Int) := by omega
      have a0 := atN gv
      have i0 := ixN_nat (n := ((tally h.toNat (ls.take i)).map V.int).length) (i := pl h.toNat f.2.2.1) (by rw [List.length_map]; omega)
      rw [← eh] at a0 i0
      refine ⟨D, _, _, _, rfl, rfl, SqL.of (s3 _ _ e2), a0, _, rfl, _, _, rfl, rfl, _, rfl, _, rfl, D, _, _, _, rfl, rfl, s3 _ _ e2, i0, ?_⟩
      dsimp only
      rw [es]
      exact ⟨_, _, _, _, rfl, same_upd (s2.trans s3) hD, upd_same⟩
    · and_intros
      have eh : ((pl h.toNat f.2.2.1 : Nat) : Int) = ((pl h.toNat f.2.2.1 : Nat) : Int) := by rfl
      have a0 := atN gv
      have i0 := ixN_nat (n := ((tally h.toNat (ls.take i)).map V.int).length) (i := pl h.toNat f.2.2.1) (by rw [List.length_map]; omega)
      refine ⟨D, _, _, _, rfl, rfl, SqL.of (s3 _ _ e2), a0, _, rfl, _, _, rfl, rfl, _, rfl, _, rfl, D, _, _, _, rfl, rfl, s3 _ _ e2, i0, ?_⟩
      dsimp only
      rw [es]
      exact ⟨_, _, _, _, rfl, same_upd (s2.trans s3) hD, upd_same⟩
  · rintro σ' H' ⟨v3, v4, v5, v6, rfl, s2, e2⟩
    rw [vls_len, List.take_of_length_le (Nat.le_refl _)] at e2
    exact ⟨_, rfl, q D H' hD s2 e2⟩
theorem ok_law_sheet (T : Tx K mg ad) : FnOk P w K mg base CX0 3 ad.f_law_sheet ad.d_law_sheet ["_law_script", "_law_at", "_law_hands"] (spSheetN K) := by
  refine T.F_law_sheet.ok sc_law_sheet (fun vs H Q E h => ?_) (fun cdv A outer s H vs Q E hr h => ?_)
  · obtain ⟨p, ns, k, h, rfl, _⟩ := h
    rfl
  obtain ⟨p, ns, k, h, rfl, hS, h63, rfl, h1, h12, q⟩ := h
  refine ⟨_, (@pss_cons _ _ _ _ _ (@ps_set _ _ (3) _ _ _ _ sc_law_sheet.nd rfl (Or.inl rfl) (@pe_call _ _ _ _ _ _ _ _ _ _ _ _ _ _ _ _ (ok_law_mixed T) (hr.mono (by decide)) rfl T.m_law_mixed T.F_law_mixed.kp T.b_law_mixed .nil pass0 (@pa_cons _ _ _ _ _ (@pe_call _ _ _ _ _ _ _ _ _ _ _ _ _ _ _ _ (ok_law_cell T) (hr.mono (by decide)) rfl T.m_law_cell T.F_law_cell.kp T.b_law_cell .nil pass0 (@pa_cons _ _ _ _ _ (pv 0) (@pa_cons _ _ _ _ _ pe_int pa_nil (by rfl)) (by rfl)) (by decide) (by rfl) (by rfl)) (@pa_cons _ _ _ _ _ pe_int pa_nil (by rfl)) (by rfl)) (by decide) (by rfl) (by rfl)) (by rfl) (by first | exact .inl rfl | exact .inr rfl | assumption)) (@pss_cons _ _ _ _ _ (@ps_set _ _ (4) _ _ _ _ sc_law_sheet.nd rfl (Or.inl rfl) (@pe_op _ _ _ _ _ _ _ _ op_modN (pv 3) pe_int) (by rfl) (by first | exact .inl rfl | exact .inr rfl | assumption)) (@pss_cons _ _ _ _ _ (@ps_if _ _ _ _ _ _ _ _ (@pt_cmpR _ _ _ _ _ _ _ _ op_eq (@pe_op _ _ _ _ _ _ _ _ op_modN (@pe_op _ _ _ _ _ _ _ _ op_fdivB (pv 3) pe_int) pe_int) pe_int (nomark _)) (@pss_one _ _ _ (@ps_ret _ _ _ _ (@pe_lst _ _ _ _ pa_nil))) pss_nil) (@pss_cons _ _ _ _ _ (@ps_set _ _ (5) _ _ _ _ sc_law_sheet.nd rfl (Or.inr rfl) pe_dnewT (by rfl) (by first | exact .inl rfl | exact .inr rfl | assumption)) (@pss_cons _ _ _ _ _ (ps_for PassesOwn.never rfl (pi_range2 rfl T.z_range (@pa_cons _ _ _ _ _ (pv 1) (@pa_cons _ _ _ _ _ (@pe_callB _ _ _ _ _ _ _ _ _ (call_max2 rfl) (by rfl) T.z_max PyProof.Rows.boot_max (@pa_cons _ _ _ _ _ (@pe_op _ _ _ _ _ _ _ _ op_add (pv 1) pe_int) (@pa_cons _ _ _ _ _ (@pe_callB _ _ _ _ _ _ _ _ _ (call_min2 rfl) (by rfl) T.z_min PyProof.Rows.boot_min (@pa_cons _ _ _ _ _ (@pe_callB _ _ _ _ _ _ _ _ _ call_len_seq (by rfl) T.z_len PySem.boot_len (@pa_cons _ _ _ _ _ (pv 0) pa_nil (by rfl)) (by decide) (by decide) (by rfl) (by rfl)) (@pa_cons _ _ _ _ _ pe_int pa_nil (by rfl)) (by rfl)) (by decide) (by decide) (by rfl) (by rfl)) pa_nil (by rfl)) (by rfl)) (by decide) (by decide) (by rfl) (by rfl)) pa_nil (by rfl)) (by rfl))) (pg_name (i := 6) sc_law_sheet.nd rfl (Or.inl rfl)) (@pss_cons _ _ _ _ _ (@ps_set _ _ (7) _ _ _ _ sc_law_sheet.nd rfl (Or.inl rfl) (@pe_call _ _ _ _ _ _ _ _ _ _ _ _ _ _ _ _ (ok_law_cell T) (hr.mono (by decide)) rfl T.m_law_cell T.F_law_cell.kp T.b_law_cell .nil pass0 (@pa_cons _ _ _ _ _ (pv 0) (@pa_cons _ _ _ _ _ (pv 6) pa_nil (by rfl)) (by rfl)) (by decide) (by rfl) (by rfl)) (by rfl) (by first | exact .inl rfl | exact .inr rfl | assumption)) (@pss_cons _ _ _ _ _ (@ps_set _ _ (8) _ _ _ _ sc_law_sheet.nd rfl (Or.inl rfl) (@pe_call _ _ _ _ _ _ _ _ _ _ _ _ _ _ _ _ (ok_law_slip T) (hr.mono (by decide)) rfl T.m_law_slip T.F_law_slip.kp T.b_law_slip .nil pass0 (@pa_cons _ _ _ _ _ (pv 7) (@pa_cons _ _ _ _ _ (pv 2) pa_nil (by rfl)) (by rfl)) (by decide) (by rfl) (by rfl)) (by rfl) (by first | exact .inl rfl | exact .inr rfl | assumption)) (@pss_one _ _ _ (ps_dput (u1 hr.units) (pv 5) (pv 8) (@pe_op _ _ _ _ _ _ _ _ op_add (pe_dget2 (u1 hr.units) (pv 5) (pv 8) pe_int ⟨rfl, rfl, rfl, rfl⟩) (@pe_call _ _ _ _ _ _ _ _ _ _ _ _ _ _ _ _ (ok_law_number T) (hr.mono (by decide)) rfl T.m_law_number T.F_law_number.kp T.b_law_number .nil pass0 (@pa_cons _ _ _ _ _ (pv 7) (@pa_cons _ _ _ _ _ (pv 6) (@pa_cons _ _ _ _ _ (pv 4) pa_nil (by rfl)) (by rfl)) (by rfl)) (by decide) (by rfl) (by rfl))) rfl))))) (@pss_one _ _ _ (@ps_ret _ _ _ _ (pe_comp (fsc := defScope s_law_sheet) (N := ["_law_script", "_law_at", "_law_hands", "_law_drawn", "_law_mode", "_law_many", "_law_k", "_law_cell_here", "_law_slip_here"]) (Nc := ["_law_script", "_law_at", "_law_hands", "_law_drawn", "_law_mode", "_law_many", "_law_k", "_law_cell_here", ".s8", "_law_slip_here"]) rfl rfl ⟨rfl, by decide +kernel, by decide +kernel, rfl, by decide +kernel, rfl, by decide +kernel, rfl, by decide +kernel⟩ rfl (pi_list (@pe_callB _ _ _ _ _ _ _ _ _ (call_sortedDT rfl hr.units) (by rfl) T.z_sorted PyProof.Rows.boot_sorted (@pa_cons _ _ _ _ _ (pv 5) pa_nil (by rfl)) (by decide) (by decide) (by rfl) (by rfl))) (fun _ _ _ _ => pif_nil) (fun _ _ _ _ => (@pe_tup _ _ _ _ _ (@pa_cons _ _ _ _ _ (pv 9) (@pa_cons _ _ _ _ _ (pe_dget (u1 hr.units) (pv 5) (pv 9) (fun _ _ => rfl)) pa_nil (by rfl)) (by rfl)))))))))))), ?_⟩
  refine ⟨_, rfl, p, ns, 0, rfl, hS, h63, by decide, by decide, fun c c0 c1 => ?_⟩
  refine ⟨c, 77, rfl, sz40 c0 c1, szd 64, fun z z0 z1 => ?_⟩
  and_intros
  refine ite2 (fun _ => ?_) (fun _ => ?_)
  · exact ⟨(by show 0 ≤ sizeLine; decide), fun l hl => q l [] _ (same_new hl _) upd_same (fun _ m => nomatch m) (by decide) (fun _ m => nomatch m)⟩
  intro d hd
  have s0 := same_new hd (.dT [])
  have e0 : (upd H d (.dT [])) d = some (.dT []) := upd_same
  generalize upd H d (.dT []) = H0 at s0 e0 ⊢
  have mm := fmod_in z (show (0 : Int) < 4 by decide)
  refine ⟨_, rfl, _, rfl, _, _, rfl, rfl, _, rfl, p, _, rfl, .inl (s0.seq hS), _, _, rfl, _, _, rfl, ?_⟩
  have hl' : (ns.map V.int).length = ns.length := List.length_map _
  have hM : 6 ≤ (if (if 63 < ((ns.map V.int).length : Int) then 63 else ((ns.map V.int).length : Int)) > 3 + 3 then (if 63 < ((ns.map V.int).length : Int) then 63 else ((ns.map V.int).length : Int)) else 3 + 3) ∧ (if (if 63 < ((ns.map V.int).length : Int) then 63 else ((ns.map V.int).length : Int)) > 3 + 3 then (if 63 < ((ns.map V.int).length : Int) then 63 else ((ns.map V.int).length : Int)) else 3 + 3) ≤ 63 := by
    split <;> split at * <;> omega
  refine ⟨3, _, rfl, ⟨by decide, by decide, by omega, by omega⟩, for_range (fun i σ' H' => ∃ (v6 v7 v8 : Option V) (kvs : List (List Key × V)), σ' = [some (.ref p), some (.int 3), some (.int h), some (.int z), some (.int (z.fmod 4)), some (.ref d), v6, v7, v8] ∧ Same H H' ∧ H' d = some (.dT kvs) ∧ GoodK h.toNat kvs ∧ kvs.length ≤ i ∧ LowK (1000000000 * (i : Int)) kvs) ⟨none, none, none, [], rfl, s0, e0, (fun _ m => nomatch m), Nat.le_refl _, (fun _ m => nomatch m)⟩ ?_ ?_⟩
  · rintro i σ' H' hi ⟨v6, v7, v8, kvs, rfl, s1, e1, g, hk, lw⟩
    refine ⟨_, rfl, _, rfl, p, ns, 3 + (i : Int), rfl, s1.seq hS, h63, by omega, by omega, fun c c0 c1 => ?_⟩
    have szc := sz40 c0 c1
    refine ⟨_, rfl, _, rfl, c, h, rfl, szc, h1, h12, fun t ts H2 s2 e2 f2 => ?_⟩
    have d2 := s2 _ _ e1
    have kt : H2 t = some (.tup ((ts.map Sum.inl : List Key).map kV)) := by rw [kv_map]; exact e2
    have put : ∀ (n : Int) (H3 : Hp), 0 ≤ n → n ≤ 1000000000 * ((i : Int) + 1) → Same H2 H3 → H3 d = some (.dT kvs) → H3 t = some (.tup ((ts.map Sum.inl : List Key).map kV)) → ∃ a H4, V.ref d = V.ref a ∧ DPut H3 a (.ref t) (.int n) H4 ∧ ∃ (w6 w7 w8 : Option V) (qs : List (List Key × V)), [some (V.ref p), some (.int 3), some (.int h), some (.int z), some (.int (z.fmod 4)), some (.ref d), some (.int (3 + (i : Int))), some (.int c), some (.ref t)] = [some (V.ref p), some (.int 3), some (.int h), some (.int z), some (.int (z.fmod 4)), some (.ref d), w6, w7, w8] ∧ Same H H4 ∧ H4 d = some (.dT qs) ∧ GoodK h.toNat qs ∧ qs.length ≤ i + 1 ∧ LowK (1000000000 * ((i + 1 : Nat) : Int)) qs := fun n H3 n0 n1 s3 d3 t3 =>
      ⟨d, _, rfl, DPut.t d3 t3 (small1000 (by omega)), _, _, _, _, rfl, same_upd ((s1.trans s2).trans s3) hd, upd_same, goodK_put g f2, Nat.le_trans (putK_len ..) (by omega), lw.put (by omega) n0 (by omega)⟩
    refine ⟨_, rfl, d, rfl, .inr ⟨_, .inl d2⟩, _, rfl, _, DGet.t d2 kt, ?_⟩
    cases ev : valV kvs (ts.map Sum.inl : List Key) with
    | none =>
      refine ⟨_, rfl, _, rfl, _, rfl, c, 3 + (i : Int), z.fmod 4, rfl, szc, by omega, by omega, mm.1, mm.2, fun n H3 s3 n0 n1 => ?_⟩
      refine ⟨_, _, rfl, rfl, _, rfl, _, rfl, ?_⟩
      exact put _ H3 (by omega) (by omega) s3 (s3 _ _ d2) (s3 _ _ kt)
    | some v =>
      obtain ⟨m, rfl⟩ := goodK_val g ev
      have lv := lw.val ev
      refine ⟨_, rfl, _, rfl, _, rfl, c, 3 + (i : Int), z.fmod 4, rfl, szc, by omega, by omega, mm.1, mm.2, fun n H3 s3 n0 n1 => ?_⟩
      refine ⟨_, _, rfl, rfl, _, rfl, _, rfl, ?_⟩
      exact put _ H3 (by omega) (by omega) s3 (s3 _ _ d2) (s3 _ _ kt)
  · rintro σ' H' ⟨v6, v7, v8, kvs, rfl, s1, e1, g, hk, lw⟩
    obtain ⟨ks, k1, k2, k3⟩ := goodK_keys g
    refine ⟨_, rfl, d, kvs, ks, rfl, .inl e1, k1, by omega, fun l rs r1 r2 r3 hl => ?_⟩
    have sl := same_new hl (.lst (rs.map fun q => V.ref q.1))
    have el : (upd H' l (.lst (rs.map fun q => V.ref q.1))) l = some (.lst (rs.map fun q => V.ref q.1)) := upd_same
    generalize upd H' l (.lst (rs.map fun q => V.ref q.1)) = H1 at sl el ⊢
    have rl : rs.length ≤ 60 := by
      have := r2.length_eq
      rw [List.length_map] at this
      omega
    refine ⟨l, rfl, ⟨_, SqL.of el⟩, ?_⟩
    refine comp_list (xs := rs.map fun q => V.ref q.1) (by rw [List.length_map]; exact small63 (by omega)) (fun D i ys H2 => ∃ ls : Ls, ys = vls ls ∧ ls.length = i ∧ H2 D = some (.lst ys) ∧ Same H1 H2 ∧ GoodL h.toNat H2 ls ∧ NumS ls) (fun D hD => ⟨[], rfl, rfl, upd_same, same_new hD _, (fun _ m => nomatch m), (fun _ m => nomatch m)⟩) (fun D i ys H2 ⟨ls, f1, f2, f3, _⟩ => ⟨f3, by rw [f1, vls_len]; omega⟩) (fun D i ys H2 hD ⟨ls, _, _, _, f4, _⟩ => SqL.of (f4 _ _ el)) ?_ ?_
    · rintro D i x ys H2 K1 K2 hD hx ⟨ls, rfl, f2, f3, f4, f5, f6⟩ kk1 kk2
      rw [List.getElem?_map] at hx
      cases er : rs[i]? with
      | none => rw [er] at hx; cases hx
      | some r =>
        rw [er] at hx
        cases Option.some.inj hx
        have rm := List.mem_of_getElem? er
        have sH := sl.trans f4
        have ek := sH _ _ (r1 r rm)
        obtain ⟨fr, n, ev⟩ := k3 r.2 (r2.mem_iff.mp (List.mem_map.mpr ⟨r, rm, rfl⟩))
        refine yes (ifT rfl ?_)
        have dg := DGet.t (k := (r.2.map Sum.inl : List Key)) (sH _ _ e1) (by rw [kv_map]; exact ek)
        rw [ev] at dg
        refine ⟨_, rfl, _, rfl, _, rfl, d, .int n, rfl, dg, (by show 2 ≤ sizeLine; decide), fun t ht => ?_⟩
        have s6 := same_new ht (.tup [V.ref r.1, V.int n])
        refine kk1 _ _ (s6 _ _ f3) ⟨ls ++ [(t, r.1, r.2, n)], by unfold vls; rw [List.map_append]; rfl, by rw [List.length_append, f2]; rfl, upd_same, same_upd (f4.trans s6) hD, fun q m => ?_, fun q m => by
          rcases List.mem_append.mp m with m | m
          · exact f6 q m
          · rw [List.mem_singleton.mp m]
            have := lw.val ev
            exact ⟨this.1, by show n ≤ _; omega⟩⟩
        have keep : ∀ b u, (upd H2 t (.tup [V.ref r.1, V.int n])) b = some (.tup u) → (upd (upd H2 t (.tup [V.ref r.1, V.int n])) D (.lst (vls ls ++ [V.ref t]))) b = some (.tup u) := fun b u e => by
          rw [upd_ne (ne_of e (s6 _ _ f3) (fun z => nomatch z))]
          exact e
        rcases List.mem_append.mp m with m | m
        · obtain ⟨a1, a2, a3⟩ := f5 q m
          exact ⟨keep _ _ (s6 _ _ a1), keep _ _ (s6 _ _ a2), a3⟩
        · rw [List.mem_singleton.mp m]
          exact ⟨keep _ _ upd_same, keep _ _ (s6 _ _ ek), fr⟩
    · rintro D ys H2 hD ⟨ls, rfl, f2, f3, f4, f5, f6⟩
      rw [List.length_map] at f2
      exact q D ls H2 ((s1.trans sl).trans f4) f3 f5 (by omega) f6
theorem ok_law_hurdle (T : Tx K mg ad) : FnOk P w K mg base CX0 3 ad.f_law_hurdle ad.d_law_hurdle ["_law_cell_here"] spHurdle62 := by
  refine T.F_law_hurdle.ok sc_law_hurdle (fun vs H Q E h => ?_) (fun cdv A outer s H vs Q E hr h => ?_)
  · obtain ⟨c, rfl, _⟩ := h
    rfl
  obtain ⟨c, rfl, szc, q⟩ := h
  refine ⟨_, (@pss_cons _ _ _ _ _ (@ps_set _ _ (1) _ _ _ _ sc_law_hurdle.nd rfl (Or.inl rfl) (@pe_call _ _ _ _ _ _ _ _ _ _ _ _ _ _ _ _ (ok_law_mixed T) (hr.mono (by decide)) rfl T.m_law_mixed T.F_law_mixed.kp T.b_law_mixed .nil pass0 (@pa_cons _ _ _ _ _ (pv 0) (@pa_cons _ _ _ _ _ pe_int pa_nil (by rfl)) (by rfl)) (by decide) (by rfl) (by rfl)) (by rfl) (by first | exact .inl rfl | exact .inr rfl | assumption)) (@pss_cons _ _ _ _ _ (@ps_if _ _ _ _ _ _ _ _ (@pt_cmpR _ _ _ _ _ _ _ _ op_eq (@pe_op _ _ _ _ _ _ _ _ op_modN (pv 1) pe_int) pe_int (nomark _)) (@pss_one _ _ _ (@ps_ret _ _ _ _ (@pe_tup _ _ _ _ _ (@pa_cons _ _ _ _ _ pe_int (@pa_cons _ _ _ _ _ pe_int pa_nil (by rfl)) (by rfl))))) pss_nil) (@pss_cons _ _ _ _ _ (@ps_set _ _ (2) _ _ _ _ sc_law_hurdle.nd rfl (Or.inl rfl) (@pe_ix _ _ _ _ _ _ _ ix_list (@pe_lst _ _ _ _ (@pa_cons _ _ _ _ _ (@pe_op _ _ _ _ _ _ _ _ op_add pe_int (@pe_op _ _ _ _ _ _ _ _ op_modN (@pe_op _ _ _ _ _ _ _ _ op_fdivB (pv 1) pe_int) pe_int)) (@pa_cons _ _ _ _ _ (@pe_op _ _ _ _ _ _ _ _ op_pow pe_int pe_int) (@pa_cons _ _ _ _ _ (@pe_op _ _ _ _ _ _ _ _ op_add pe_int (@pe_op _ _ _ _ _ _ _ _ op_modN (@pe_op _ _ _ _ _ _ _ _ op_fdivB (pv 1) pe_int) pe_int)) (@pa_cons _ _ _ _ _ pe_int pa_nil (by rfl)) (by rfl)) (by rfl)) (by rfl))) (@pe_op _ _ _ _ _ _ _ _ op_modN (@pe_op _ _ _ _ _ _ _ _ op_fdivB (pv 1) pe_int) pe_int) (fun _ _ => rfl)) (by rfl) (by first | exact .inl rfl | exact .inr rfl | assumption)) (@pss_one _ _ _ (@ps_ret _ _ _ _ (@pe_call _ _ _ _ _ _ _ _ _ _ _ _ _ _ _ _ (ok_law_lowest T) (hr.mono (by decide)) rfl T.m_law_lowest T.F_law_lowest.kp T.b_law_lowest .nil pass0 (@pa_cons _ _ _ _ _ (@pe_op _ _ _ _ _ _ _ _ op_modN (@pe_call _ _ _ _ _ _ _ _ _ _ _ _ _ _ _ _ (ok_law_mixed T) (hr.mono (by decide)) rfl T.m_law_mixed T.F_law_mixed.kp T.b_law_mixed .nil pass0 (@pa_cons _ _ _ _ _ (pv 0) (@pa_cons _ _ _ _ _ pe_int pa_nil (by rfl)) (by rfl)) (by decide) (by rfl) (by rfl)) (@pe_op _ _ _ _ _ _ _ _ op_add (pv 2) pe_int)) (@pa_cons _ _ _ _ _ (pv 2) pa_nil (by rfl)) (by rfl)) (by decide) (by rfl) (by rfl))))))), ?_⟩
  and_intros
  refine ⟨c, 8, rfl, szc, szd 64, fun z z0 z1 => ?_⟩
  have szz := sz18 z0 z1
  and_intros
  refine ite2 (fun _ => ?_) (fun _ => ?_)
  · and_intros
    refine ⟨(by show 2 ≤ sizeLine; decide), fun t ht => ?_⟩
    exact q t 0 1 _ (same_new ht _) upd_same (by decide) (by decide) (by decide) (by decide)
  and_intros
  refine ⟨(by show 4 ≤ sizeLine; decide), fun b hb => ?_⟩
  have m4 := fmod_in (z.fdiv 2) (show (0 : Int) < 4 by decide)
  have m30 := fmod_in (z.fdiv 8) (show (0 : Int) < 30 by decide)
  have m5 := fmod_in (z.fdiv 8) (show (0 : Int) < 5 by decide)
  have e9 : (10 : Int) ^ (9 : Int).toNat = 1000000000 := by decide
  obtain ⟨v, hv, v1, v9⟩ := pick4 (x0 := 1 + (z.fdiv 8).fmod 30) (x1 := 10 ^ (9 : Int).toNat) (x2 := 1 + (z.fdiv 8).fmod 5) (x3 := 100) (fun v => 1 ≤ v ∧ v ≤ 1000000000) ((z.fdiv 2).fmod 4) m4.1 m4.2 ⟨by omega, by omega⟩ ⟨by omega, by omega⟩ ⟨by omega, by omega⟩ ⟨by omega, by omega⟩
  and_intros
  refine ⟨b, _, _, _, rfl, rfl, SqL.of upd_same, hv, ?_⟩
  have s1 := same_new hb (.lst [V.int (1 + (z.fdiv 8).fmod 30), V.int (10 ^ (9 : Int).toNat), V.int (1 + (z.fdiv 8).fmod 5), V.int 100])
  generalize upd H b (.lst [V.int (1 + (z.fdiv 8).fmod 30), V.int (10 ^ (9 : Int).toNat), V.int (1 + (z.fdiv 8).fmod 5), V.int 100]) = H1 at s1 ⊢
  and_intros
  refine ⟨c, 9, rfl, szc, szd 64, fun y y0 y1 => ?_⟩
  and_intros
  refine ⟨(by show (_ : Int) ≠ 0; omega), ?_⟩
  have my := fmod_in y (show (0 : Int) < v + 1 by omega)
  and_intros
  have li := low_in my.1 (show y.fmod (v + 1) ≤ v by omega) (by omega)
  refine ⟨_, _, rfl, (by omega), (sz_of (n := 64) (by omega) (by omega)).mono (by decide), (sz_of (n := 64) (by omega) (by omega)).mono (by decide), fun p H2 s2 e2 => ?_⟩
  exact q p _ _ H2 (s1.trans s2) e2 li.1 li.2.1 (low_gcd (by omega)) (by omega)
theorem ok_law_spoilt (T : Tx K mg ad) : FnOk P w K mg base CX0 3 ad.f_law_spoilt ad.d_law_spoilt ["_law_paper", "_law_way_here", "_law_cell_here", "_law_hands"] spSpoilt68 := by
  refine T.F_law_spoilt.ok sc_law_spoilt (fun vs H Q E h => ?_) (fun cdv A outer s H vs Q E hr h => ?_)
  · obtain ⟨p, w, c, h, s, xs, ns, l, st, rfl, _⟩ := h
    rfl
  obtain ⟨p, w, c, h, s, xs, ns, l, st, rfl, pp, sn, w0, w16, c0, szc, q⟩ := h
  refine ⟨_, (@pss_cons _ _ _ _ _ (ps_asg (@pe_call _ _ _ _ _ _ _ _ _ _ _ _ _ _ _ _ (ok_law_copy T) (hr.mono (by decide)) rfl T.m_law_copy T.F_law_copy.kp T.b_law_copy .nil pass0 (@pa_cons _ _ _ _ _ (pv 0) pa_nil (by rfl)) (by decide) (by rfl) (by rfl)) (pg_tup rfl (pgs_cons (pg_name (i := 4) sc_law_spoilt.nd rfl (Or.inl rfl)) (pgs_cons (pg_name (i := 5) sc_law_spoilt.nd rfl (Or.inl rfl)) (pgs_cons (pg_name (i := 6) sc_law_spoilt.nd rfl (Or.inl rfl)) pgs_nil))))) (@pss_cons _ _ _ _ _ (@ps_set _ _ (7) _ _ _ _ sc_law_spoilt.nd rfl (Or.inl rfl) (@pe_op _ _ _ _ _ _ _ _ op_modN (pv 2) (@pe_op _ _ _ _ _ _ _ _ op_add (pv 3) pe_int)) (by rfl) (by first | exact .inl rfl | exact .inr rfl | assumption)) (@pss_cons _ _ _ _ _ (@ps_set _ _ (8) _ _ _ _ sc_law_spoilt.nd rfl (Or.inl rfl) (@pe_op _ _ _ _ _ _ _ _ op_modN (@pe_op _ _ _ _ _ _ _ _ op_fdivB (pv 2) pe_int) (@pe_op _ _ _ _ _ _ _ _ op_add (pv 3) pe_int)) (by rfl) (by first | exact .inl rfl | exact .inr rfl | assumption)) (@pss_cons _ _ _ _ _ (@ps_ifJ _ _ _ _ _ _ _ _ (@pt_cmpR _ _ _ _ _ _ _ _ op_eq (pv 1) pe_int (nomark _)) (@pss_one _ _ _ (ps_asg (@pe_op _ _ _ _ _ _ _ _ op_add (@pe_ix _ _ _ _ _ _ _ ix_list (pv 4) (pv 7) (fun _ _ => rfl)) pe_int) (pg_sub (pv 4) (pv 7) set_list))) pss_nil) (@pss_cons _ _ _ _ _ (@ps_ifJ _ _ _ _ _ _ _ _ (@pt_cmpR _ _ _ _ _ _ _ _ op_eq (pv 1) pe_int (nomark _)) (@pss_one _ _ _ (ps_asg (@pe_op _ _ _ _ _ _ _ _ op_sub (@pe_op _ _ _ _ _ _ _ _ op_sub (@pe_ix _ _ _ _ _ _ _ ix_list (pv 4) (pv 7) (fun _ _ => rfl)) pe_int) (@pe_op _ _ _ _ _ _ _ _ op_modN (@pe_op _ _ _ _ _ _ _ _ op_fdivB (pv 2) pe_int) pe_int)) (pg_sub (pv 4) (pv 7) set_list))) pss_nil) (@pss_cons _ _ _ _ _ (@ps_ifJ _ _ _ _ _ _ _ _ (@pt_cmpR _ _ _ _ _ _ _ _ op_eq (pv 1) pe_int (nomark _)) (@pss_one _ _ _ (ps_asg (@pe_tup _ _ _ _ _ (@pa_cons _ _ _ _ _ (@pe_ix _ _ _ _ _ _ _ ix_list (pv 4) (pv 8) (fun _ _ => rfl)) (@pa_cons _ _ _ _ _ (@pe_ix _ _ _ _ _ _ _ ix_list (pv 4) (pv 7) (fun _ _ => rfl)) pa_nil (by rfl)) (by rfl))) (pg_tup rfl (pgs_cons (pg_sub (pv 4) (pv 7) set_list) (pgs_cons (pg_sub (pv 4) (pv 8) set_list) pgs_nil))))) pss_nil) (@pss_cons _ _ _ _ _ (@ps_ifJ _ _ _ _ _ _ _ _ (@pt_cmpR _ _ _ _ _ _ _ _ op_eq (pv 1) pe_int (nomark _)) (@pss_one _ _ _ (@ps_expr _ _ _ _ (pe_bm PySem.F.plainAttrs_list PySem.F.slot_list_pop PySem.F.type_list_pop mt_popAt (pv 4) (@pa_cons _ _ _ _ _ (pv 7) pa_nil (by rfl))) (by rfl))) pss_nil) (@pss_cons _ _ _ _ _ (@ps_ifJ _ _ _ _ _ _ _ _ (@pt_cmpR _ _ _ _ _ _ _ _ op_eq (pv 1) pe_int (nomark _)) (@pss_one _ _ _ (@ps_set _ _ (5) _ _ _ _ sc_law_spoilt.nd rfl (Or.inl rfl) (@pe_op _ _ _ _ _ _ _ _ op_add (pv 5) (@pe_ix _ _ _ _ _ _ _ ix_list (@pe_lst _ _ _ _ (@pa_cons _ _ _ _ _ pe_int (@pa_cons _ _ _ _ _ (@pe_un _ _ _ _ _ _ un_neg pe_int) (@pa_cons _ _ _ _ _ (@pe_un _ _ _ _ _ _ un_neg (pv 5)) pa_nil (by rfl)) (by rfl)) (by rfl))) (@pe_op _ _ _ _ _ _ _ _ op_modN (pv 2) pe_int) (fun _ _ => rfl))) (by rfl) (by first | exact .inl rfl | exact .inr rfl | assumption))) pss_nil) (@pss_cons _ _ _ _ _ (@ps_ifJ _ _ _ _ _ _ _ _ (@pt_cmpR _ _ _ _ _ _ _ _ op_eq (pv 1) pe_int (nomark _)) (@pss_one _ _ _ (@ps_expr _ _ _ _ (pe_bm PySem.F.plainAttrs_list PySem.F.slot_list_append PySem.F.type_list_append mt_append (pv 4) (@pa_cons _ _ _ _ _ (@pe_op _ _ _ _ _ _ _ _ op_modN (pv 2) pe_int) pa_nil (by rfl))) (by rfl))) pss_nil) (@pss_cons _ _ _ _ _ (@ps_ifJ _ _ _ _ _ _ _ _ (PW.pt (@pw_and _ _ _ _ _ _ _ (@pt_cmpR _ _ _ _ _ _ _ _ op_gt (pv 1) pe_int (nomark _)) (@pw_and1 _ _ _ _ (@pt_cmpR _ _ _ _ _ _ _ _ op_ne (pv 1) pe_int (nomark _))))) (@pss_one _ _ _ (@ps_set _ _ (6) _ _ _ _ sc_law_spoilt.nd rfl (Or.inl rfl) (@pe_call _ _ _ _ _ _ _ _ _ _ _ _ _ _ _ _ (ok_law_rounds T) (hr.mono (by decide)) rfl T.m_law_rounds T.F_law_rounds.kp T.b_law_rounds .nil pass0 (@pa_cons _ _ _ _ _ (pv 6) (@pa_cons _ _ _ _ _ (pv 1) (@pa_cons _ _ _ _ _ (pv 2) (@pa_cons _ _ _ _ _ (pv 3) pa_nil (by rfl)) (by rfl)) (by rfl)) (by rfl)) (by decide) (by rfl) (by rfl)) (by rfl) (by first | exact .inl rfl | exact .inr rfl | assumption))) pss_nil) (@pss_one _ _ _ (@ps_ret _ _ _ _ (@pe_tup _ _ _ _ _ (@pa_cons _ _ _ _ _ (pv 4) (@pa_cons _ _ _ _ _ (pv 5) (@pa_cons _ _ _ _ _ (pv 6) pa_nil (by rfl)) (by rfl)) (by rfl))))))))))))))), ?_⟩
  have h1 := sn.h1
  have h12 := sn.h12
  have xl := sn.len
  and_intros
  refine ⟨p, xs, ns, l, st, h, s, rfl, pp, sn, fun t0 va ra rs H1 H2 s1 hva ev hra s2 et er gr r60 _ => ?_⟩
  refine ⟨t0, _, rfl, SqT.of et, rfl, _, _, rfl, _, _, rfl, _, _, rfl, rfl, ?_⟩
  have ma := fmod_in c (show (0 : Int) < (h : Int) + 1 by omega)
  have mb := fmod_in (c.fdiv 16) (show (0 : Int) < (h : Int) + 1 by omega)
  obtain ⟨i, hi⟩ : ∃ i : Nat, c.fmod ((h : Int) + 1) = (i : Int) := ⟨(c.fmod ((h : Int) + 1)).toNat, by omega⟩
  obtain ⟨j, hj⟩ : ∃ j : Nat, (c.fdiv 16).fmod ((h : Int) + 1) = (j : Int) := ⟨((c.fdiv 16).fmod ((h : Int) + 1)).toNat, by omega⟩
  and_intros
  refine ⟨(by show (_ : Int) ≠ 0; omega), ?_⟩
  dsimp only
  rw [hi]
  and_intros
  refine ⟨(by show (_ : Int) ≠ 0; omega), ?_⟩
  dsimp only
  rw [hj]
  have rva : ra ≠ va := fun e => by rw [e, ev] at hra; cases hra
  have vt : Vt H H2 va ra xs rs := ⟨s1.trans s2, s2 _ _ ev, er, fun q m => ⟨(gr q m).g, fun e => by have := (gr q m).f; rw [e, ev] at this; cases this⟩⟩
  refine ⟨fun σ' J => ∃ (vz : List Int) (y : Int), σ' = [some (.ref p), some (.int w), some (.int c), some (.int (h : Int)), some (.ref va), some (.int y), some (.ref ra), some (.int (i : Int)), some (.int (j : Int))] ∧ Vt H J va ra vz rs ∧ vz.length ≤ 14 ∧ (0 ≤ w → w ≤ 4 → vz.length = h + 1) ∧ (4 < w → w ≠ 12 → J = H2), ?_, ?_⟩
  · have e2 := vt.hv
    and_intros
    by_cases cw : w = 0
    · refine ifT (eq_t cw) ?_
      and_intros
      refine ⟨va, _, _, _, rfl, rfl, SqL.of e2, atG8 (by omega), ?_⟩
      and_intros
      refine ⟨va, _, _, i, rfl, rfl, e2, ixN_nat (by rw [List.length_map]; omega), ?_⟩
      dsimp only
      rw [int_set]
      exact ⟨xs.set i (xs.getD i 0 + 1), l, rfl, vt.put hva rva, (by rw [List.length_set]; omega), (fun _ _ => by rw [List.length_set]; exact xl), fun k => by omega⟩
    · refine ifF (eq_f cw) ?_
      exact ⟨xs, l, rfl, vt, by omega, (fun _ _ => xl), fun _ _ => rfl⟩
  clear vt
  rintro σ' J ⟨vz, y, rfl, vt, z14, zl, jh⟩
  refine ⟨fun σ' J => ∃ (vz : List Int) (y : Int), σ' = [some (.ref p), some (.int w), some (.int c), some (.int (h : Int)), some (.ref va), some (.int y), some (.ref ra), some (.int (i : Int)), some (.int (j : Int))] ∧ Vt H J va ra vz rs ∧ vz.length ≤ 14 ∧ (0 ≤ w → w ≤ 4 → vz.length = h + 1) ∧ (4 < w → w ≠ 12 → J = H2), ?_, ?_⟩
  · have e2 := vt.hv
    and_intros
    by_cases cw : w = 1
    · refine ifT (eq_t cw) ?_
      have zl' := zl (by omega) (by omega)
      and_intros
      refine ⟨va, _, _, _, rfl, rfl, SqL.of e2, atG8 (by omega), ?_⟩
      and_intros
      refine ⟨va, _, _, i, rfl, rfl, e2, ixN_nat (by rw [List.length_map]; omega), ?_⟩
      dsimp only
      rw [int_set]
      exact ⟨vz.set i (vz.getD i 0 - 1 - (c.fdiv 64).fmod 9), y, rfl, vt.put hva rva, (by rw [List.length_set]; omega), (fun _ _ => by rw [List.length_set]; exact zl'), fun k => by omega⟩
    · refine ifF (eq_f cw) ?_
      exact ⟨vz, y, rfl, vt, z14, zl, jh⟩
  clear vt z14 zl jh
  rintro σ' J ⟨vz, y, rfl, vt, z14, zl, jh⟩
  refine ⟨fun σ' J => ∃ (vz : List Int) (y : Int), σ' = [some (.ref p), some (.int w), some (.int c), some (.int (h : Int)), some (.ref va), some (.int y), some (.ref ra), some (.int (i : Int)), some (.int (j : Int))] ∧ Vt H J va ra vz rs ∧ vz.length ≤ 14 ∧ (0 ≤ w → w ≤ 4 → vz.length = h + 1) ∧ (4 < w → w ≠ 12 → J = H2), ?_, ?_⟩
  · have e2 := vt.hv
    and_intros
    by_cases cw : w = 2
    · refine ifT (eq_t cw) ?_
      have zl' := zl (by omega) (by omega)
      and_intros
      refine ⟨va, _, _, _, rfl, rfl, SqL.of e2, atG8 (by omega), ?_⟩
      and_intros
      refine ⟨va, _, _, _, rfl, rfl, SqL.of e2, atG8 (by omega), ?_⟩
      refine ⟨(by show 2 ≤ sizeLine; decide), fun t ht => ?_⟩
      have j1 := same_new ht (.tup [V.int (vz.getD j 0), V.int (vz.getD i 0)])
      have et' : (upd J t (.tup [V.int (vz.getD j 0), V.int (vz.getD i 0)])) t = some (.tup [V.int (vz.getD j 0), V.int (vz.getD i 0)]) := upd_same
      generalize upd J t (.tup [V.int (vz.getD j 0), V.int (vz.getD i 0)]) = J1 at j1 et' ⊢
      have e3 := j1 _ _ e2
      refine ⟨t, _, rfl, SqT.of et', rfl, _, _, rfl, ?_⟩
      and_intros
      refine ⟨va, _, _, i, rfl, rfl, e3, ixN_nat (by rw [List.length_map]; omega), ?_⟩
      rw [int_set]
      have vt1 := (vt.same j1).put (ws := vz.set i (vz.getD j 0)) hva rva
      generalize upd J1 va (.lst ((vz.set i (vz.getD j 0)).map V.int)) = J2 at vt1 ⊢
      have e4 := vt1.hv
      refine ⟨_, _, rfl, ?_⟩
      and_intros
      refine ⟨va, _, _, j, rfl, rfl, e4, ixN_nat (by rw [List.length_map, List.length_set]; omega), ?_⟩
      rw [int_set]
      refine ⟨rfl, ?_⟩
      exact ⟨(vz.set i (vz.getD j 0)).set j (vz.getD i 0), y, rfl, vt1.put hva rva, (by rw [List.length_set, List.length_set]; omega), (fun _ _ => by rw [List.length_set, List.length_set]; exact zl'), fun k => by omega⟩
    · refine ifF (eq_f cw) ?_
      exact ⟨vz, y, rfl, vt, z14, zl, jh⟩
  clear vt z14 zl jh
  rintro σ' J ⟨vz, y, rfl, vt, z14, zl, jh⟩
  refine ⟨fun σ' J => ∃ (vz : List Int) (y : Int), σ' = [some (.ref p), some (.int w), some (.int c), some (.int (h : Int)), some (.ref va), some (.int y), some (.ref ra), some (.int (i : Int)), some (.int (j : Int))] ∧ Vt H J va ra vz rs ∧ vz.length ≤ 14 ∧ (4 ≤ w → w ≤ 4 → vz.length = h + 1) ∧ (4 < w → w ≠ 12 → J = H2), ?_, ?_⟩
  · have e2 := vt.hv
    and_intros
    by_cases cw : w = 3
    · refine ifT (eq_t cw) ?_
      have zl' := zl (by omega) (by omega)
      and_intros
      refine ⟨.inl ⟨rfl, _, SqL.of e2⟩, ?_⟩
      and_intros
      refine ⟨va, _, _, i, _, rfl, rfl, e2, by omega, by omega, seqAt (by rw [List.length_map]; omega), List.getElem?_eq_getElem (by rw [List.length_map]; omega), ?_⟩
      rw [show (vz.map V.int).eraseIdx i = (vz.eraseIdx i).map V.int from map_erase ..]
      exact ⟨vz.eraseIdx i, y, rfl, vt.put hva rva, Nat.le_trans (by rw [List.length_eraseIdx]; split <;> omega) z14, (fun k => by omega), fun k => by omega⟩
    · refine ifF (eq_f cw) ?_
      exact ⟨vz, y, rfl, vt, z14, (fun k k2 => zl (by omega) k2), jh⟩
  clear vt z14 zl jh
  rintro σ' J ⟨vz, y, rfl, vt, z14, zl, jh⟩
  refine ⟨fun σ' J => ∃ (vz : List Int) (y : Int), σ' = [some (.ref p), some (.int w), some (.int c), some (.int (h : Int)), some (.ref va), some (.int y), some (.ref ra), some (.int (i : Int)), some (.int (j : Int))] ∧ Vt H J va ra vz rs ∧ vz.length ≤ 14 ∧ (4 ≤ w → w ≤ 4 → vz.length = h + 1) ∧ (4 < w → w ≠ 12 → J = H2), ?_, ?_⟩
  · have e2 := vt.hv
    and_intros
    by_cases cw : w = 4
    · refine ifT (eq_t cw) ?_
      have m3 := fmod_in c (show (0 : Int) < 3 by decide)
      obtain ⟨d, hd, _⟩ := pickM3 (x0 := 1) (x1 := -1) (x2 := -y) (fun _ => True) (c.fmod 3) m3.1 m3.2 trivial trivial trivial
      and_intros
      refine ⟨(by show 3 ≤ sizeLine; decide), fun b hb => ?_⟩
      dsimp only
      have j1 := same_new hb (.lst [V.int 1, V.int (-1), V.int (-y)])
      have eb : (upd J b (.lst [V.int 1, V.int (-1), V.int (-y)])) b = some (.lst [V.int 1, V.int (-1), V.int (-y)]) := upd_same
      generalize upd J b (.lst [V.int 1, V.int (-1), V.int (-y)]) = J1 at j1 eb ⊢
      and_intros
      refine ⟨b, _, _, _, rfl, rfl, SqL.of eb, hd, ?_⟩
      and_intros
      exact ⟨vz, y + d, rfl, vt.same j1, z14, zl, fun k => by omega⟩
    · refine ifF (eq_f cw) ?_
      exact ⟨vz, y, rfl, vt, z14, zl, jh⟩
  clear vt z14 zl jh
  rintro σ' J ⟨vz, y, rfl, vt, z14, zl, jh⟩
  refine ⟨fun σ' J => ∃ (vz : List Int) (y : Int), σ' = [some (.ref p), some (.int w), some (.int c), some (.int (h : Int)), some (.ref va), some (.int y), some (.ref ra), some (.int (i : Int)), some (.int (j : Int))] ∧ Vt H J va ra vz rs ∧ (4 < w → w ≠ 12 → J = H2), ?_, ?_⟩
  · have e2 := vt.hv
    and_intros
    by_cases cw : w = 12
    · refine ifT (eq_t cw) ?_
      and_intros
      refine ⟨.inl ⟨rfl, _, SqL.of e2⟩, ?_⟩
      and_intros
      refine ⟨va, _, _, rfl, rfl, e2, (by rw [List.length_map]; exact Nat.lt_of_le_of_lt z14 (by decide)), ?_⟩
      dsimp only
      rw [show vz.map V.int ++ [V.int (c.fmod 3)] = (vz ++ [c.fmod 3]).map V.int from by rw [List.map_append]; rfl]
      exact ⟨vz ++ [c.fmod 3], y, rfl, vt.put hva rva, fun _ k => absurd cw k⟩
    · refine ifF (eq_f cw) ?_
      exact ⟨vz, y, rfl, vt, jh⟩
  clear vt z14 zl jh
  rintro σ' J ⟨vz, y, rfl, vt, jh⟩
  refine ⟨fun σ' J => ∃ (ra' : Addr) (qs : List Rd), σ' = [some (.ref p), some (.int w), some (.int c), some (.int (h : Int)), some (.ref va), some (.int y), some (.ref ra'), some (.int (i : Int)), some (.int (j : Int))] ∧ Same H J ∧ J va = some (.lst (vz.map V.int)) ∧ J ra' = some (.lst (rv qs)) ∧ ∀ q ∈ qs, RdG J q, ?_, ?_⟩
  · and_intros
    by_cases c4 : 4 < w
    · refine ifT (decide_eq_true c4) ?_
      and_intros
      by_cases c12 : w = 12
      · refine ifF (ne_f c12) ?_
        exact ⟨ra, rs, rfl, vt.sm, vt.hv, vt.hr, fun q m => (vt.gd q m).1⟩
      · refine ifT (ne_t c12) ?_
        have je := jh c4 c12
        subst je
        and_intros
        refine ⟨ra, w, c, h, rs, H1, rfl, s2, hra, er, gr, r60, h1, h12, c0, szc, by omega, by omega, c12, fun r' qs J1 j1 er' gr' => ?_⟩
        exact ⟨r', qs, rfl, s1.trans j1, j1 _ _ (ev.trans ((s2 _ _ ev).symm.trans vt.hv)), er', gr'⟩
    · refine ifF (decide_eq_false c4) (ifF rfl ?_)
      exact ⟨ra, rs, rfl, vt.sm, vt.hv, vt.hr, fun q m => (vt.gd q m).1⟩
  rintro σ' J1 ⟨ra', qs, rfl, sJ, ev', er', gr'⟩
  and_intros
  refine ⟨(by show 3 ≤ sizeLine; decide), fun t ht => ?_⟩
  have s9 := same_new ht (.tup [V.ref va, V.int y, V.ref ra'])
  exact q t va ra' vz y qs _ (sJ.trans s9) upd_same (s9 _ _ ev') (s9 _ _ er') (fun q m => (gr' q m).same s9)
theorem ok_Way_init (T : Tx K mg ad) : FnOk P w K mg base CX0 3 ad.f_Way_init ad.d_Way_init ["self", "hands", "seats", "lots"] (spWayInit K) := by
  refine T.F_Way_init.ok sc_Way_init (fun vs H Q E h => ?_) (fun cdv A outer s H vs Q E hr h => ?_)
  · obtain ⟨a, C, dx, l, h, s, ns, rfl, _⟩ := h
    rfl
  obtain ⟨a, C, dx, l, h, s, ns, rfl, ha, cl, n1, n2, n3, h1, h12, s1, s60, hl, pm, q⟩ := h
  refine ⟨_, (@pss_cons _ _ _ _ _ (@ps_if _ _ _ _ _ _ _ _ (PW.pt (@pw_or _ _ _ _ _ _ _ (@pt_not _ _ _ _ (@pt_val _ _ _ (@pe_call _ _ _ _ _ _ _ _ _ _ _ _ _ _ _ _ (ok_are_hands T) (hr.mono (by decide)) rfl T.m_are_hands T.F_are_hands.kp T.b_are_hands .nil pass0 (@pa_cons _ _ _ _ _ (pv 1) pa_nil (by rfl)) (by decide) (by rfl) (by rfl)) (by intro _; rfl))) (@pw_or1 _ _ _ _ (@pt_not _ _ _ _ (@pt_val _ _ _ (@pe_call _ _ _ _ _ _ _ _ _ _ _ _ _ _ _ _ (ok_are_seats T) (hr.mono (by decide)) rfl T.m_are_seats T.F_are_seats.kp T.b_are_seats .nil pass0 (@pa_cons _ _ _ _ _ (pv 2) pa_nil (by rfl)) (by decide) (by rfl) (by rfl)) (by intro _; rfl)))))) (@pss_one _ _ _ ps_never) pss_nil) (@pss_cons _ _ _ _ _ (@ps_if _ _ _ _ _ _ _ _ (PW.pt (@pw_and _ _ _ _ _ _ _ (@pt_cmpR _ _ _ _ _ _ _ _ op_notN (pv 3) pe_non (nomark _)) (@pw_and1 _ _ _ _ (@pt_not _ _ _ _ (@pt_val _ _ _ (@pe_call _ _ _ _ _ _ _ _ _ _ _ _ _ _ _ _ (ok_are_lots T) (hr.mono (by decide)) rfl T.m_are_lots T.F_are_lots.kp T.b_are_lots .nil pass0 (@pa_cons _ _ _ _ _ (pv 3) (@pa_cons _ _ _ _ _ (pv 1) pa_nil (by rfl)) (by rfl)) (by decide) (by rfl) (by rfl)) (by intro _; rfl)))))) (@pss_one _ _ _ ps_never) pss_nil) (@pss_cons _ _ _ _ _ (ps_fld (pv 0) (pv 1) rfl) (@pss_cons _ _ _ _ _ (ps_fld (pv 0) (pv 2) rfl) (@pss_one _ _ _ (ps_fld (pv 0) (pe_ifExp (@pt_cmpR _ _ _ _ _ _ _ _ op_isN (pv 3) pe_non (nomark _)) (pe_listrange rfl (by rfl) T.z_list (by rfl) T.z_range (pv 1)) (@pe_callTy _ _ _ _ _ _ _ _ _ call_list_of (by rfl) T.z_list PyProof.Rows.boot_list (@pa_cons _ _ _ _ _ (pv 3) pa_nil (by rfl)) (by decide) (by decide) (by rfl) (by rfl))) rfl)))))), ?_⟩
  refine ⟨_, rfl, h, rfl, h1, h12, ?_⟩
  and_intros
  refine ⟨s1, s60, ?_⟩
  and_intros
  obtain ⟨n, rfl⟩ : ∃ n : Nat, h = (n : Int) := ⟨h.toNat, by omega⟩
  rw [Int.toNat_natCast] at pm
  and_intros
  refine ⟨l, ns, n, rfl, hl, pm, by omega, fun H1 e1 => ?_⟩
  and_intros
  have g1 := (off_le H a).trans e1
  refine ⟨a, C, dx, [], rfl, e1 _ _ ha, cl, n1, (by simp only [List.length_cons, List.length_nil]; decide), ?_⟩
  rw [put1]
  have g2 := off_put (o := .ins C dx [("hands", .int (n : Int))]) g1
  have a2 : (upd H1 a (.ins C dx [("hands", .int (n : Int))])) a = _ := upd_same
  generalize upd H1 a (.ins C dx [("hands", .int (n : Int))]) = H2 at g2 a2 ⊢
  and_intros
  refine ⟨a, C, dx, _, rfl, a2, cl, n2, (by simp only [List.length_cons, List.length_nil]; decide), ?_⟩
  rw [put2]
  have g3 := off_put (o := .ins C dx [("hands", .int (n : Int)), ("seats", .int s)]) g2
  have a3 : (upd H2 a (.ins C dx [("hands", .int (n : Int)), ("seats", .int s)])) a = _ := upd_same
  generalize upd H2 a (.ins C dx [("hands", .int (n : Int)), ("seats", .int s)]) = H3 at g3 a3 ⊢
  have la : l ≠ a := fun z => by rw [z, ha] at hl; cases hl
  have l3 := g3 _ _ (off_at hl la)
  and_intros
  intro b hb
  have ba : b ≠ a := fun z => by rw [z, a3] at hb; cases hb
  have hbH : H b = none := by
    cases e : H b with
    | none => rfl
    | some o =>
      have := g3 _ _ (off_at e ba)
      rw [hb] at this
      cases this
  have g4 := g3.trans (same_new hb (.lst (ns.map V.int)))
  have a4 := same_new hb (.lst (ns.map V.int)) _ _ a3
  have b4 : (upd H3 b (.lst (ns.map V.int))) b = some (.lst (ns.map V.int)) := upd_same
  generalize upd H3 b (.lst (ns.map V.int)) = H4 at g4 a4 b4 ⊢
  and_intros
  refine ⟨a, C, dx, _, rfl, a4, cl, n3, (by simp only [List.length_cons, List.length_nil]; decide), ?_⟩
  rw [put3]
  exact q b _ ba hbH (off_put g4) upd_same (by rw [upd_ne ba]; exact b4)
theorem ok_Lists_mark (T : Tx K mg ad) : FnOk P w K mg base CX0 3 ad.f_Lists_mark ad.d_Lists_mark ["self", "many", "had"] (spMark ad.c_Lists) := by
  refine T.F_Lists_mark.ok sc_Lists_mark (fun vs H Q E h => ?_) (fun cdv A outer s H vs Q E hr h => ?_)
  · obtain ⟨a, h, s, st, u, v, ns, n, k, rfl, _⟩ := h
    rfl
  obtain ⟨a, h, s, st, u, v, ns, n, k, rfl, kk, st1, st9, k0, sn, sk, q⟩ := h
  refine ⟨_, (@pss_one _ _ _ (@ps_ret _ _ _ _ (@pe_call _ _ _ _ _ _ _ _ _ _ _ _ _ _ _ _ (ok_fraction T) (hr.mono (by decide)) rfl T.m_fraction T.F_fraction.kp T.b_fraction .nil pass0 (@pa_cons _ _ _ _ _ (pv 1) (@pa_cons _ _ _ _ _ (@pe_op _ _ _ _ _ _ _ _ op_add pe_int (@pe_op _ _ _ _ _ _ _ _ op_mulB (pe_fld (pv 0) rfl) (pv 2))) pa_nil (by rfl)) (by rfl)) (by decide) (by rfl) (by rfl)))), ?_⟩
  obtain ⟨dx, l, t, k1, k2, k3⟩ := kk
  have szs : Sz 64 st := sz_of (by omega) (by omega)
  have pk : 0 ≤ st * k := Int.mul_nonneg (by omega) k0
  and_intros
  refine ⟨a, _, dx, _, _, rfl, k1, T.cl_Lists, T.na_Lists_step, rfl, ?_⟩
  and_intros
  exact ⟨n, 1 + st * k, rfl, by omega, sn.mono (by decide), ((szd 64).add (szs.mul sk)).mono (by decide), q⟩
theorem ok_law_way (T : Tx K mg ad) : FnOk P w K mg base CX0 4 ad.f_law_way ad.d_law_way ["_law_script", "_law_hands"] (spWay62 K) := by
  refine T.F_law_way.ok sc_law_way (fun vs H Q E h => ?_) (fun cdv A outer s H vs Q E hr h => ?_)
  · obtain ⟨p, xs, h, rfl, _⟩ := h
    rfl
  obtain ⟨p, xs, h, rfl, hS, h63, h1, h12, q⟩ := h
  refine ⟨_, (@pss_cons _ _ _ _ _ (@ps_set _ _ (2) _ _ _ _ sc_law_way.nd rfl (Or.inl rfl) (@pe_call _ _ _ _ _ _ _ _ _ _ _ _ _ _ _ _ (ok_law_mixed T) (hr.mono (by decide)) rfl T.m_law_mixed T.F_law_mixed.kp T.b_law_mixed .nil pass0 (@pa_cons _ _ _ _ _ (@pe_call _ _ _ _ _ _ _ _ _ _ _ _ _ _ _ _ (ok_law_cell T) (hr.mono (by decide)) rfl T.m_law_cell T.F_law_cell.kp T.b_law_cell .nil pass0 (@pa_cons _ _ _ _ _ (pv 0) (@pa_cons _ _ _ _ _ pe_int pa_nil (by rfl)) (by rfl)) (by decide) (by rfl) (by rfl)) (@pa_cons _ _ _ _ _ pe_int pa_nil (by rfl)) (by rfl)) (by decide) (by rfl) (by rfl)) (by rfl) (by first | exact .inl rfl | exact .inr rfl | assumption)) (@pss_cons _ _ _ _ _ (@ps_set _ _ (3) _ _ _ _ sc_law_way.nd rfl (Or.inl rfl) (@pe_ix _ _ _ _ _ _ _ ix_list (@pe_lst _ _ _ _ (@pa_cons _ _ _ _ _ (@pe_op _ _ _ _ _ _ _ _ op_add pe_int (@pe_op _ _ _ _ _ _ _ _ op_modN (pv 2) pe_int)) (@pa_cons _ _ _ _ _ (@pe_op _ _ _ _ _ _ _ _ op_add pe_int (@pe_op _ _ _ _ _ _ _ _ op_modN (pv 2) pe_int)) pa_nil (by rfl)) (by rfl))) (@pe_callTy _ _ _ _ _ _ _ _ _ call_int1 (by rfl) T.z_int PyProof.Rows.boot_int (@pa_cons _ _ _ _ _ (@pe_cmpR _ _ _ _ _ _ _ _ op_eq (@pe_op _ _ _ _ _ _ _ _ op_modN (@pe_op _ _ _ _ _ _ _ _ op_fdivB (pv 2) pe_int) pe_int) pe_int (nomark _)) pa_nil (by rfl)) (by decide) (by decide) (by rfl) (by rfl)) (fun _ _ => rfl)) (by rfl) (by first | exact .inl rfl | exact .inr rfl | assumption)) (@pss_cons _ _ _ _ _ (@ps_set _ _ (4) _ _ _ _ sc_law_way.nd rfl (Or.inl rfl) (@pe_ix _ _ _ _ _ _ _ ix_list (@pe_lst _ _ _ _ (@pa_cons _ _ _ _ _ pe_int (@pa_cons _ _ _ _ _ pe_int (@pa_cons _ _ _ _ _ (@pe_op _ _ _ _ _ _ _ _ op_add pe_int (@pe_op _ _ _ _ _ _ _ _ op_modN (@pe_op _ _ _ _ _ _ _ _ op_fdivB (pv 2) pe_int) pe_int)) pa_nil (by rfl)) (by rfl)) (by rfl))) (@pe_op _ _ _ _ _ _ _ _ op_modN (@pe_op _ _ _ _ _ _ _ _ op_fdivB (pv 2) pe_int) pe_int) (fun _ _ => rfl)) (by rfl) (by first | exact .inl rfl | exact .inr rfl | assumption)) (@pss_one _ _ _ (@ps_ret _ _ _ _ (@pe_tup _ _ _ _ _ (@pa_cons _ _ _ _ _ (pv 3) (@pa_cons _ _ _ _ _ (@pe_call _ _ _ _ _ _ _ _ _ _ _ _ _ _ _ _ (ok_law_lots T) (hr.mono (by decide)) rfl T.m_law_lots T.F_law_lots.kp T.b_law_lots .nil pass0 (@pa_cons _ _ _ _ _ (@pe_call _ _ _ _ _ _ _ _ _ _ _ _ _ _ _ _ (ok_law_cell T) (hr.mono (by decide)) rfl T.m_law_cell T.F_law_cell.kp T.b_law_cell .nil pass0 (@pa_cons _ _ _ _ _ (pv 0) (@pa_cons _ _ _ _ _ pe_int pa_nil (by rfl)) (by rfl)) (by decide) (by rfl) (by rfl)) (@pa_cons _ _ _ _ _ (pv 1) pa_nil (by rfl)) (by rfl)) (by decide) (by rfl) (by rfl)) (@pa_cons _ _ _ _ _ (@pe_call _ _ _ _ _ _ _ _ _ _ _ _ _ _ _ _ (ok_law_hurdle T) (hr.mono (by decide)) rfl T.m_law_hurdle T.F_law_hurdle.kp T.b_law_hurdle .nil pass0 (@pa_cons _ _ _ _ _ (@pe_call _ _ _ _ _ _ _ _ _ _ _ _ _ _ _ _ (ok_law_cell T) (hr.mono (by decide)) rfl T.m_law_cell T.F_law_cell.kp T.b_law_cell .nil pass0 (@pa_cons _ _ _ _ _ (pv 0) (@pa_cons _ _ _ _ _ pe_int pa_nil (by rfl)) (by rfl)) (by decide) (by rfl) (by rfl)) pa_nil (by rfl)) (by decide) (by rfl) (by rfl)) (@pa_cons _ _ _ _ _ (pv 4) pa_nil (by rfl)) (by rfl)) (by rfl)) (by rfl)))))))), ?_⟩
  refine ⟨_, rfl, p, xs, 1, rfl, hS, h63, by decide, by decide, fun c c0 c1 => ?_⟩
  refine ⟨c, 3, rfl, sz40 c0 c1, szd 64, fun z z0 z1 => ?_⟩
  have szz := sz18 z0 z1
  have m7 := fmod_in z (show (0 : Int) < 7 by decide)
  have m60 := fmod_in z (show (0 : Int) < 24 by decide)
  have m9 := fmod_in (z.fdiv 360) (show (0 : Int) < 9 by decide)
  have m3 := fmod_in (z.fdiv 3600) (show (0 : Int) < 3 by decide)
  and_intros
  refine ⟨(by show 2 ≤ sizeLine; decide), fun b hb => ?_⟩
  have s1 := same_new hb (.lst [V.int (1 + z.fmod 7), V.int (1 + z.fmod 24)])
  have e1 : (upd H b (.lst [V.int (1 + z.fmod 7), V.int (1 + z.fmod 24)])) b = some (.lst [V.int (1 + z.fmod 7), V.int (1 + z.fmod 24)]) := upd_same
  generalize upd H b (.lst [V.int (1 + z.fmod 7), V.int (1 + z.fmod 24)]) = H1 at s1 e1 ⊢
  and_intros
  obtain ⟨s', hs, q1, q60⟩ := pickTwo (x0 := 1 + z.fmod 7) (x1 := 1 + z.fmod 24) (fun s => 1 ≤ s ∧ s ≤ 24) (decide (V.int ((z.fdiv 60).fmod 6) = V.int 1)) ⟨by omega, by omega⟩ ⟨by omega, by omega⟩
  refine .inr ⟨_, rfl, b, _, _, _, rfl, rfl, SqL.of e1, hs, ?_⟩
  and_intros
  refine ⟨(by show 3 ≤ sizeLine; decide), fun b2 hb2 => ?_⟩
  have s2 := same_new hb2 (.lst [V.int 1, V.int 2, V.int (1 + (z.fdiv 360).fmod 9)])
  have e2 : (upd H1 b2 (.lst [V.int 1, V.int 2, V.int (1 + (z.fdiv 360).fmod 9)])) b2 = some (.lst [V.int 1, V.int 2, V.int (1 + (z.fdiv 360).fmod 9)]) := upd_same
  generalize upd H1 b2 (.lst [V.int 1, V.int 2, V.int (1 + (z.fdiv 360).fmod 9)]) = H2 at s2 e2 ⊢
  obtain ⟨st, hst, st1, st9⟩ := pickM3 (x0 := 1) (x1 := 2) (x2 := 1 + (z.fdiv 360).fmod 9) (fun s => 1 ≤ s ∧ s ≤ 9) ((z.fdiv 3600).fmod 3) m3.1 m3.2 ⟨by decide, by decide⟩ ⟨by decide, by decide⟩ ⟨by omega, by omega⟩
  and_intros
  refine ⟨b2, _, _, _, rfl, rfl, SqL.of e2, hst, ?_⟩
  have s12 := s1.trans s2
  and_intros
  refine ⟨p, xs, 2, rfl, s12.seq hS, h63, by decide, by decide, fun d d0 d1 => ?_⟩
  and_intros
  refine ⟨d, h, rfl, sz40 d0 d1, h1, h12, fun l ns H3 s3 e3 pm => ?_⟩
  and_intros
  refine ⟨p, xs, 2, rfl, (s12.trans s3).seq hS, h63, by decide, by decide, fun d' d0' d1' => ?_⟩
  refine ⟨d', rfl, sz40 d0' d1', fun t u v H4 s4 e4 u0 uv g v9 => ?_⟩
  and_intros
  refine ⟨(by show 4 ≤ sizeLine; decide), fun r hr0 => ?_⟩
  have s5 := same_new hr0 (.tup [V.int s', V.ref l, V.ref t, V.int st])
  exact q r s' st u v ns _ (((s12.trans s3).trans s4).trans s5) ⟨l, t, upd_same, (s4.trans s5) _ _ e3, s5 _ _ e4⟩ q1 q60 st1 st9 u0 uv g v9 pm
theorem ok_Lists_init (T : Tx K mg ad) : FnOk P w K mg base CX0 4 ad.f_Lists_init ad.d_Lists_init ["self", "hands", "seats", "lots", "hurdle", "step"] (spListsInit K) := by
  refine T.F_Lists_init.ok sc_Lists_init (fun vs H Q E h => ?_) (fun cdv A outer s H vs Q E hr h => ?_)
  · obtain ⟨a, C, dx, l, t, h, s, u, v, st, ns, rfl, _⟩ := h
    rfl
  obtain ⟨a, C, dx, l, t, h, s, u, v, st, ns, rfl, ha, cl, n1, n2, n3, n4, n5, h1, h12, s1, s60, hl, pm, ht, u0, uv, g, st1, st9, q⟩ := h
  refine ⟨_, (@pss_cons _ _ _ _ _ (@ps_expr _ _ _ _ (pe_cfn (ok_Way_init T) (hr.mono (by decide)) rfl T.m_Way T.cf_Way_init__ T.F_Way_init.kp T.b_Way_init .nil pass0 (@pa_cons _ _ _ _ _ (pv 0) (@pa_cons _ _ _ _ _ (pv 1) (@pa_cons _ _ _ _ _ (pv 2) (@pa_cons _ _ _ _ _ (pv 3) pa_nil (by rfl)) (by rfl)) (by rfl)) (by rfl))) (by rfl)) (@pss_cons _ _ _ _ _ (@ps_if _ _ _ _ _ _ _ _ (PW.pt (@pw_and _ _ _ _ _ _ _ (@pt_cmpR _ _ _ _ _ _ _ _ op_notN (pv 4) pe_non (nomark _)) (@pw_and1 _ _ _ _ (@pt_not _ _ _ _ (@pt_val _ _ _ (@pe_call _ _ _ _ _ _ _ _ _ _ _ _ _ _ _ _ (ok_is_hurdle T) (hr.mono (by decide)) rfl T.m_is_hurdle T.F_is_hurdle.kp T.b_is_hurdle .nil pass0 (@pa_cons _ _ _ _ _ (pv 4) pa_nil (by rfl)) (by decide) (by rfl) (by rfl)) (by intro _; rfl)))))) (@pss_one _ _ _ ps_never) pss_nil) (@pss_cons _ _ _ _ _ (@ps_if _ _ _ _ _ _ _ _ (@pt_not _ _ _ _ (@pt_val _ _ _ (@pe_call _ _ _ _ _ _ _ _ _ _ _ _ _ _ _ _ (ok_is_step T) (hr.mono (by decide)) rfl T.m_is_step T.F_is_step.kp T.b_is_step .nil pass0 (@pa_cons _ _ _ _ _ (pv 5) pa_nil (by rfl)) (by decide) (by rfl) (by rfl)) (by intro _; rfl))) (@pss_one _ _ _ ps_never) pss_nil) (@pss_cons _ _ _ _ _ (ps_fld (pv 0) (pe_ifExp (@pt_cmpR _ _ _ _ _ _ _ _ op_isN (pv 4) pe_non (nomark _)) (@pe_tup _ _ _ _ _ (@pa_cons _ _ _ _ _ pe_int (@pa_cons _ _ _ _ _ pe_int pa_nil (by rfl)) (by rfl))) (pv 4)) rfl) (@pss_one _ _ _ (ps_fld (pv 0) (pv 5) rfl)))))), ?_⟩
  and_intros
  refine ⟨a, C, dx, l, h, s, ns, rfl, ha, cl, n1, n2, n3, h1, h12, s1, s60, hl, pm, fun l' H1 la hl' g1 a1 l1 => ?_⟩
  have ta : t ≠ a := fun z => by rw [z, ha] at ht; cases ht
  have t1 := g1 _ _ (off_at ht ta)
  and_intros
  refine ⟨t, u, v, rfl, t1, u0, uv, g, ?_⟩
  and_intros
  refine ⟨st1, st9, ?_⟩
  and_intros
  refine ⟨a, C, dx, _, rfl, a1, cl, n4, (by simp only [List.length_cons, List.length_nil]; decide), ?_⟩
  rw [put4]
  have g2 := off_put (o := .ins C dx [("hands", .int h), ("seats", .int s), ("lots", .ref l'), ("hurdle", .ref t)]) g1
  have a2 : (upd H1 a (.ins C dx [("hands", .int h), ("seats", .int s), ("lots", .ref l'), ("hurdle", .ref t)])) a = _ := upd_same
  have l2 : (upd H1 a (.ins C dx [("hands", .int h), ("seats", .int s), ("lots", .ref l'), ("hurdle", .ref t)])) l' = some (.lst (ns.map V.int)) := by rw [upd_ne la]; exact l1
  generalize upd H1 a (.ins C dx [("hands", .int h), ("seats", .int s), ("lots", .ref l'), ("hurdle", .ref t)]) = H2 at g2 a2 l2 ⊢
  and_intros
  refine ⟨a, C, dx, _, rfl, a2, cl, n5, (by simp only [List.length_cons, List.length_nil]; decide), ?_⟩
  rw [put5]
  exact q l' _ (off_put g2) upd_same (by rw [upd_ne la]; exact l2)
theorem ok_Lists_mark_or_none (T : Tx K mg ad) : FnOk P w K mg base CX0 4 ad.f_Lists_mark_or_none ad.d_Lists_mark_or_none ["self", "many", "least", "had"] (spMON ad.c_Lists) := by
  refine T.F_Lists_mark_or_none.ok sc_Lists_mark_or_none (fun vs H Q E h => ?_) (fun cdv A outer s H vs Q E hr h => ?_)
  · obtain ⟨a, h, s, st, u, v, ns, n, l, k, rfl, _⟩ := h
    rfl
  obtain ⟨a, h, s, st, u, v, ns, n, l, k, rfl, il, st1, st9, k0, sn, sk, q1, q2⟩ := h
  refine ⟨_, (@pss_one _ _ _ (@ps_ret _ _ _ _ (pe_ifExp (@pt_cmpR _ _ _ _ _ _ _ _ op_ge (pv 1) (pv 2) (nomark _)) (pe_meth (pv 0) T.cl_Lists T.me_Lists_mark (ok_Lists_mark T) (hr.mono (by decide)) T.b_Lists_mark .nil pass0 (@pa_cons _ _ _ _ _ (pv 1) (@pa_cons _ _ _ _ _ (pv 3) pa_nil (by rfl)) (by rfl))) pe_non))), ?_⟩
  obtain ⟨dx, la, t, k1, k2, k3⟩ := id il
  and_intros
  by_cases c : l ≤ n
  · refine ifT (decide_eq_true c) ?_
    refine ⟨_, rfl, a, dx, _, rfl, k1, rfl, ?_⟩
    and_intros
    exact ⟨a, h, s, st, u, v, ns, n, k, rfl, il, st1, st9, k0, sn, sk, q2 c⟩
  · refine ifF (decide_eq_false c) ?_
    exact q1 (by omega)
theorem ok_Lists_marks_of (T : Tx K mg ad) : FnOk P w K mg base CX0 5 ad.f_Lists_marks_of ad.d_Lists_marks_of ["self", "votes", "least", "had"] (spMarksOf ad.c_Lists) := by
  refine T.F_Lists_marks_of.ok sc_Lists_marks_of (fun vs H Q E h => ?_) (fun cdv A outer s H vs Q E hr h => ?_)
  · obtain ⟨a, b, d, h, s, st, u, v, ns, xs, had, l, rfl, _⟩ := h
    rfl
  obtain ⟨a, b, d, h, s, st, u, v, ns, xs, had, l, rfl, il, sn, hb, hd, hl, hp, q⟩ := h
  refine ⟨_, (@pss_one _ _ _ (@ps_ret _ _ _ _ (pe_comp (fsc := defScope s_Lists_marks_of) (N := ["self", "votes", "least", "had"]) (Nc := ["self", "votes", "least", "had", "hand"]) rfl rfl ⟨rfl, by decide +kernel, by decide +kernel, rfl, by decide +kernel, rfl, by decide +kernel, rfl, by decide +kernel⟩ rfl (pi_range1 rfl T.z_range (@pa_cons _ _ _ _ _ (pe_fld (pv 0) rfl) pa_nil (by rfl))) (fun _ _ _ _ => pif_nil) (fun _ _ _ _ => (pe_meth (pv 0) T.cl_Lists T.me_Lists_mark_or_none (ok_Lists_mark_or_none T) (hr.mono (by decide)) T.b_Lists_mark_or_none .nil pass0 (@pa_cons _ _ _ _ _ (@pe_ix _ _ _ _ _ _ _ (ix_listK K) (pv 1) (pv 4) (fun _ _ => rfl)) (@pa_cons _ _ _ _ _ (pv 2) (@pa_cons _ _ _ _ _ (@pe_ix _ _ _ _ _ _ _ (ix_listK K) (pv 3) (pv 4) (fun _ _ => rfl)) pa_nil (by rfl)) (by rfl)) (by rfl))))))), ?_⟩
  obtain ⟨dx, la, t, k1, k2, k3⟩ := id il
  have h12 := sn.h12
  have xl := sn.len
  refine ⟨_, rfl, a, _, dx, _, _, rfl, k1, T.cl_Lists, T.na_Lists_hands, rfl, ?_⟩
  and_intros
  refine ⟨by omega, by omega, ?_⟩
  refine comp_range (small63 (by omega)) (fun D i ys H' => ys.length = i ∧ H' D = some (.lst ys) ∧ Same H H' ∧ ∀ j < i, MarkAt H' ys xs had l st j) (fun D hD => ⟨rfl, upd_same, same_new hD _, (fun j z => by omega)⟩) (fun D i ys H' ⟨f1, f2, _⟩ => ⟨f2, by omega⟩) ?_ ?_
  · rintro D i ys H' K1 K2 hD hi ⟨f1, f2, f3, f4⟩ k1' k2'
    have hi' : i < h := by omega
    have av : atI (xs.map V.int) (0 + (i : Int)) = some (.int (xs.getD i 0)) := by
      rw [Int.zero_add]
      refine atN ?_
      rw [List.getD_eq_getElem?_getD, List.getElem?_eq_getElem (by omega)]
      rfl
    have ah : atI (had.map V.int) (0 + (i : Int)) = some (.int (had.getD i 0)) := by
      rw [Int.zero_add]
      refine atN ?_
      rw [List.getD_eq_getElem?_getD, List.getElem?_eq_getElem (by omega)]
      rfl
    have bg := sn.big i
    have hb0 := hp i
    refine yes (ifT rfl ?_)
    refine ⟨_, rfl, a, dx, _, rfl, f3 _ _ k1, rfl, ?_⟩
    refine ⟨_, rfl, _, rfl, b, _, _, _, rfl, rfl, SqL.of (f3 _ _ hb), av, _, rfl, _, rfl, _, rfl, d, _, _, _, rfl, rfl, SqL.of (f3 _ _ hd), ah, ?_⟩
    have last : ∀ y : V, (ys ++ [y])[i]? = some y := fun y => by rw [List.getElem?_append_right (by omega), f1, Nat.sub_self]; rfl
    refine ⟨a, h, s, st, u, v, ns, _, l, _, rfl, il.same f3, sn.st1, sn.st9, hb0.1, sz_of (by omega) (by omega), sz_of (by omega) (by omega), fun lt => ?_, fun le p H2 s2 e2 => ?_⟩
    · have keep : ∀ p zs, H' p = some (.tup zs) → (upd H' D (.lst (ys ++ [.non]))) p = some (.tup zs) := fun p zs e => by
        rw [upd_ne (ne_of e f2 (fun z => nomatch z))]
        exact e
      refine k1' _ _ f2 ⟨by rw [List.length_append, f1]; rfl, upd_same, same_upd f3 hD, fun j hj => ?_⟩
      rcases (by omega : j < i ∨ j = i) with z | z
      · exact (f4 j z).push keep (by omega)
      · rw [z]; exact .inl ⟨lt, last _⟩
    · have f2' := s2 _ _ f2
      have keep : ∀ q zs, H2 q = some (.tup zs) → (upd H2 D (.lst (ys ++ [.ref p]))) q = some (.tup zs) := fun q zs e => by
        rw [upd_ne (ne_of e f2' (fun z => nomatch z))]
        exact e
      refine k1' _ _ f2' ⟨by rw [List.length_append, f1]; rfl, upd_same, same_upd (f3.trans s2) hD, fun j hj => ?_⟩
      rcases (by omega : j < i ∨ j = i) with z | z
      · exact (f4 j z).push (fun q zs e => keep _ _ (s2 _ _ e)) (by omega)
      · rw [z]; exact .inr ⟨le, p, last _, keep _ _ e2⟩
  rintro D ys H' hD ⟨f1, f2, f3, f4⟩
  exact q D H' hD f3 ⟨ys, f2, by omega, fun j hj => f4 j (by omega)⟩
theorem ok_Lists_rounds_of (T : Tx K mg ad) : FnOk P w K mg base CX0 6 ad.f_Lists_rounds_of ad.d_Lists_rounds_of ["self", "votes", "least"] (spRounds ad.c_Lists) := by
  refine T.F_Lists_rounds_of.ok sc_Lists_rounds_of (fun vs H Q E h => ?_) (fun cdv A outer s H vs Q E hr h => ?_)
  · obtain ⟨a, b, h, s, st, u, v, ns, xs, l, rfl, _⟩ := h
    rfl
  obtain ⟨a, b, h, s, st, u, v, ns, xs, l, rfl, il, sn, hb, ne, q⟩ := h
  refine ⟨_, (@pss_cons _ _ _ _ _ (@ps_set _ _ (3) _ _ _ _ sc_Lists_rounds_of.nd rfl (Or.inl rfl) (@pe_lst _ _ _ _ pa_nil) (by rfl) (by first | exact .inl rfl | exact .inr rfl | assumption)) (@pss_cons _ _ _ _ _ (ps_setC (j := 4) (fsc := defScope s_Lists_rounds_of) (N := ["self", "votes", "least", "rounds", "had", "marks", "hand"]) (Nc := ["self", "votes", "least", "rounds", "had", "marks", ".s6", "hand"]) rfl rfl ⟨rfl, by decide +kernel, by decide +kernel, rfl, by decide +kernel, rfl, by decide +kernel, rfl, by decide +kernel⟩ rfl sc_Lists_rounds_of.nd rfl rfl (pi_range1 rfl T.z_range (@pa_cons _ _ _ _ _ (pe_fld (pv 0) rfl) pa_nil (by rfl))) (fun _ _ _ _ => pif_nil) (fun _ _ _ _ => pe_int) rfl) (@pss_cons _ _ _ _ _ (ps_while PassesOwn.never (@pt_cmpR _ _ _ _ _ _ _ _ op_lt (@pe_callB _ _ _ _ _ _ _ _ _ call_len_seq (by rfl) T.z_len PySem.boot_len (@pa_cons _ _ _ _ _ (pv 3) pa_nil (by rfl)) (by decide) (by decide) (by rfl) (by rfl)) (pe_fld (pv 0) rfl) (nomark _)) (@pss_cons _ _ _ _ _ (@ps_set _ _ (5) _ _ _ _ sc_Lists_rounds_of.nd rfl (Or.inl rfl) (pe_meth (pv 0) T.cl_Lists T.me_Lists_marks_of (ok_Lists_marks_of T) (hr.mono (by decide)) T.b_Lists_marks_of .nil pass0 (@pa_cons _ _ _ _ _ (pv 1) (@pa_cons _ _ _ _ _ (pv 2) (@pa_cons _ _ _ _ _ (pv 4) pa_nil (by rfl)) (by rfl)) (by rfl))) (by rfl) (by first | exact .inl rfl | exact .inr rfl | assumption)) (@pss_cons _ _ _ _ _ (@ps_set _ _ (6) _ _ _ _ sc_Lists_rounds_of.nd rfl (Or.inl rfl) (pe_meth (pv 0) T.cl_Lists T.me_Lists_greatest_mark (ok_Lists_greatest_mark T) (hr.mono (by decide)) T.b_Lists_greatest_mark .nil pass0 (@pa_cons _ _ _ _ _ (pv 5) pa_nil (by rfl))) (by rfl) (by first | exact .inl rfl | exact .inr rfl | assumption)) (@pss_cons _ _ _ _ _ (@ps_expr _ _ _ _ (pe_bm PySem.F.plainAttrs_list PySem.F.slot_list_append PySem.F.type_list_append mt_append (pv 3) (@pa_cons _ _ _ _ _ (@pe_tup _ _ _ _ _ (@pa_cons _ _ _ _ _ (pv 5) (@pa_cons _ _ _ _ _ (pv 6) pa_nil (by rfl)) (by rfl))) pa_nil (by rfl))) (by rfl)) (@pss_one _ _ _ (ps_asg (@pe_op _ _ _ _ _ _ _ _ op_add (@pe_ix _ _ _ _ _ _ _ ix_list (pv 4) (pv 6) (fun _ _ => rfl)) pe_int) (pg_sub (pv 4) (pv 6) set_list))))))) (@pss_one _ _ _ (@ps_ret _ _ _ _ (pv 3)))))), ?_⟩
  obtain ⟨dx, la, t, k1, k2, k3⟩ := id il
  have h12 := sn.h12
  have s60 := sn.s60
  refine ⟨(by show 0 ≤ sizeLine; decide), fun r hr0 => ?_⟩
  have s1 := same_new hr0 (.lst [])
  have e1 : (upd H r (.lst [])) r = some (.lst []) := upd_same
  generalize upd H r (.lst []) = H1 at s1 e1 ⊢
  refine ⟨_, rfl, a, _, dx, _, _, rfl, s1 _ _ k1, T.cl_Lists, T.na_Lists_hands, rfl, ?_⟩
  and_intros
  refine ⟨by omega, by omega, ?_⟩
  refine comp_range (small63 (by omega)) (fun D i ys H' => ys = (List.replicate i (0 : Int)).map V.int ∧ H' = upd H1 D (.lst ys)) (fun D hD => ⟨rfl, rfl⟩) (fun D i ys H' ⟨f1, f2⟩ => ⟨by rw [f2]; exact upd_same, by rw [f1, List.length_map, List.length_replicate]; exact Nat.le_refl _⟩) ?_ ?_
  · rintro D i ys H' K1 K2 hD hi ⟨f1, rfl⟩ c1 c2
    refine yes (ifT rfl ?_)
    refine c1 _ _ upd_same ⟨?_, by rw [upd_upd]⟩
    rw [f1, List.replicate_succ', List.map_append]
    rfl
  rintro d ys H2 hd ⟨rfl, rfl⟩
  rw [Int.toNat_natCast]
  have rd : r ≠ d := fun z => by rw [← z, e1] at hd; cases hd
  have s2 := s1.trans (same_new hd (.lst ((List.replicate h (0 : Int)).map V.int)))
  have e2 : (upd H1 d (.lst ((List.replicate h (0 : Int)).map V.int))) r = some (.lst []) := by rw [upd_ne rd]; exact e1
  have d2 : (upd H1 d (.lst ((List.replicate h (0 : Int)).map V.int))) d = some (.lst ((hadAt xs ns l st h 0).map V.int)) := upd_same
  generalize upd H1 d (.lst ((List.replicate h (0 : Int)).map V.int)) = H2 at s2 e2 d2 ⊢
  have hdH : H d = none := none_of s1 hd
  refine ⟨fun n σ' H' => ∃ k : Nat, n + k = s ∧ ∃ (v5 v6 : Option V) (ms : List (Addr × Addr)), σ' = [some (.ref a), some (.ref b), some (.int l), some (.ref r), some (.ref d), v5, v6] ∧ Same H H' ∧ H' r = some (.lst (ms.map fun q => V.ref q.1)) ∧ ms.length = k ∧ H' d = some (.lst ((hadAt xs ns l st h (k)).map V.int)) ∧ ∀ i q, ms[i]? = some q → q.2 ≠ r ∧ q.2 ≠ d ∧ H' q.1 = some (.tup [.ref q.2, .int (pick xs ns (hadAt xs ns l st h i) l st)]) ∧ Marks H' q.2 xs (hadAt xs ns l st h i) l st h, ⟨s, 0, by omega, none, none, [], rfl, s2, e2, rfl, d2, (fun i q e => by cases e)⟩, ?_⟩
  rintro n σ' H' ⟨k, nk, v5, v6, ms, rfl, s3, e3, ml, d3, all⟩
  have hh : ∀ j, 0 ≤ (hadAt xs ns l st h k).getD j 0 ∧ (hadAt xs ns l st h k).getD j 0 ≤ 60 := fun j => by
    have := had_pos (sn.pk ne) k j
    omega
  refine ⟨_, rfl, r, _, rfl, .inl (SqL.of e3), _, rfl, a, _, dx, _, _, rfl, s3 _ _ k1, T.cl_Lists, T.na_Lists_seats, rfl, _, _, rfl, rfl, _, rfl, ?_⟩
  rw [List.length_map, ml]
  refine ite2 (fun c => ?_) (fun c => ?_)
  · have c' : (k : Int) < (s : Int) := of_decide_eq_true c
    refine ⟨fun σ' H' => ∃ (v5 v6 : Option V) (ms : List (Addr × Addr)), σ' = [some (.ref a), some (.ref b), some (.int l), some (.ref r), some (.ref d), v5, v6] ∧ Same H H' ∧ H' r = some (.lst (ms.map fun q => V.ref q.1)) ∧ ms.length = k + 1 ∧ H' d = some (.lst ((hadAt xs ns l st h (k + 1)).map V.int)) ∧ ∀ i q, ms[i]? = some q → q.2 ≠ r ∧ q.2 ≠ d ∧ H' q.1 = some (.tup [.ref q.2, .int (pick xs ns (hadAt xs ns l st h i) l st)]) ∧ Marks H' q.2 xs (hadAt xs ns l st h i) l st h, fun σ' H' ⟨v5, v6, ms, e⟩ => ⟨n - 1, by omega, k + 1, by omega, v5, v6, ms, e⟩, ?_⟩
    have pk := sn.pk ne k
    refine ⟨_, rfl, a, dx, _, rfl, s3 _ _ k1, rfl, _, rfl, _, rfl, _, rfl, a, b, d, h, s, st, u, v, ns, xs, _, l, rfl, il.same s3, sn, s3 _ _ hb, d3, hadAt_len .., hh, fun m H4 hm s4 mk => ?_⟩
    have s34 := s3.trans s4
    refine ⟨_, rfl, a, dx, _, rfl, s34 _ _ k1, rfl, _, rfl, a, m, h, s, st, u, v, ns, xs, _, l, rfl, il.same s34, sn, mk, hh, ne, fun H5 s5 => ?_⟩
    have s45 := s4.trans s5
    have e5 := s45 _ _ e3
    have d5 := s45 _ _ d3
    have mr : m ≠ r := fun z => by rw [z, e3] at hm; cases hm
    have md : m ≠ d := fun z => by rw [z, d3] at hm; cases hm
    refine ⟨_, rfl, .inl ⟨rfl, _, SqL.of e5⟩, _, rfl, _, rfl, (by show 2 ≤ sizeLine; decide), fun t' ht => ?_⟩
    generalize hP : pick xs ns (hadAt xs ns l st h k) l st = P' at pk ⊢
    have s6 := same_new ht (.tup [V.ref m, V.int P'])
    have w6 : (upd H5 t' (.tup [V.ref m, V.int P'])) t' = some (.tup [V.ref m, V.int P']) := upd_same
    generalize upd H5 t' (.tup [V.ref m, V.int P']) = H6 at s6 w6 ⊢
    have e6 := s6 _ _ e5
    have d6 := s6 _ _ d5
    have mk6 := (mk.same s5).same s6
    refine ⟨r, _, _, rfl, rfl, e6, (by rw [List.length_map, ml]; exact small1000 (by omega)), ?_⟩
    have d7 : (upd H6 r (.lst ((ms.map fun q => V.ref q.1) ++ [V.ref t']))) d = some (.lst ((hadAt xs ns l st h k).map V.int)) := by rw [upd_ne (Ne.symm rd)]; exact d6
    obtain ⟨jn, rfl⟩ : ∃ jn : Nat, P' = (jn : Int) := ⟨P'.toNat, by omega⟩
    have hl := hadAt_len xs ns l st h k
    have aP : atI ((hadAt xs ns l st h k).map V.int) (jn : Int) = some (.int ((hadAt xs ns l st h k).getD jn 0)) := by
      refine atN ?_
      rw [List.getD_eq_getElem?_getD, List.getElem?_eq_getElem (by omega)]
      rfl
    have nx : ((hadAt xs ns l st h k).map V.int).set jn (.int ((hadAt xs ns l st h k).getD jn 0 + 1)) = (hadAt xs ns l st h (k + 1)).map V.int := by
      show _ = (bump (hadAt xs ns l st h k) (pick xs ns (hadAt xs ns l st h k) l st)).map V.int
      rw [hP]
      unfold bump
      rw [Int.toNat_natCast, List.map_set]
    refine ⟨_, rfl, _, rfl, d, _, _, _, rfl, rfl, SqL.of d7, aP, _, _, rfl, rfl, ?_⟩
    refine ⟨_, rfl, _, rfl, d, _, _, _, rfl, rfl, d7, ixN_nat (by rw [List.length_map]; omega), ?_⟩
    refine ⟨_, _, ms ++ [(t', m)], rfl, same_upd (same_upd ((s3.trans s45).trans s6) hr0) hdH, by rw [upd_ne rd, upd_same, List.map_append]; rfl, by rw [List.length_append, ml]; rfl, ?_, fun i q0 hq => ?_⟩
    · rw [upd_same]
      exact congrArg (fun z => some (HO.lst z)) nx
    have tk : ∀ p zs, H6 p = some (.tup zs) → ∀ o, (upd (upd H6 r (.lst ((ms.map fun q => V.ref q.1) ++ [V.ref t']))) d o) p = some (.tup zs) := fun p zs e o => by
      rw [upd_ne (ne_of e d6 (fun z => nomatch z)), upd_ne (ne_of e e6 (fun z => nomatch z))]
      exact e
    by_cases ci : i < ms.length
    · rw [List.getElem?_append_left ci] at hq
      obtain ⟨a1, a2, a3, a4⟩ := all i q0 hq
      exact ⟨a1, a2, tk _ _ ((s45.trans s6) _ _ a3) _, ((a4.same (s45.trans s6)).upd e6 a1).upd d7 a2⟩
    · rw [List.getElem?_append_right (by omega)] at hq
      have ei : i = k := by
        have := (List.getElem?_eq_some_iff.mp hq).1
        rw [List.length_singleton] at this
        omega
      rw [ei, ml, Nat.sub_self] at hq
      cases Option.some.inj hq
      rw [ei, hP]
      exact ⟨mr, md, tk _ _ w6 _, (mk6.upd e6 mr).upd d7 md⟩
  · have c' : ¬ (k : Int) < (s : Int) := fun z => c (decide_eq_true z)
    exact ⟨_, rfl, q r H' hr0 s3 ⟨ms, e3, by omega, fun i q0 hq => (all i q0 hq).2.2⟩⟩
theorem ok_Lists_counted (T : Tx K mg ad) : FnOk P w K mg base CX0 7 ad.f_Lists_counted ad.d_Lists_counted ["self", "sheet"] (spCountedL ad.c_Lists) := by
  refine T.F_Lists_counted.ok sc_Lists_counted (fun vs H Q E h => ?_) (fun cdv A outer s H vs Q E hr h => ?_)
  · obtain ⟨a, l, h, s, st, u, v, ns, ls, rfl, _⟩ := h
    rfl
  obtain ⟨a, l, h, s, st, u, v, ns, ls, rfl, md, hl, g, l60, nl, q⟩ := h
  refine ⟨_, (@pss_cons _ _ _ _ _ (@ps_set _ _ (2) _ _ _ _ sc_Lists_counted.nd rfl (Or.inl rfl) (@pe_call _ _ _ _ _ _ _ _ _ _ _ _ _ _ _ _ (ok_votes_of T) (hr.mono (by decide)) rfl T.m_votes_of T.F_votes_of.kp T.b_votes_of .nil pass0 (@pa_cons _ _ _ _ _ (pv 1) (@pa_cons _ _ _ _ _ (pe_fld (pv 0) rfl) pa_nil (by rfl)) (by rfl)) (by decide) (by rfl) (by rfl)) (by rfl) (by first | exact .inl rfl | exact .inr rfl | assumption)) (@pss_cons _ _ _ _ _ (@ps_set _ _ (3) _ _ _ _ sc_Lists_counted.nd rfl (Or.inl rfl) (pe_meth (pv 0) T.cl_Lists T.me_Lists_least_votes (ok_Lists_least_votes T) (hr.mono (by decide)) T.b_Lists_least_votes .nil pass0 (@pa_cons _ _ _ _ _ (@pe_call _ _ _ _ _ _ _ _ _ _ _ _ _ _ _ _ (ok_ballots_in T) (hr.mono (by decide)) rfl T.m_ballots_in T.F_ballots_in.kp T.b_ballots_in .nil pass0 (@pa_cons _ _ _ _ _ (pv 1) pa_nil (by rfl)) (by decide) (by rfl) (by rfl)) pa_nil (by rfl))) (by rfl) (by first | exact .inl rfl | exact .inr rfl | assumption)) (@pss_cons _ _ _ _ _ (@ps_if _ _ _ _ _ _ _ _ (@pt_cmpR _ _ _ _ _ _ _ _ op_lt (@pe_callB _ _ _ _ _ _ _ _ _ (call_max1 rfl) (by rfl) T.z_max PyProof.Rows.boot_max (@pa_cons _ _ _ _ _ (pe_slice sl_list (pv 2) po_none (po_some (pe_fld (pv 0) rfl))) pa_nil (by rfl)) (by decide) (by decide) (by rfl) (by rfl)) (pv 3) (nomark _)) (@pss_one _ _ _ (@ps_ret _ _ _ _ (@pe_tup _ _ _ _ _ (@pa_cons _ _ _ _ _ (pv 2) (@pa_cons _ _ _ _ _ (pv 3) (@pa_cons _ _ _ _ _ (@pe_lst _ _ _ _ pa_nil) pa_nil (by rfl)) (by rfl)) (by rfl))))) pss_nil) (@pss_one _ _ _ (@ps_ret _ _ _ _ (@pe_tup _ _ _ _ _ (@pa_cons _ _ _ _ _ (pv 2) (@pa_cons _ _ _ _ _ (pv 3) (@pa_cons _ _ _ _ _ (pe_meth (pv 0) T.cl_Lists T.me_Lists_rounds_of (ok_Lists_rounds_of T) (hr.mono (by decide)) T.b_Lists_rounds_of .nil pass0 (@pa_cons _ _ _ _ _ (pv 2) (@pa_cons _ _ _ _ _ (pv 3) pa_nil (by rfl)) (by rfl))) pa_nil (by rfl)) (by rfl)) (by rfl)))))))), ?_⟩
  obtain ⟨dx, la, t, k1, k2, k3⟩ := id md.is
  have h1 := md.h1
  have h12 := md.h12
  have v0 := md.v0
  have v9 := md.v9
  have u0 := md.u0
  have uv := md.uv
  have tl := total_le nl
  have szt : Sz 64 (total ls) := sz_of (by omega) (by omega)
  have szu : Sz 64 u := sz_of (by omega) (by omega)
  have szv : Sz 64 v := sz_of (by omega) (by omega)
  refine ⟨_, rfl, _, rfl, a, _, dx, _, _, rfl, k1, T.cl_Lists, T.na_Lists_hands, rfl, ?_⟩
  refine ⟨l, ls, (h : Int), rfl, hl, (by rw [Int.toNat_natCast]; exact g), by omega, by omega, fun vv H1 hvv s1 e1 => ?_⟩
  rw [Int.toNat_natCast] at e1
  refine ⟨_, rfl, a, dx, _, rfl, s1 _ _ k1, rfl, _, rfl, l, ls, h, rfl, s1 _ _ hl, g.same s1, l60, fun H2 s2 => ?_⟩
  have s12 := s1.trans s2
  refine ⟨a, h, s, st, u, v, ns, total ls, rfl, md.is.same s12, v0, szu, szv, szt, ?_⟩
  show gName 3 (V.int (leastOf u v ls)) _ H2 _
  have sn := md.sane nl l60
  have tlen := tally_len h ls
  generalize leastOf u v ls = L at sn q ⊢
  generalize tally h ls = xs at e1 sn tlen q ⊢
  have e2 := s2 _ _ e1
  and_intros
  refine ⟨a, _, dx, _, _, rfl, s12 _ _ k1, T.cl_Lists, T.na_Lists_hands, rfl, ?_⟩
  refine ⟨_, rfl, vv, _, rfl, SqL.of e2, fun c hc => ?_⟩
  rw [cut_take, ← List.map_take]
  have s3 := same_new hc (.lst ((xs.take h).map V.int))
  have e3 : (upd H2 c (.lst ((xs.take h).map V.int))) c = some (.lst ((xs.take h).map V.int)) := upd_same
  generalize upd H2 c (.lst ((xs.take h).map V.int)) = H3 at s3 e3 ⊢
  have s13 := s12.trans s3
  refine ⟨c, _, rfl, SqL.of e3, (by rw [List.length_take]; omega), fun M Mm Ma => ?_⟩
  have get : ∀ j < h, xs.getD j 0 ∈ xs.take h := fun j hj => by
    rw [List.getD_eq_getElem?_getD, List.getElem?_eq_getElem (by omega)]
    exact List.mem_of_getElem? (i := j) (by rw [List.getElem?_take, if_pos hj, List.getElem?_eq_getElem (by omega)]; rfl)
  have few : M < L ↔ takers xs ns L = [] := by
    rw [no_takers md.pm]
    constructor
    · intro z j hj
      have := Ma _ (get j hj)
      omega
    · intro z
      obtain ⟨j, hj⟩ := List.getElem?_of_mem Mm
      have jl := (List.getElem?_eq_some_iff.mp hj).1
      rw [List.length_take] at jl
      have := z j (by omega)
      rw [List.getD_eq_getElem?_getD] at this
      rw [List.getElem?_take, if_pos (by omega)] at hj
      rw [hj] at this
      exact this
  and_intros
  by_cases cM : M < L
  · refine ifT (decide_eq_true cM) ?_
    have mz : many xs ns L s = 0 := if_pos (few.mp cM)
    and_intros
    refine ⟨(by show 0 ≤ sizeLine; decide), fun r hr0 => ?_⟩
    have s4 := same_new hr0 (.lst [])
    have e4 : (upd H3 r (.lst [])) r = some (.lst []) := upd_same
    generalize upd H3 r (.lst []) = H4 at s4 e4 ⊢
    refine ⟨(by show 3 ≤ sizeLine; decide), fun p hp => ?_⟩
    have s5 := same_new hp (.tup [V.ref vv, V.int L, V.ref r])
    refine q p _ (none_of (s13.trans s4) hp) ((s13.trans s4).trans s5) ⟨vv, r, upd_same, ((s3.trans s4).trans s5) _ _ e2, ?_⟩
    rw [mz]
    exact ⟨[], s5 _ _ e4, rfl, fun i q0 e => by cases e⟩
  · refine ifF (decide_eq_false cM) ?_
    have ne : takers xs ns L ≠ [] := fun z => cM (few.mpr z)
    have mz : many xs ns L s = s := if_neg ne
    and_intros
    refine ⟨a, dx, _, rfl, s13 _ _ k1, rfl, ?_⟩
    and_intros
    refine ⟨a, vv, h, s, st, u, v, ns, xs, L, rfl, md.is.same s13, sn, s3 _ _ e2, ne, fun r H4 hr0 s4 rr => ?_⟩
    refine ⟨(by show 3 ≤ sizeLine; decide), fun p hp => ?_⟩
    have s5 := same_new hp (.tup [V.ref vv, V.int L, V.ref r])
    refine q p _ (none_of (s13.trans s4) hp) ((s13.trans s4).trans s5) ⟨vv, r, upd_same, ((s3.trans s4).trans s5) _ _ e2, ?_⟩
    rw [mz]
    exact rr.same s5
theorem ok_Way_outcome (T : Tx K mg ad) : FnOk P w K mg base CX0 8 ad.f_Way_outcome ad.d_Way_outcome ["self", "sheet"] (spOutcome ad.c_Lists) := by
  refine T.F_Way_outcome.ok sc_Way_outcome (fun vs H Q E h => ?_) (fun cdv A outer s H vs Q E hr h => ?_)
  · obtain ⟨a, l, h, s, st, u, v, ns, ls, rfl, _⟩ := h
    rfl
  obtain ⟨a, l, h, s, st, u, v, ns, ls, rfl, md, hl, g, l60, nl, q⟩ := h
  refine ⟨_, (@pss_one _ _ _ (@ps_ret _ _ _ _ (pe_meth (pv 0) T.cl_Lists T.me_Lists_told_by (ok_Lists_told_by T) (hr.mono (by decide)) T.b_Lists_told_by .nil pass0 (@pa_cons _ _ _ _ _ (pe_meth (pv 0) T.cl_Lists T.me_Lists_counted (ok_Lists_counted T) (hr.mono (by decide)) T.b_Lists_counted .nil pass0 (@pa_cons _ _ _ _ _ (pv 1) pa_nil (by rfl))) pa_nil (by rfl))))), ?_⟩
  obtain ⟨dx, la, t, k1, k2, k3⟩ := id md.is
  refine ⟨_, rfl, a, dx, _, rfl, k1, rfl, ?_⟩
  refine ⟨_, rfl, a, dx, _, rfl, k1, rfl, _, rfl, a, l, h, s, st, u, v, ns, ls, rfl, md, hl, g, l60, nl, fun p H1 hp s1 pp => ?_⟩
  exact ⟨a, p, h, s, st, u, v, ns, _, _, rfl, md.is.same s1, md.sane nl l60, pp, fun r H2 hr s2 e2 => q r H2 (none_of s1 hr) (s1.trans s2) e2⟩
theorem ok_ListsChecker_right (T : Tx K mg ad) : FnOk P w K mg base CX0 8 ad.f_ListsChecker_right ad.d_ListsChecker_right ["self", "sheet", "paper"] (spRight68 K ad.c_ListsChecker ad.c_Lists) := by
  refine T.F_ListsChecker_right.ok sc_ListsChecker_right (fun vs H Q E h => ?_) (fun cdv A outer s H vs Q E hr h => ?_)
  · obtain ⟨g, a, l, p, h, s, st, u, v, ns, ls, D, rfl, _⟩ := h
    rfl
  obtain ⟨g, a, l, p, h, s, st, u, v, ns, ls, D, rfl, ⟨dm, hg⟩, md, hl, gl, l61, nl, rp, sh, q⟩ := h
  refine ⟨_, (@pss_one _ _ _ (@ps_ret _ _ _ _ (@pe_cmpR _ _ _ _ _ _ _ _ (op_eqD (K := K) hr.units) (pv 2) (pe_meth (pe_fld (pv 0) rfl) T.cl_Lists T.me_Lists_counted (ok_Lists_counted T) (hr.mono (by decide)) T.b_Lists_counted .nil pass0 (@pa_cons _ _ _ _ _ (pv 1) pa_nil (by rfl))) (nomark _)))), ?_⟩
  obtain ⟨dx, la, t, k1, k2, k3⟩ := id md.is
  and_intros
  refine ⟨g, _, dm, _, _, rfl, hg, T.cl_ListsChecker, T.na_ListsChecker_way, rfl, ?_⟩
  refine ⟨a, dx, _, rfl, k1, rfl, ?_⟩
  and_intros
  refine ⟨a, l, h, s, st, u, v, ns, ls, rfl, md, hl, gl, l61, nl, fun p2 H1 hp2 s1 pp => ?_⟩
  refine ⟨D, papD ls ns u v st h s, rp.same s1, pp.rep, sh, shape_paper .., ?_⟩
  exact q H1 s1
theorem ok_Checker_passes (T : Tx K mg ad) : FnOk P w K mg base CX0 9 ad.f_Checker_passes ad.d_Checker_passes ["self", "sheet", "paper", "outcome"] (spPasses68 K ad.c_ListsChecker ad.c_Lists) := by
  refine T.F_Checker_passes.ok sc_Checker_passes (fun vs H Q E h => ?_) (fun cdv A outer s H vs Q E hr h => ?_)
  · obtain ⟨g, a, l, p, o, h, s, st, u, v, ns, os, ls, D, rfl, _⟩ := h
    rfl
  obtain ⟨g, a, l, p, o, h, s, st, u, v, ns, os, ls, D, rfl, im, md, hl, gl, l61, nl, rp, sh, ho, pk, q⟩ := h
  refine ⟨_, (@pss_cons _ _ _ _ _ (@ps_if _ _ _ _ _ _ _ _ (@pt_not _ _ _ _ (@pt_val _ _ _ (pe_meth (pv 0) T.cl_ListsChecker T.me_ListsChecker_right (ok_ListsChecker_right T) (hr.mono (by decide)) T.b_ListsChecker_right .nil pass0 (@pa_cons _ _ _ _ _ (pv 1) (@pa_cons _ _ _ _ _ (pv 2) pa_nil (by rfl)) (by rfl))) (by intro _; rfl))) (@pss_one _ _ _ (@ps_ret _ _ _ _ pe_bl)) pss_nil) (@pss_one _ _ _ (@ps_ret _ _ _ _ (@pe_cmpR _ _ _ _ _ _ _ _ (op_eqD (K := K) hr.units) (pe_meth (pe_fld (pv 0) rfl) T.cl_Lists T.me_Lists_told_by (ok_Lists_told_by T) (hr.mono (by decide)) T.b_Lists_told_by .nil pass0 (@pa_cons _ _ _ _ _ (pv 2) pa_nil (by rfl))) (pv 3) (nomark _))))), ?_⟩
  obtain ⟨dm, hg⟩ := id im
  obtain ⟨dx, la, t, k1, k2, k3⟩ := id md.is
  and_intros
  refine ⟨g, dm, _, rfl, hg, rfl, ?_⟩
  and_intros
  refine ⟨g, a, l, p, h, s, st, u, v, ns, ls, D, rfl, im, md, hl, gl, l61, nl, rp, sh, fun H1 s1 => ?_⟩
  and_intros
  by_cases c : PyData.eqv D (papD ls ns u v st h s) = true
  · refine ifF (by rw [c]; rfl) ?_
    rw [c] at q
    and_intros
    refine ⟨g, _, dm, _, _, rfl, s1 _ _ hg, T.cl_ListsChecker, T.na_ListsChecker_way, rfl, ?_⟩
    refine ⟨a, dx, _, rfl, s1 _ _ k1, rfl, ?_⟩
    and_intros
    refine ⟨a, p, h, s, st, u, v, ns, _, _, rfl, md.is.same s1, md.sane nl l61, (pk c).same s1, fun r H2 hr2 s2 e2 => ?_⟩
    and_intros
    refine ⟨.list ((outOf ls ns u v st h s).map .int), .list (os.map .int), .lst (SqL.of e2) (.ints _), .lst (SqL.of ((s1.trans s2) _ _ ho)) (.ints _), (shape_ints _).2, (shape_ints _).2, ?_⟩
    rw [show ∀ x y : List Int, PyData.eqv (.list (x.map .int)) (.list (y.map .int)) = decide (x = y) from fun x y => eqv_ints x y]
    rw [← Bool.true_and (decide _)]
    exact q H2 (s1.trans s2)
  · rw [Bool.not_eq_true] at c
    refine ifT (by rw [c]; rfl) ?_
    rw [c] at q
    exact q H1 s1
theorem ok_law_longer_let_by (T : Tx K mg ad) : FnOk P w K mg base CX0 10 ad.f_law_longer_let_by ad.d_law_longer_let_by ["_law_checker", "_law_told", "_law_lent", "_law_kept"] (spLonger68 K ad.c_ListsChecker ad.c_Lists) := by
  refine T.F_law_longer_let_by.ok sc_law_longer_let_by (fun vs H Q E h => ?_) (fun cdv A outer s H vs Q E hr h => ?_)
  · obtain ⟨g, a, l, r, kp, h, s, st, u, v, xs, ls, rfl, _⟩ := h
    rfl
  obtain ⟨g, a, l, r, kp, h, s, st, u, v, xs, ls, rfl, im, md, s24, gu, tl, hl, gl, l61, nl, rk, q⟩ := h
  refine ⟨_, (@pss_cons _ _ _ _ _ (@ps_set _ _ (4) _ _ _ _ sc_law_longer_let_by.nd rfl (Or.inl rfl) (pe_make T.mk_Lists (ok_Lists_init T) (hr.mono (by decide)) rfl T.m_Lists T.b_Lists_init .nil pass0 (@pa_cons _ _ _ _ _ (pe_fld (pe_fld (pv 0) rfl) rfl) (@pa_cons _ _ _ _ _ (@pe_op _ _ _ _ _ _ _ _ op_add (@pe_ix _ _ _ _ _ _ _ ix_tup (pv 1) pe_int (fun _ _ => rfl)) pe_int) (@pa_cons _ _ _ _ _ (@pe_callTy _ _ _ _ _ _ _ _ _ call_list_of (by rfl) T.z_list PyProof.Rows.boot_list (@pa_cons _ _ _ _ _ (@pe_ix _ _ _ _ _ _ _ ix_tup (pv 1) pe_int (fun _ _ => rfl)) pa_nil (by rfl)) (by decide) (by decide) (by rfl) (by rfl)) (@pa_cons _ _ _ _ _ (@pe_ix _ _ _ _ _ _ _ ix_tup (pv 1) pe_int (fun _ _ => rfl)) (@pa_cons _ _ _ _ _ (@pe_ix _ _ _ _ _ _ _ ix_tup (pv 1) pe_int (fun _ _ => rfl)) pa_nil (by rfl)) (by rfl)) (by rfl)) (by rfl)) (by rfl))) (by rfl) (by first | exact .inl rfl | exact .inr rfl | assumption)) (@pss_cons _ _ _ _ _ (@ps_set _ _ (5) _ _ _ _ sc_law_longer_let_by.nd rfl (Or.inl rfl) (pe_meth (pv 4) T.cl_Lists T.me_Lists_counted (ok_Lists_counted T) (hr.mono (by decide)) T.b_Lists_counted .nil pass0 (@pa_cons _ _ _ _ _ (@pe_callTy _ _ _ _ _ _ _ _ _ call_list_of (by rfl) T.z_list PyProof.Rows.boot_list (@pa_cons _ _ _ _ _ (pv 2) pa_nil (by rfl)) (by decide) (by decide) (by rfl) (by rfl)) pa_nil (by rfl))) (by rfl) (by first | exact .inl rfl | exact .inr rfl | assumption)) (@pss_cons _ _ _ _ _ (@ps_if _ _ _ _ _ _ _ _ (@pt_cmpR _ _ _ _ _ _ _ _ (op_eqD (K := K) hr.units) (pv 5) (pv 3) (nomark _)) (@pss_one _ _ _ (@ps_ret _ _ _ _ pe_bl)) pss_nil) (@pss_cons _ _ _ _ _ (@ps_if _ _ _ _ _ _ _ _ (@pt_cmpR _ _ _ _ _ _ _ _ op_notT (pe_meth (pv 0) T.cl_ListsChecker T.me_ListsChecker_right (ok_ListsChecker_right T) (hr.mono (by decide)) T.b_ListsChecker_right .nil pass0 (@pa_cons _ _ _ _ _ (pv 2) (@pa_cons _ _ _ _ _ (pv 5) pa_nil (by rfl)) (by rfl))) pe_bl (nomark _)) (@pss_one _ _ _ (@ps_ret _ _ _ _ pe_bl)) pss_nil) (@pss_one _ _ _ (@ps_ret _ _ _ _ (@pe_cmpR _ _ _ _ _ _ _ _ op_notT (pe_meth (pv 0) T.cl_ListsChecker T.me_ListsChecker_passes (ok_Checker_passes T) (hr.mono (by decide)) T.b_Checker_passes .nil pass0 (@pa_cons _ _ _ _ _ (pv 2) (@pa_cons _ _ _ _ _ (pv 5) (@pa_cons _ _ _ _ _ (pe_meth (pv 4) T.cl_Lists T.me_Lists_told_by (ok_Lists_told_by T) (hr.mono (by decide)) T.b_Lists_told_by .nil pass0 (@pa_cons _ _ _ _ _ (pv 5) pa_nil (by rfl))) pa_nil (by rfl)) (by rfl)) (by rfl))) pe_bl (nomark _)))))))), ?_⟩
  obtain ⟨dm, hg⟩ := id im
  obtain ⟨dw, lw, tw, kw1, kw2, kw3⟩ := id md.is
  obtain ⟨lo, t, o1, o2, o3⟩ := id tl
  have h1 := md.h1
  have h12 := md.h12
  have s1' := md.s1
  and_intros
  refine ⟨g, _, dm, _, _, rfl, hg, T.cl_ListsChecker, T.na_ListsChecker_way, rfl, ?_⟩
  refine ⟨a, _, dw, _, _, rfl, kw1, T.cl_Lists, T.na_Lists_hands, rfl, ?_⟩
  and_intros
  intro b hb
  have s3 := same_new hb (.lst (xs.map V.int))
  have e3 : (upd H b (.lst (xs.map V.int))) b = some (.lst (xs.map V.int)) := upd_same
  generalize upd H b (.lst (xs.map V.int)) = H3 at s3 e3 ⊢
  have o1' := s3 _ _ o1
  have pm' : xs.Perm (ups (h : Int).toNat) := by rw [Int.toNat_natCast]; exact md.pm
  obtain ⟨m, hm, hm'⟩ : ∃ m : Nat, (s : Int) + 1 = (m : Int) ∧ m = s + 1 := ⟨s + 1, rfl, rfl⟩
  and_intros
  dsimp only
  rw [hm]
  intro a2 dx ha hdx ne
  have k1 : Same H3 (upd (upd H3 dx (.own a2)) a2 (.ins ad.c_Lists dx [])) := (same_new hdx _).trans (same_new (by rw [upd_ne (Ne.symm ne)]; exact ha) _)
  refine ⟨a2, ad.c_Lists, dx, b, t, (h : Int), (m : Int), u, v, st, xs, rfl, upd_same, T.cl_Lists, T.na_Lists_hands, T.na_Lists_seats, T.na_Lists_lots, T.na_Lists_hurdle, T.na_Lists_step, by omega, by omega, by omega, by omega, k1 _ _ e3, pm', k1 _ _ (s3 _ _ o3), md.u0, md.uv, gu, md.st1, md.st9, fun l' H4 s4 e4 el => ?_⟩
  rw [off_upd] at s4
  have sH4 := (off_of (same_new hdx (.own a2)) ha).trans s4
  refine ⟨rfl, ?_⟩
  have md2 : Made ad.c_Lists H4 a2 h m st u v xs := ⟨⟨dx, l', t, e4, el, sH4 _ _ (s3 _ _ o3)⟩, md.pm, by omega, by omega, by omega, by omega, md.st1, md.st9, md.u0, md.uv, md.v0, md.v9⟩
  clear el s4 k1
  have s34 := s3.trans sH4
  have hl4 := s34 _ _ hl
  and_intros
  refine ⟨a2, dx, _, rfl, e4, rfl, ?_⟩
  and_intros
  intro c hc
  have s5 := same_new hc (.lst (vls ls))
  have e5 : (upd H4 c (.lst (vls ls))) c = some (.lst (vls ls)) := upd_same
  generalize upd H4 c (.lst (vls ls)) = H5 at s5 e5 ⊢
  have s35 := s34.trans s5
  and_intros
  refine ⟨a2, c, h, m, st, u, v, xs, ls, rfl, md2.same s5, e5, gl.same s35, l61, nl, fun p2 H6 hp2 s6 pp => ?_⟩
  have s36 := s35.trans s6
  and_intros
  refine ⟨papD ls xs u v st h m, papD ls xs u v st h s, pp.rep, rk.same s36, shape_paper .., shape_paper .., ?_⟩
  by_cases ce : PyData.eqv (papD ls xs u v st h m) (papD ls xs u v st h s) = true
  · refine ⟨_, rfl, ifT ce ?_⟩
    exact q H6 s36
  refine ⟨_, rfl, ifF (by rw [Bool.not_eq_true] at ce; exact ce) ?_⟩
  rw [Bool.not_eq_true] at ce
  and_intros
  refine ⟨g, dm, _, rfl, s36 _ _ hg, rfl, ?_⟩
  and_intros
  refine ⟨g, a, l, p2, h, s, st, u, v, xs, ls, papD ls xs u v st h m, rfl, im.same s36, md.same s36, s36 _ _ hl, gl.same s36, l61, nl, pp.rep, shape_paper .., fun H7 s7 => ?_⟩
  have s37 := s36.trans s7
  rw [ce]
  refine ⟨_, rfl, ?_⟩
  refine ⟨_, rfl, ifF rfl ?_⟩
  and_intros
  refine ⟨g, dm, _, rfl, s37 _ _ hg, rfl, ?_⟩
  and_intros
  refine ⟨a2, dx, _, rfl, ((s5.trans s6).trans s7) _ _ e4, rfl, ?_⟩
  and_intros
  refine ⟨a2, p2, h, m, st, u, v, xs, _, _, rfl, md2.is.same ((s5.trans s6).trans s7), md2.sane nl l61, pp.same s7, fun r2 H8 hr2 s8 e8 => ?_⟩
  have s38 := s37.trans s8
  and_intros
  refine ⟨g, a, l, p2, r2, h, s, st, u, v, xs, _, ls, papD ls xs u v st h m, rfl, im.same s38, md.same s38, s38 _ _ hl, gl.same s38, l61, nl, (pp.same (s7.trans s8)).rep, shape_paper .., e8, (fun z => absurd z (by rw [ce]; decide)), fun H9 s9 => ?_⟩
  rw [ce, Bool.false_and]
  exact ⟨_, rfl, q H9 (s38.trans s9)⟩
theorem ok_law (T : Tx K mg ad) : FnOk P w K mg base CX0 11 ad.f_law ad.d_law ["_law_script"] (spLaw K) := by
  refine T.F_law.ok sc_law (fun vs H Q E h => ?_) (fun cdv A outer s H vs Q E hr h => ?_)
  · obtain ⟨p, ns, rfl, _⟩ := h
    rfl
  obtain ⟨p, ns, rfl, hS, h63, q⟩ := h
  refine ⟨_, (@pss_cons _ _ _ _ _ (@ps_set _ _ (1) _ _ _ _ sc_law.nd rfl (Or.inl rfl) (@pe_op _ _ _ _ _ _ _ _ op_add pe_int (@pe_op _ _ _ _ _ _ _ _ op_modN (@pe_call _ _ _ _ _ _ _ _ _ _ _ _ _ _ _ _ (ok_law_cell T) (hr.mono (by decide)) rfl T.m_law_cell T.F_law_cell.kp T.b_law_cell .nil pass0 (@pa_cons _ _ _ _ _ (pv 0) (@pa_cons _ _ _ _ _ pe_int pa_nil (by rfl)) (by rfl)) (by decide) (by rfl) (by rfl)) pe_int)) (by rfl) (by first | exact .inl rfl | exact .inr rfl | assumption)) (@pss_cons _ _ _ _ _ (@ps_set _ _ (2) _ _ _ _ sc_law.nd rfl (Or.inl rfl) (@pe_call _ _ _ _ _ _ _ _ _ _ _ _ _ _ _ _ (ok_law_way T) (hr.mono (by decide)) rfl T.m_law_way T.F_law_way.kp T.b_law_way .nil pass0 (@pa_cons _ _ _ _ _ (pv 0) (@pa_cons _ _ _ _ _ (pv 1) pa_nil (by rfl)) (by rfl)) (by decide) (by rfl) (by rfl)) (by rfl) (by first | exact .inl rfl | exact .inr rfl | assumption)) (@pss_cons _ _ _ _ _ (@ps_set _ _ (3) _ _ _ _ sc_law.nd rfl (Or.inl rfl) (@pe_call _ _ _ _ _ _ _ _ _ _ _ _ _ _ _ _ (ok_law_sheet T) (hr.mono (by decide)) rfl T.m_law_sheet T.F_law_sheet.kp T.b_law_sheet .nil pass0 (@pa_cons _ _ _ _ _ (pv 0) (@pa_cons _ _ _ _ _ pe_int (@pa_cons _ _ _ _ _ (pv 1) pa_nil (by rfl)) (by rfl)) (by rfl)) (by decide) (by rfl) (by rfl)) (by rfl) (by first | exact .inl rfl | exact .inr rfl | assumption)) (@pss_cons _ _ _ _ _ (@ps_set _ _ (4) _ _ _ _ sc_law.nd rfl (Or.inl rfl) (pe_make T.mk_Lists (ok_Lists_init T) (hr.mono (by decide)) rfl T.m_Lists T.b_Lists_init .nil pass0 (@pa_cons _ _ _ _ _ (pv 1) (@pa_cons _ _ _ _ _ (@pe_ix _ _ _ _ _ _ _ ix_tup (pv 2) pe_int (fun _ _ => rfl)) (@pa_cons _ _ _ _ _ (@pe_callTy _ _ _ _ _ _ _ _ _ call_list_of (by rfl) T.z_list PyProof.Rows.boot_list (@pa_cons _ _ _ _ _ (@pe_ix _ _ _ _ _ _ _ ix_tup (pv 2) pe_int (fun _ _ => rfl)) pa_nil (by rfl)) (by decide) (by decide) (by rfl) (by rfl)) (@pa_cons _ _ _ _ _ (@pe_ix _ _ _ _ _ _ _ ix_tup (pv 2) pe_int (fun _ _ => rfl)) (@pa_cons _ _ _ _ _ (@pe_ix _ _ _ _ _ _ _ ix_tup (pv 2) pe_int (fun _ _ => rfl)) pa_nil (by rfl)) (by rfl)) (by rfl)) (by rfl)) (by rfl))) (by rfl) (by first | exact .inl rfl | exact .inr rfl | assumption)) (@pss_cons _ _ _ _ _ (@ps_set _ _ (5) _ _ _ _ sc_law.nd rfl (Or.inl rfl) (pe_make T.mk_ListsChecker (ok_Checker_init T) (hr.mono (by decide)) rfl T.m_ListsChecker T.b_Checker_init .nil pass0 (@pa_cons _ _ _ _ _ (pv 4) pa_nil (by rfl))) (by rfl) (by first | exact .inl rfl | exact .inr rfl | assumption)) (@pss_cons _ _ _ _ _ (@ps_set _ _ (6) _ _ _ _ sc_law.nd rfl (Or.inl rfl) (pe_meth (pv 4) T.cl_Lists T.me_Lists_counted (ok_Lists_counted T) (hr.mono (by decide)) T.b_Lists_counted .nil pass0 (@pa_cons _ _ _ _ _ (@pe_callTy _ _ _ _ _ _ _ _ _ call_list_of (by rfl) T.z_list PyProof.Rows.boot_list (@pa_cons _ _ _ _ _ (pv 3) pa_nil (by rfl)) (by decide) (by decide) (by rfl) (by rfl)) pa_nil (by rfl))) (by rfl) (by first | exact .inl rfl | exact .inr rfl | assumption)) (@pss_cons _ _ _ _ _ (@ps_set _ _ (7) _ _ _ _ sc_law.nd rfl (Or.inl rfl) (pe_meth (pv 4) T.cl_Lists T.me_Lists_outcome (ok_Way_outcome T) (hr.mono (by decide)) T.b_Way_outcome .nil pass0 (@pa_cons _ _ _ _ _ (@pe_callTy _ _ _ _ _ _ _ _ _ call_list_of (by rfl) T.z_list PyProof.Rows.boot_list (@pa_cons _ _ _ _ _ (pv 3) pa_nil (by rfl)) (by decide) (by decide) (by rfl) (by rfl)) pa_nil (by rfl))) (by rfl) (by first | exact .inl rfl | exact .inr rfl | assumption)) (@pss_cons _ _ _ _ _ (@ps_set _ _ (8) _ _ _ _ sc_law.nd rfl (Or.inl rfl) (@pe_call _ _ _ _ _ _ _ _ _ _ _ _ _ _ _ _ (ok_law_copy T) (hr.mono (by decide)) rfl T.m_law_copy T.F_law_copy.kp T.b_law_copy .nil pass0 (@pa_cons _ _ _ _ _ (pv 6) pa_nil (by rfl)) (by decide) (by rfl) (by rfl)) (by rfl) (by first | exact .inl rfl | exact .inr rfl | assumption)) (@pss_cons _ _ _ _ _ (@ps_set _ _ (9) _ _ _ _ sc_law.nd rfl (Or.inl rfl) (@pe_callTy _ _ _ _ _ _ _ _ _ call_list_of (by rfl) T.z_list PyProof.Rows.boot_list (@pa_cons _ _ _ _ _ (pv 3) pa_nil (by rfl)) (by decide) (by decide) (by rfl) (by rfl)) (by rfl) (by first | exact .inl rfl | exact .inr rfl | assumption)) (@pss_cons _ _ _ _ _ (@ps_if _ _ _ _ _ _ _ _ (PW.pt (@pw_or _ _ _ _ _ _ _ (@pt_cmpR _ _ _ _ _ _ _ _ op_notT (pe_meth (pv 5) T.cl_ListsChecker T.me_ListsChecker_right (ok_ListsChecker_right T) (hr.mono (by decide)) T.b_ListsChecker_right .nil pass0 (@pa_cons _ _ _ _ _ (pv 9) (@pa_cons _ _ _ _ _ (pv 6) pa_nil (by rfl)) (by rfl))) pe_bl (nomark _)) (@pw_or1 _ _ _ _ (@pt_cmpR _ _ _ _ _ _ _ _ op_notT (pe_meth (pv 5) T.cl_ListsChecker T.me_ListsChecker_passes (ok_Checker_passes T) (hr.mono (by decide)) T.b_Checker_passes .nil pass0 (@pa_cons _ _ _ _ _ (pv 9) (@pa_cons _ _ _ _ _ (pv 6) (@pa_cons _ _ _ _ _ (@pe_callTy _ _ _ _ _ _ _ _ _ call_list_of (by rfl) T.z_list PyProof.Rows.boot_list (@pa_cons _ _ _ _ _ (pv 7) pa_nil (by rfl)) (by decide) (by decide) (by rfl) (by rfl)) pa_nil (by rfl)) (by rfl)) (by rfl))) pe_bl (nomark _))))) (@pss_one _ _ _ (@ps_ret _ _ _ _ pe_bl)) pss_nil) (@pss_cons _ _ _ _ _ (@ps_set _ _ (10) _ _ _ _ sc_law.nd rfl (Or.inl rfl) (@pe_call _ _ _ _ _ _ _ _ _ _ _ _ _ _ _ _ (ok_law_mixed T) (hr.mono (by decide)) rfl T.m_law_mixed T.F_law_mixed.kp T.b_law_mixed .nil pass0 (@pa_cons _ _ _ _ _ (@pe_call _ _ _ _ _ _ _ _ _ _ _ _ _ _ _ _ (ok_law_cell T) (hr.mono (by decide)) rfl T.m_law_cell T.F_law_cell.kp T.b_law_cell .nil pass0 (@pa_cons _ _ _ _ _ (pv 0) (@pa_cons _ _ _ _ _ pe_int pa_nil (by rfl)) (by rfl)) (by decide) (by rfl) (by rfl)) (@pa_cons _ _ _ _ _ pe_int pa_nil (by rfl)) (by rfl)) (by decide) (by rfl) (by rfl)) (by rfl) (by first | exact .inl rfl | exact .inr rfl | assumption)) (@pss_cons _ _ _ _ _ (@ps_set _ _ (11) _ _ _ _ sc_law.nd rfl (Or.inl rfl) (@pe_call _ _ _ _ _ _ _ _ _ _ _ _ _ _ _ _ (ok_law_spoilt T) (hr.mono (by decide)) rfl T.m_law_spoilt T.F_law_spoilt.kp T.b_law_spoilt .nil pass0 (@pa_cons _ _ _ _ _ (pv 6) (@pa_cons _ _ _ _ _ (@pe_op _ _ _ _ _ _ _ _ op_modN (@pe_call _ _ _ _ _ _ _ _ _ _ _ _ _ _ _ _ (ok_law_mixed T) (hr.mono (by decide)) rfl T.m_law_mixed T.F_law_mixed.kp T.b_law_mixed .nil pass0 (@pa_cons _ _ _ _ _ (pv 10) (@pa_cons _ _ _ _ _ pe_int pa_nil (by rfl)) (by rfl)) (by decide) (by rfl) (by rfl)) pe_int) (@pa_cons _ _ _ _ _ (pv 10) (@pa_cons _ _ _ _ _ (pv 1) pa_nil (by rfl)) (by rfl)) (by rfl)) (by rfl)) (by decide) (by rfl) (by rfl)) (by rfl) (by first | exact .inl rfl | exact .inr rfl | assumption)) (@pss_cons _ _ _ _ _ (@ps_ifJ _ _ _ _ _ _ _ _ (@pt_cmpR _ _ _ _ _ _ _ _ (op_neD (K := K) hr.units) (pv 11) (pv 8) (nomark _)) (@pss_one _ _ _ (@ps_if _ _ _ _ _ _ _ _ (PW.pt (@pw_or _ _ _ _ _ _ _ (@pt_cmpR _ _ _ _ _ _ _ _ op_notT (pe_meth (pv 5) T.cl_ListsChecker T.me_ListsChecker_right (ok_ListsChecker_right T) (hr.mono (by decide)) T.b_ListsChecker_right .nil pass0 (@pa_cons _ _ _ _ _ (pv 9) (@pa_cons _ _ _ _ _ (pv 11) pa_nil (by rfl)) (by rfl))) pe_bl (nomark _)) (@pw_or1 _ _ _ _ (@pt_cmpR _ _ _ _ _ _ _ _ op_notT (pe_meth (pv 5) T.cl_ListsChecker T.me_ListsChecker_passes (ok_Checker_passes T) (hr.mono (by decide)) T.b_Checker_passes .nil pass0 (@pa_cons _ _ _ _ _ (pv 9) (@pa_cons _ _ _ _ _ (pv 11) (@pa_cons _ _ _ _ _ (pv 7) pa_nil (by rfl)) (by rfl)) (by rfl))) pe_bl (nomark _))))) (@pss_one _ _ _ (@ps_ret _ _ _ _ pe_bl)) pss_nil)) pss_nil) (@pss_cons _ _ _ _ _ (@ps_ifJ _ _ _ _ _ _ _ _ (PW.pt (@pw_and _ _ _ _ _ _ _ (@pt_cmpR _ _ _ _ _ _ _ _ op_eq (@pe_op _ _ _ _ _ _ _ _ op_modN (pv 10) pe_int) pe_int (nomark _)) (@pw_and1 _ _ _ _ (@pt_val _ _ _ (@pe_call _ _ _ _ _ _ _ _ _ _ _ _ _ _ _ _ (ok_law_longer_let_by T) (hr.mono (by decide)) rfl T.m_law_longer_let_by T.F_law_longer_let_by.kp T.b_law_longer_let_by .nil pass0 (@pa_cons _ _ _ _ _ (pv 5) (@pa_cons _ _ _ _ _ (pv 2) (@pa_cons _ _ _ _ _ (pv 9) (@pa_cons _ _ _ _ _ (pv 8) pa_nil (by rfl)) (by rfl)) (by rfl)) (by rfl)) (by decide) (by rfl) (by rfl)) (by intro _; rfl))))) (@pss_one _ _ _ (@ps_ret _ _ _ _ pe_bl)) pss_nil) (@pss_cons _ _ _ _ _ (@ps_if _ _ _ _ _ _ _ _ (PW.pt (@pw_or _ _ _ _ _ _ _ (@pt_not _ _ _ _ (@pt_val _ _ _ (@pe_callB _ _ _ _ _ _ _ _ _ (call_iso (K := K)) (by rfl) T.z_isinstance PyProof.Rows.boot_isinstance (@pa_cons _ _ _ _ _ (pv 5) (@pa_cons _ _ _ _ _ (pe_glob (v := .ref ad.c_Checker) rfl T.m_Checker rfl) pa_nil (by rfl)) (by rfl)) (by decide) (by decide) (by rfl) (by rfl)) (by intro _; rfl))) (@pw_or _ _ _ _ _ _ _ (@pt_cmpR _ _ _ _ _ _ _ _ op_ne (pe_fld (pe_fld (pv 5) rfl) rfl) (@pe_ix _ _ _ _ _ _ _ ix_tup (pv 2) pe_int (fun _ _ => rfl)) (nomark _)) (@pw_or1 _ _ _ _ (@pt_cmpR _ _ _ _ _ _ _ _ op_ne (pe_fld (pe_fld (pv 5) rfl) rfl) (pv 1) (nomark _)))))) (@pss_one _ _ _ (@ps_ret _ _ _ _ pe_bl)) pss_nil) (@pss_cons _ _ _ _ _ (@ps_set _ _ (12) _ _ _ _ sc_law.nd rfl (Or.inl rfl) (@pe_callTy _ _ _ _ _ _ _ _ _ call_list_of (by rfl) T.z_list PyProof.Rows.boot_list (@pa_cons _ _ _ _ _ (pv 7) pa_nil (by rfl)) (by decide) (by decide) (by rfl) (by rfl)) (by rfl) (by first | exact .inl rfl | exact .inr rfl | assumption)) (@pss_cons _ _ _ _ _ (ps_asg (@pe_op _ _ _ _ _ _ _ _ op_add (@pe_ix _ _ _ _ _ _ _ ix_list (pv 12) (@pe_op _ _ _ _ _ _ _ _ op_modN (pv 10) (pv 1)) (fun _ _ => rfl)) pe_int) (pg_sub (pv 12) (@pe_op _ _ _ _ _ _ _ _ op_modN (pv 10) (pv 1)) set_list)) (@pss_cons _ _ _ _ _ (@ps_if _ _ _ _ _ _ _ _ (@pt_cmpR _ _ _ _ _ _ _ _ op_notT (pe_meth (pv 5) T.cl_ListsChecker T.me_ListsChecker_passes (ok_Checker_passes T) (hr.mono (by decide)) T.b_Checker_passes .nil pass0 (@pa_cons _ _ _ _ _ (pv 9) (@pa_cons _ _ _ _ _ (pv 6) (@pa_cons _ _ _ _ _ (pv 12) pa_nil (by rfl)) (by rfl)) (by rfl))) pe_bl (nomark _)) (@pss_one _ _ _ (@ps_ret _ _ _ _ pe_bl)) pss_nil) (@pss_cons _ _ _ _ _ (@ps_set _ _ (13) _ _ _ _ sc_law.nd rfl (Or.inl rfl) (@pe_op _ _ _ _ _ _ _ _ op_cat (@pe_lst _ _ _ _ (@pa_cons _ _ _ _ _ (@pe_tup _ _ _ _ _ (@pa_cons _ _ _ _ _ (@pe_tup _ _ _ _ _ pa_nil) (@pa_cons _ _ _ _ _ pe_int pa_nil (by rfl)) (by rfl))) pa_nil (by rfl))) (pe_comp (fsc := defScope s_law) (N := ["_law_script", "_law_hands", "_law_told", "_law_sheet_here", "_law_way_here", "_law_checker", "_law_paper", "_law_outcome", "_law_kept", "_law_lent", "_law_cell_here", "_law_spoilt_here", "_law_wrong", "_law_more"]) (Nc := ["_law_script", "_law_hands", "_law_told", "_law_sheet_here", "_law_way_here", "_law_checker", "_law_paper", "_law_outcome", "_law_kept", "_law_lent", "_law_cell_here", "_law_spoilt_here", "_law_wrong", "_law_more", "_law_line"]) rfl rfl ⟨rfl, by decide +kernel, by decide +kernel, rfl, by decide +kernel, rfl, by decide +kernel, rfl, by decide +kernel⟩ rfl (pi_list (pv 3)) (fun _ _ _ _ => (pif_one (@pt_cmpR _ _ _ _ _ _ _ _ (op_neD (K := K) hr.units) (@pe_ix _ _ _ _ _ _ _ (ix_tupK K) (pv 14) pe_int (fun _ _ => rfl)) (@pe_tup _ _ _ _ _ pa_nil) (nomark _)))) (fun _ _ _ _ => (pv 14)))) (by rfl) (by first | exact .inl rfl | exact .inr rfl | assumption)) (@pss_cons _ _ _ _ _ (@ps_ifJ _ _ _ _ _ _ _ _ (@pt_cmpR _ _ _ _ _ _ _ _ op_gt (@pe_callB _ _ _ _ _ _ _ _ _ call_len_seq (by rfl) T.z_len PySem.boot_len (@pa_cons _ _ _ _ _ (pv 13) pa_nil (by rfl)) (by decide) (by decide) (by rfl) (by rfl)) (@pe_callB _ _ _ _ _ _ _ _ _ call_len_seq (by rfl) T.z_len PySem.boot_len (@pa_cons _ _ _ _ _ (pv 3) pa_nil (by rfl)) (by decide) (by decide) (by rfl) (by rfl)) (nomark _)) (@pss_one _ _ _ (@ps_if _ _ _ _ _ _ _ _ (@pt_cmpR _ _ _ _ _ _ _ _ op_notT (pe_meth (pv 5) T.cl_ListsChecker T.me_ListsChecker_right (ok_ListsChecker_right T) (hr.mono (by decide)) T.b_ListsChecker_right .nil pass0 (@pa_cons _ _ _ _ _ (pv 13) (@pa_cons _ _ _ _ _ (pv 6) pa_nil (by rfl)) (by rfl))) pe_bl (nomark _)) (@pss_one _ _ _ (@ps_ret _ _ _ _ pe_bl)) pss_nil)) (@pss_cons _ _ _ _ _ (@ps_set _ _ (13) _ _ _ _ sc_law.nd rfl (Or.inl rfl) (@pe_op _ _ _ _ _ _ _ _ op_cat (@pe_lst _ _ _ _ (@pa_cons _ _ _ _ _ (@pe_tup _ _ _ _ _ (@pa_cons _ _ _ _ _ (@pe_tup _ _ _ _ _ pa_nil) (@pa_cons _ _ _ _ _ (@pe_op _ _ _ _ _ _ _ _ op_add (@pe_ix _ _ _ _ _ _ _ ix_tup (@pe_ix _ _ _ _ _ _ _ ix_list (pv 3) pe_int (fun _ _ => rfl)) pe_int (fun _ _ => rfl)) pe_int) pa_nil (by rfl)) (by rfl))) pa_nil (by rfl))) (pe_slice sl_list (pv 3) (po_some pe_int) po_none)) (by rfl) (by first | exact .inl rfl | exact .inr rfl | assumption)) (@pss_one _ _ _ (@ps_if _ _ _ _ _ _ _ _ (@pt_cmpR _ _ _ _ _ _ _ _ op_notT (pe_meth (pv 5) T.cl_ListsChecker T.me_ListsChecker_right (ok_ListsChecker_right T) (hr.mono (by decide)) T.b_ListsChecker_right .nil pass0 (@pa_cons _ _ _ _ _ (pv 13) (@pa_cons _ _ _ _ _ (pv 6) pa_nil (by rfl)) (by rfl))) pe_bl (nomark _)) (@pss_one _ _ _ (@ps_ret _ _ _ _ pe_bl)) pss_nil)))) (@pss_one _ _ _ (@ps_ret _ _ _ _ (@pe_and _ _ _ _ _ _ _ (@pe_cmpR _ _ _ _ _ _ _ _ (op_eqD (K := K) hr.units) (pv 6) (pv 8) (nomark _)) (@pe_and _ _ _ _ _ _ _ (@pe_cmpR _ _ _ _ _ _ _ _ (op_eqD (K := K) hr.units) (pv 9) (pv 3) (nomark _)) (@pe_one _ _ _ _ _ (@pe_cmpR _ _ _ _ _ _ _ _ op_isT (pe_meth (pv 5) T.cl_ListsChecker T.me_ListsChecker_passes (ok_Checker_passes T) (hr.mono (by decide)) T.b_Checker_passes .nil pass0 (@pa_cons _ _ _ _ _ (pv 9) (@pa_cons _ _ _ _ _ (pv 6) (@pa_cons _ _ _ _ _ (pv 7) pa_nil (by rfl)) (by rfl)) (by rfl))) pe_bl (nomark _))))))))))))))))))))))))))), ?_⟩
  refine ⟨_, rfl, p, ns, 0, rfl, hS, h63, by decide, by decide, fun c c0 c1 => ?_⟩
  have m12 := fmod_in c (show (0 : Int) < 12 by decide)
  and_intros
  dsimp only
  have hh : 1 ≤ 1 + c.fmod 12 ∧ 1 + c.fmod 12 ≤ 12 := by omega
  generalize 1 + c.fmod 12 = h' at hh ⊢
  obtain ⟨h, rfl⟩ : ∃ h : Nat, h' = (h : Int) := ⟨h'.toNat, by omega⟩
  refine ⟨p, ns, (h : Int), rfl, hS, h63, by omega, by omega, fun r s' st u v xs H1 s1 tl q1 q60 st1 st9 u0 uv g v9 pm => ?_⟩
  obtain ⟨l, t, o1, o2, o3⟩ := id tl
  rw [Int.toNat_natCast] at pm
  have v0 : 0 < v := by
    rcases (by omega : 0 < v ∨ v = 0) with z | z
    · exact z
    · have : u = 0 := by omega
      rw [z, this] at g
      exact absurd g (by decide)
  refine ⟨_, rfl, _, rfl, p, ns, 3, (h : Int), rfl, s1.seq hS, h63, rfl, by omega, by omega, fun sh ls H2 s2 e2 g2 l60 nS => ?_⟩
  rw [Int.toNat_natCast] at g2
  have nl := nS.l
  have l61 : ls.length ≤ 61 := by omega
  have p1 := s2 _ _ o1
  have p2 := s2 _ _ o2
  have p3 := s2 _ _ o3
  obtain ⟨m, rfl⟩ : ∃ m : Nat, s' = (m : Int) := ⟨s'.toNat, by omega⟩
  and_intros
  intro b hb
  have s23 := same_new hb (.lst (xs.map V.int))
  have e3' : (upd H2 b (.lst (xs.map V.int))) b = some (.lst (xs.map V.int)) := upd_same
  generalize upd H2 b (.lst (xs.map V.int)) = H3 at s23 e3' ⊢
  have p1' := s23 _ _ p1
  have pm' : xs.Perm (ups (h : Int).toNat) := by rw [Int.toNat_natCast]; exact pm
  and_intros
  intro a dx ha hdx ne
  have k1 : Same H3 (upd (upd H3 dx (.own a)) a (.ins ad.c_Lists dx [])) := (same_new hdx _).trans (same_new (by rw [upd_ne (Ne.symm ne)]; exact ha) _)
  refine ⟨a, ad.c_Lists, dx, b, t, (h : Int), (m : Int), u, v, st, xs, rfl, upd_same, T.cl_Lists, T.na_Lists_hands, T.na_Lists_seats, T.na_Lists_lots, T.na_Lists_hurdle, T.na_Lists_step, by omega, by omega, by omega, by omega, k1 _ _ e3', pm', k1 _ _ (s23 _ _ p3), u0, uv, g, st1, st9, fun l' H4 s3 e3 el => ?_⟩
  rw [off_upd] at s3
  have sH4 := (off_of (same_new hdx (.own a)) ha).trans s3
  refine ⟨rfl, ?_⟩
  have ilH4 : IsL ad.c_Lists H4 a (h : Int) (m : Int) st u v xs := ⟨dx, l', t, e3, el, sH4 _ _ (s23 _ _ p3)⟩
  clear e3 el s3 k1
  have s24 := s23.trans sH4
  have md : Made ad.c_Lists H4 a h m st u v xs := ⟨ilH4, pm, by omega, by omega, by omega, by omega, st1, st9, u0, uv, v0, v9⟩
  clear ilH4
  have e4 := s24 _ _ e2
  have g4 := g2.same s24
  have gu := g
  and_intros
  intro g dm hg hdm neg
  refine ⟨g, ad.c_ListsChecker, dm, a, rfl, upd_same, T.cl_ListsChecker, T.na_ListsChecker_way, fun H5 s5 e5 => ?_⟩
  rw [off_upd] at s5
  have sH5 := (off_of (same_new hdm (.own g)) hg).trans s5
  refine ⟨rfl, ?_⟩
  have im : IsM ad.c_ListsChecker H5 g a := ⟨dm, e5⟩
  have tl5 : Told H5 r (m : Int) st u v xs := ⟨l, t, (s2.trans (s24.trans sH5)) _ _ o1, (s2.trans (s24.trans sH5)) _ _ o2, (s2.trans (s24.trans sH5)) _ _ o3⟩
  replace md := md.same sH5
  replace e4 := sH5 _ _ e4
  replace g4 := g4.same sH5
  have s05 : Same H H5 := (s1.trans s2).trans (s24.trans sH5)
  clear s5 s24 sH5 s23 p1 p2 p3 e3' p1' sH4
  obtain ⟨dw, lw, tw, kw1, kw2, kw3⟩ := id md.is
  have h1 := md.h1
  have h12 := md.h12
  have sn := md.sane nl l61
  and_intros
  refine ⟨a, dw, _, rfl, kw1, rfl, ?_⟩
  and_intros
  intro c1 hc1
  have s6 := same_new hc1 (.lst (vls ls))
  have e6 : (upd H5 c1 (.lst (vls ls))) c1 = some (.lst (vls ls)) := upd_same
  generalize upd H5 c1 (.lst (vls ls)) = H6 at s6 e6 ⊢
  and_intros
  refine ⟨a, c1, h, m, st, u, v, xs, ls, rfl, md.same s6, e6, g4.same s6, l61, nl, fun pa H7 hpa s7 pp => ?_⟩
  have s57 := s6.trans s7
  have x4 := s57 _ _ e4
  and_intros
  refine ⟨a, dw, _, rfl, s57 _ _ kw1, rfl, ?_⟩
  and_intros
  intro c2 hc2
  have s8 := same_new hc2 (.lst (vls ls))
  have e8 : (upd H7 c2 (.lst (vls ls))) c2 = some (.lst (vls ls)) := upd_same
  generalize upd H7 c2 (.lst (vls ls)) = H8 at s8 e8 ⊢
  have s58 := s57.trans s8
  and_intros
  refine ⟨a, c2, h, m, st, u, v, xs, ls, rfl, md.same s58, e8, g4.same s58, l61, nl, fun o H9 ho s9 eo => ?_⟩
  have s79 := s8.trans s9
  have s59 := s57.trans s79
  have ol : (outOf ls xs u v st h m).length = h := hadAt_len ..
  and_intros
  refine ⟨pa, _, xs, _, st, h, m, rfl, pp.same s79, sn, fun kp va ra rs K1 H10 w1 hva ev hra w2 et er gr r60 eqr => ?_⟩
  have s10 := w1.trans w2
  have rk : Rep K H10 (.ref kp) (papD ls xs u v st h m) := by
    have z := rep_cD (K := K) et (w2 _ _ ev) er (fun q k => (gr q k).g)
    unfold cD at z
    rw [eqr] at z
    exact z
  have s5a := s59.trans s10
  have x5 := s5a _ _ e4
  clear et er gr r60 eqr hra hva ev w1 w2
  and_intros
  intro le hle
  have s11 := same_new hle (.lst (vls ls))
  have e11 : (upd H10 le (.lst (vls ls))) le = some (.lst (vls ls)) := upd_same
  generalize upd H10 le (.lst (vls ls)) = H11 at s11 e11 ⊢
  have s5b := s5a.trans s11
  have pb := pp.same (s79.trans (s10.trans s11))
  have eob := (s10.trans s11) _ _ eo
  replace rk := rk.same s11
  and_intros
  refine ⟨g, dm, _, rfl, s5b _ _ e5, rfl, ?_⟩
  and_intros
  refine ⟨g, a, le, pa, h, m, st, u, v, xs, ls, papD ls xs u v st h m, rfl, im.same s5b, md.same s5b, e11, g4.same s5b, l61, nl, pb.rep, shape_paper .., fun H12 s12 => ?_⟩
  rw [show PyData.eqv (papD ls xs u v st h m) (papD ls xs u v st h m) = true from eqv_paper ..]
  refine ⟨_, rfl, ?_⟩
  have s5c := s5b.trans s12
  have pc := pb.same s12
  have eoc := s12 _ _ eob
  and_intros
  refine ⟨g, dm, _, rfl, s5c _ _ e5, rfl, ?_⟩
  and_intros
  intro c3 hc3
  have s13 := same_new hc3 (.lst ((outOf ls xs u v st h m).map V.int))
  have e13 : (upd H12 c3 (.lst ((outOf ls xs u v st h m).map V.int))) c3 = some (.lst ((outOf ls xs u v st h m).map V.int)) := upd_same
  generalize upd H12 c3 (.lst ((outOf ls xs u v st h m).map V.int)) = H13 at s13 e13 ⊢
  have s5d := s5c.trans s13
  have e11d := (s12.trans s13) _ _ e11
  have pd := pc.same s13
  and_intros
  refine ⟨g, a, le, pa, c3, h, m, st, u, v, xs, outOf ls xs u v st h m, ls, papD ls xs u v st h m, rfl, im.same s5d, md.same s5d, e11d, g4.same s5d, l61, nl, pd.rep, shape_paper .., e13, (fun _ => pd), fun H14 s14 => ?_⟩
  rw [show PyData.eqv (papD ls xs u v st h m) (papD ls xs u v st h m) = true from eqv_paper .., decide_eq_true rfl]
  refine ⟨_, rfl, ?_⟩
  refine ⟨_, rfl, ifF rfl ?_⟩
  have s5e := s5d.trans s14
  have pe := pd.same s14
  and_intros
  refine ⟨p, ns, 3, rfl, (s05.trans s5e).seq hS, h63, by decide, by decide, fun d d0 d1 => ?_⟩
  and_intros
  refine ⟨d, 9, rfl, sz40 d0 d1, szd 64, fun z z0 z1 => ?_⟩
  have szz := sz18 z0 z1
  and_intros
  refine ⟨z, 11, rfl, szz.mono (by decide), szd 64, fun z2 z20 z21 => ?_⟩
  have m16 := fmod_in z2 (show (0 : Int) < 16 by decide)
  and_intros
  refine ⟨pa, _, z, h, m, _, xs, _, st, rfl, pe, sn, m16.1, m16.2, z0, szz, fun sp va ra vz y qs H15 s15 et ev er gr => ?_⟩
  have s5f := s5e.trans s15
  have rs' : Rep K H15 (.ref sp) (cD vz y qs) := rep_cD et ev er gr
  have s11f : Same H11 H15 := s12.trans (s13.trans (s14.trans s15))
  replace rk := rk.same s11f
  have pf := pe.same s15
  have e11f := s11f _ _ e11
  have eof := s11f _ _ eob
  clear et ev er gr
  refine ⟨fun σ' J => σ' = [some (.ref p), some (.int (h : Int)), some (.ref r), some (.ref sh), some (.ref a), some (.ref g), some (.ref pa), some (.ref o), some (.ref kp), some (.ref le), some (.int z), some (.ref sp), none, none] ∧ Same H15 J, ?_, ?_⟩
  · and_intros
    refine ⟨cD vz y qs, papD ls xs u v st h m, rs', rk, shape_cD .., shape_paper .., ?_⟩
    by_cases ce : PyData.eqv (cD vz y qs) (papD ls xs u v st h m) = true
    · refine ⟨_, rfl, ifF (by rw [ce]; rfl) ?_⟩
      exact ⟨rfl, fun _ _ e => e⟩
    · rw [Bool.not_eq_true] at ce
      refine ⟨_, rfl, ifT (by rw [ce]; rfl) ?_⟩
      and_intros
      refine ⟨g, dm, _, rfl, s5f _ _ e5, rfl, ?_⟩
      and_intros
      refine ⟨g, a, le, sp, h, m, st, u, v, xs, ls, cD vz y qs, rfl, im.same s5f, md.same s5f, e11f, g4.same s5f, l61, nl, rs', shape_cD .., fun J1 j1 => ?_⟩
      have t1 := s5f.trans j1
      rw [ce]
      refine ⟨_, rfl, ?_⟩
      and_intros
      refine ⟨g, dm, _, rfl, t1 _ _ e5, rfl, ?_⟩
      and_intros
      refine ⟨g, a, le, sp, o, h, m, st, u, v, xs, _, ls, cD vz y qs, rfl, im.same t1, md.same t1, j1 _ _ e11f, g4.same t1, l61, nl, rs'.same j1, shape_cD .., j1 _ _ eof, (fun z => absurd z (by rw [ce]; decide)), fun J2 j2 => ?_⟩
      rw [ce, Bool.false_and]
      refine ⟨_, rfl, ?_⟩
      refine ⟨_, rfl, ifF rfl ?_⟩
      exact ⟨rfl, j1.trans j2⟩
  rintro σ' J ⟨rfl, sJ⟩
  have t1 := s5f.trans sJ
  obtain ⟨lt, tt, a1, a2, a3⟩ := id tl5
  refine ⟨fun σ' J' => σ' = [some (.ref p), some (.int (h : Int)), some (.ref r), some (.ref sh), some (.ref a), some (.ref g), some (.ref pa), some (.ref o), some (.ref kp), some (.ref le), some (.int z), some (.ref sp), none, none] ∧ Same J J', ?_, ?_⟩
  · have m4 := fmod_in z (show (0 : Int) < 4 by decide)
    and_intros
    by_cases c4 : z.fmod 4 = 1
    · refine ifT (eq_t c4) ?_
      and_intros
      refine ⟨g, a, le, r, kp, h, m, st, u, v, xs, ls, rfl, im.same t1, md.same t1, by omega, gu, ⟨lt, tt, t1 _ _ a1, t1 _ _ a2, t1 _ _ a3⟩, sJ _ _ e11f, g4.same t1, l61, nl, rk.same sJ, fun J1 j1 => ?_⟩
      refine ⟨_, rfl, ifF rfl ?_⟩
      exact ⟨rfl, j1⟩
    · refine ifF (eq_f c4) (ifF rfl ?_)
      exact ⟨rfl, fun _ _ e => e⟩
  rintro σ' J' ⟨rfl, sJ'⟩
  have t2 := t1.trans sJ'
  have b1 := t2 _ _ a1
  have eo2 := (sJ.trans sJ') _ _ eof
  and_intros
  refine ⟨g, _, dm, _, _, rfl, t2 _ _ e5, T.cl_ListsChecker, T.ia_ListsChecker_Checker, ?_⟩
  and_intros
  refine ⟨g, _, dm, _, _, rfl, t2 _ _ e5, T.cl_ListsChecker, T.na_ListsChecker_way, rfl, ?_⟩
  refine ⟨a, _, dw, _, _, rfl, t2 _ _ kw1, T.cl_Lists, T.na_Lists_seats, rfl, ?_⟩
  and_intros
  refine ifF (ne_f rfl) ?_
  and_intros
  refine ⟨g, _, dm, _, _, rfl, t2 _ _ e5, T.cl_ListsChecker, T.na_ListsChecker_way, rfl, ?_⟩
  refine ⟨a, _, dw, _, _, rfl, t2 _ _ kw1, T.cl_Lists, T.na_Lists_hands, rfl, ?_⟩
  and_intros
  refine ifF (ne_f rfl) ?_
  and_intros
  intro wr hwr
  have j2 := same_new hwr (.lst ((outOf ls xs u v st h m).map V.int))
  have ew : (upd J' wr (.lst ((outOf ls xs u v st h m).map V.int))) wr = some (.lst ((outOf ls xs u v st h m).map V.int)) := upd_same
  generalize upd J' wr (.lst ((outOf ls xs u v st h m).map V.int)) = J2 at j2 ew ⊢
  have mh := fmod_in z (show (0 : Int) < (h : Int) by omega)
  obtain ⟨i, hi⟩ : ∃ i : Nat, z.fmod (h : Int) = (i : Int) := ⟨(z.fmod (h : Int)).toNat, by omega⟩
  and_intros
  refine ⟨(by show (_ : Int) ≠ 0; omega), ?_⟩
  dsimp only
  rw [hi]
  refine ⟨wr, _, _, _, rfl, rfl, SqL.of ew, atG8 (by omega), ?_⟩
  and_intros
  refine ⟨(by show (_ : Int) ≠ 0; omega), ?_⟩
  dsimp only
  rw [hi]
  refine ⟨wr, _, _, i, rfl, rfl, ew, ixN_nat (by rw [List.length_map]; omega), ?_⟩
  rw [int_set]
  have j3 : Same J' (upd J2 wr (.lst (((outOf ls xs u v st h m).set i ((outOf ls xs u v st h m).getD i 0 + 1)).map V.int))) := same_upd j2 hwr
  have ew3 : (upd J2 wr (.lst (((outOf ls xs u v st h m).set i ((outOf ls xs u v st h m).getD i 0 + 1)).map V.int))) wr = some (.lst (((outOf ls xs u v st h m).set i ((outOf ls xs u v st h m).getD i 0 + 1)).map V.int)) := upd_same
  generalize upd J2 wr (.lst (((outOf ls xs u v st h m).set i ((outOf ls xs u v st h m).getD i 0 + 1)).map V.int)) = J3 at j3 ew3 ⊢
  clear ew j2
  have t3 := t2.trans j3
  have f3 := sJ.trans (sJ'.trans j3)
  have pg := pf.same f3
  and_intros
  refine ⟨g, dm, _, rfl, t3 _ _ e5, rfl, ?_⟩
  and_intros
  refine ⟨g, a, le, pa, wr, h, m, st, u, v, xs, _, ls, papD ls xs u v st h m, rfl, im.same t3, md.same t3, f3 _ _ e11f, g4.same t3, l61, nl, pg.rep, shape_paper .., ew3, (fun _ => pg), fun J4 j4 => ?_⟩
  rw [decide_eq_false (bump_ne (by omega)), Bool.and_false]
  refine ⟨_, rfl, ?_⟩
  refine ⟨_, rfl, ifF rfl ?_⟩
  have t4 := t3.trans j4
  have f4 := f3.trans j4
  have x4' := t4 _ _ e4
  and_intros
  refine ⟨(by show 0 ≤ sizeLine; decide), fun u1 hu1 => ?_⟩
  have w1 := same_new hu1 (.tup [])
  have y1 : (upd J4 u1 (.tup [])) u1 = some (.tup []) := upd_same
  generalize upd J4 u1 (.tup []) = U1 at w1 y1 ⊢
  and_intros
  refine ⟨(by show 2 ≤ sizeLine; decide), fun u2 hu2 => ?_⟩
  have w2 := same_new hu2 (.tup [V.ref u1, V.int 1])
  have y2 : (upd U1 u2 (.tup [V.ref u1, V.int 1])) u2 = some (.tup [V.ref u1, V.int 1]) := upd_same
  generalize upd U1 u2 (.tup [V.ref u1, V.int 1]) = U2 at w2 y2 ⊢
  refine ⟨(by show 1 ≤ sizeLine; decide), fun u3 hu3 => ?_⟩
  have w3 := same_new hu3 (.lst [V.ref u2])
  have y3 : (upd U2 u3 (.lst [V.ref u2])) u3 = some (.lst [V.ref u2]) := upd_same
  generalize upd U2 u3 (.lst [V.ref u2]) = U3 at w3 y3 ⊢
  have w13 := w1.trans (w2.trans w3)
  have t5 := t4.trans w13
  have x5' := t5 _ _ e4
  and_intros
  refine ⟨⟨_, SqL.of x5'⟩, ?_⟩
  refine comp_list (xs := vls ls) (by rw [vls_len]; exact small63 (by omega)) (fun D i ys J => ∃ ms : Ls, ys = vls ms ∧ ms.length ≤ i ∧ (∀ q ∈ ms, q ∈ ls) ∧ J D = some (.lst ys) ∧ Same U3 J ∧ (ms.length = i → ms = ls.take i)) (fun D hD => ⟨[], rfl, Nat.le_refl _, (fun _ m => nomatch m), upd_same, same_new hD _, fun _ => rfl⟩) (fun D i ys J ⟨ms, f1, f2, _, f3, _⟩ => ⟨f3, by rw [f1, vls_len]; exact f2⟩) (fun D i ys J hD ⟨_, _, _, _, _, f5, _⟩ => SqL.of (f5 _ _ x5')) ?_ ?_
  · rintro D i y ys J K1 K2 hD hy ⟨ms, rfl, n2, n3, n4, n5, n6⟩ kk1 kk2
    obtain ⟨f, hf, rfl, fm, et⟩ := vls_get hy
    have s7' := t5.trans n5
    obtain ⟨q1, q2, q3⟩ := g4 f fm
    refine ⟨_, rfl, f.1, _, _, _, rfl, rfl, SqT.of (s7' _ _ q1), rfl, ?_⟩
    and_intros
    refine ⟨(by show 0 ≤ sizeLine; decide), fun u4 hu4 => ?_⟩
    have v1 := same_new hu4 (.tup [])
    have z4 : (upd J u4 (.tup [])) u4 = some (.tup []) := upd_same
    generalize upd J u4 (.tup []) = V1 at v1 z4 ⊢
    refine ⟨.tuple (f.2.2.1.map .int), .tuple (([] : List Int).map .int), .tup (SqT.of ((s7'.trans v1) _ _ q2)) (.ints _), .tup (SqT.of z4) .nil, (shape_ints _).1, (shape_ints _).1, ?_⟩
    rw [eqvT8]
    have n4' := v1 _ _ n4
    by_cases ce : f.2.2.1 = []
    · refine ⟨_, rfl, ifF (by rw [decide_eq_true ce]; rfl) ?_⟩
      exact kk2 _ ⟨ms, rfl, Nat.le_succ_of_le n2, n3, n4', n5.trans v1, fun z => by omega⟩
    · refine ⟨_, rfl, ifT (by rw [decide_eq_false ce]; rfl) ?_⟩
      refine ⟨_, rfl, ?_⟩
      refine kk1 _ _ n4' ⟨ms ++ [f], by unfold vls; rw [List.map_append]; rfl, by rw [List.length_append]; exact Nat.succ_le_succ n2, (fun q k => ?_), upd_same, same_upd (n5.trans v1) hD, fun z => ?_⟩
      · rcases List.mem_append.mp k with k | k
        · exact n3 q k
        · rw [List.mem_singleton.mp k]; exact fm
      · rw [n6 (by rw [List.length_append] at z; exact Nat.succ.inj z), et]
  rintro D ys J5 hD ⟨ms, rfl, n2, n3, n4, n5, n6⟩
  rw [vls_len] at n2 n6
  rw [List.take_of_length_le (Nat.le_refl _)] at n6
  refine ⟨u3, D, _, _, rfl, rfl, n5 _ _ y3, n4, (by rw [vls_len]; exact small63 (by show 1 + _ ≤ 1000; omega)), fun mo hmo => ?_⟩
  have v2 := same_new hmo (.lst ([V.ref u2] ++ vls ms))
  have em : (upd J5 mo (.lst ([V.ref u2] ++ vls ms))) mo = some (.lst (vls ((u2, u1, [], 1) :: ms))) := upd_same
  generalize upd J5 mo (.lst ([V.ref u2] ++ vls ms)) = J6 at v2 em ⊢
  have w6 : Same J4 J6 := w13.trans (n5.trans v2)
  have t6 := t4.trans w6
  have f6 := f4.trans w6
  have x6 := t6 _ _ e4
  have y26 := (w3.trans (n5.trans v2)) _ _ y2
  have y16 := (w2.trans (w3.trans (n5.trans v2))) _ _ y1
  refine ⟨fun σ' J => ∃ mo' : Addr, σ' = [some (.ref p), some (.int (h : Int)), some (.ref r), some (.ref sh), some (.ref a), some (.ref g), some (.ref pa), some (.ref o), some (.ref kp), some (.ref le), some (.int z), some (.ref sp), some (.ref wr), some (.ref mo')] ∧ Same J6 J, ?_, ?_⟩
  · have pg6 := pf.same f6
    and_intros
    by_cases c : ((vls ls).length : Int) < ((vls ((u2, u1, [], 1) :: ms)).length : Int)
    · refine ifT (decide_eq_true c) ?_
      have ml : ms = ls := n6 (by rw [vls_len, vls_len, List.length_cons] at c; omega)
      have gm : GoodL h J6 ((u2, u1, [], 1) :: ms) := fun q k => by
        rcases List.mem_cons.mp k with rfl | k
        · exact ⟨y26, y16, .inl rfl⟩
        · exact (g4.same t6) q (n3 q k)
      have nm : NumL ((u2, u1, [], 1) :: ms) := fun q k => by
        rcases List.mem_cons.mp k with rfl | k
        · exact ⟨by show (0 : Int) ≤ 1; decide, by show (1 : Int) ≤ _; decide⟩
        · exact nl q (n3 q k)
      and_intros
      refine ⟨g, dm, _, rfl, t6 _ _ e5, rfl, ?_⟩
      and_intros
      refine ⟨g, a, mo, pa, h, m, st, u, v, xs, (u2, u1, [], 1) :: ms, papD ls xs u v st h m, rfl, im.same t6, md.same t6, em, gm, (by rw [List.length_cons]; omega), nm, pg6.rep, shape_paper .., fun J7 j7 => ?_⟩
      rw [pap_ne (show total ls ≠ total ((u2, u1, [], 1) :: ms) from by rw [ml]; show total ls ≠ 1 + total ls; omega)]
      refine ⟨_, rfl, ?_⟩
      refine ⟨_, rfl, ifF rfl ?_⟩
      exact ⟨mo, rfl, j7⟩
    · refine ifF (decide_eq_false c) ?_
      have lne : ls ≠ [] := fun z => c (by rw [vls_len, vls_len, z, List.length_cons]; show ((0 : Nat) : Int) < _; omega)
      obtain ⟨f0, rest, le'⟩ := List.exists_cons_of_ne_nil lne
      have fm0 : f0 ∈ ls := by rw [le']; exact List.mem_cons_self ..
      obtain ⟨q1, q2, q3⟩ := g4 f0 fm0
      have nf := nS f0 fm0
      and_intros
      refine ⟨(by show 0 ≤ sizeLine; decide), fun u5 hu5 => ?_⟩
      have p1 := same_new hu5 (.tup [])
      have k1 : (upd J6 u5 (.tup [])) u5 = some (.tup []) := upd_same
      generalize upd J6 u5 (.tup []) = Y1 at p1 k1 ⊢
      have x7 := p1 _ _ x6
      and_intros
      refine ⟨sh, _, _, _, rfl, rfl, SqL.of x7, (show atI (vls ls) ((0 : Nat) : Int) = some (V.ref f0.1) from atI_nat (by rw [le']; rfl)), ?_⟩
      and_intros
      refine ⟨f0.1, _, _, _, rfl, rfl, SqT.of ((t6.trans p1) _ _ q1), rfl, ?_⟩
      and_intros
      refine ⟨(by show 2 ≤ sizeLine; decide), fun u6 hu6 => ?_⟩
      dsimp only
      have p2 := same_new hu6 (.tup [V.ref u5, V.int (f0.2.2.2 + 1)])
      have k2 : (upd Y1 u6 (.tup [V.ref u5, V.int (f0.2.2.2 + 1)])) u6 = some (.tup [V.ref u5, V.int (f0.2.2.2 + 1)]) := upd_same
      generalize upd Y1 u6 (.tup [V.ref u5, V.int (f0.2.2.2 + 1)]) = Y2 at p2 k2 ⊢
      refine ⟨(by show 1 ≤ sizeLine; decide), fun u7 hu7 => ?_⟩
      have p3 := same_new hu7 (.lst [V.ref u6])
      have k3 : (upd Y2 u7 (.lst [V.ref u6])) u7 = some (.lst [V.ref u6]) := upd_same
      generalize upd Y2 u7 (.lst [V.ref u6]) = Y3 at p3 k3 ⊢
      have x8 := (p2.trans p3) _ _ x7
      and_intros
      refine ⟨sh, _, rfl, SqL.of x8, fun c8 hc8 => ?_⟩
      rw [show cutV (vls ls) (some 1) none = vls rest from by show cutV (vls ls) (some ((1 : Nat) : Int)) none = _; rw [cut_drop8, le']; rfl]
      have p4 := same_new hc8 (.lst (vls rest))
      have k4 : (upd Y3 c8 (.lst (vls rest))) c8 = some (.lst (vls rest)) := upd_same
      generalize upd Y3 c8 (.lst (vls rest)) = Y4 at p4 k4 ⊢
      have rl : rest.length ≤ 60 := by rw [le', List.length_cons] at l60; omega
      refine ⟨u7, c8, _, _, rfl, rfl, p4 _ _ k3, k4, (by rw [vls_len]; exact small63 (by show 1 + _ ≤ 1000; omega)), fun m2 hm2 => ?_⟩
      have p5 := same_new hm2 (.lst ([V.ref u6] ++ vls rest))
      have em2 : (upd Y4 m2 (.lst ([V.ref u6] ++ vls rest))) m2 = some (.lst (vls ((u6, u5, [], f0.2.2.2 + 1) :: rest))) := upd_same
      generalize upd Y4 m2 (.lst ([V.ref u6] ++ vls rest)) = Y5 at p5 em2 ⊢
      have p25 := p3.trans (p4.trans p5)
      have p15 := p1.trans (p2.trans p25)
      have t8 := t6.trans p15
      have rin : ∀ q ∈ rest, q ∈ ls := fun q k => by rw [le']; exact List.mem_cons_of_mem _ k
      have gm : GoodL h Y5 ((u6, u5, [], f0.2.2.2 + 1) :: rest) := fun q k => by
        rcases List.mem_cons.mp k with rfl | k
        · exact ⟨p25 _ _ k2, (p2.trans p25) _ _ k1, .inl rfl⟩
        · exact (g4.same t8) q (rin q k)
      have nm : NumL ((u6, u5, [], f0.2.2.2 + 1) :: rest) := fun q k => by
        rcases List.mem_cons.mp k with rfl | k
        · exact ⟨by show 0 ≤ f0.2.2.2 + 1; omega, by show f0.2.2.2 + 1 ≤ _; omega⟩
        · exact nl q (rin q k)
      have pg8 := pg6.same p15
      and_intros
      refine ⟨g, dm, _, rfl, t8 _ _ e5, rfl, ?_⟩
      and_intros
      refine ⟨g, a, m2, pa, h, m, st, u, v, xs, (u6, u5, [], f0.2.2.2 + 1) :: rest, papD ls xs u v st h m, rfl, im.same t8, md.same t8, em2, gm, (by rw [List.length_cons]; omega), nm, pg8.rep, shape_paper .., fun J7 j7 => ?_⟩
      rw [pap_ne (show total ls ≠ total ((u6, u5, [], f0.2.2.2 + 1) :: rest) from by rw [le']; show f0.2.2.2 + total rest ≠ f0.2.2.2 + 1 + total rest; omega)]
      refine ⟨_, rfl, ?_⟩
      refine ⟨_, rfl, ifF rfl ?_⟩
      exact ⟨m2, rfl, p15.trans j7⟩
  rintro σ' J7 ⟨mo', rfl, s7x⟩
  have t7 := t6.trans s7x
  have f7 := f6.trans s7x
  have pz := pf.same f7
  and_intros
  refine ⟨papD ls xs u v st h m, papD ls xs u v st h m, pz.rep, rk.same f7, shape_paper .., shape_paper .., ?_⟩
  rw [show PyData.eqv (papD ls xs u v st h m) (papD ls xs u v st h m) = true from eqv_paper ..]
  refine ⟨_, rfl, ifT rfl ?_⟩
  and_intros
  refine ⟨.list (ls.map ld), .list (ls.map ld), .lst (SqL.of (f7 _ _ e11f)) (reps_ls (g4.same t7)), .lst (SqL.of (t7 _ _ e4)) (reps_ls (g4.same t7)), shape_ls _, shape_ls _, ?_⟩
  rw [show PyData.eqv (.list (ls.map ld)) (.list (ls.map ld)) = true from eqv_ls ls]
  refine ⟨_, rfl, ifT rfl ?_⟩
  and_intros
  refine ⟨g, dm, _, rfl, t7 _ _ e5, rfl, ?_⟩
  and_intros
  refine ⟨g, a, le, pa, o, h, m, st, u, v, xs, _, ls, papD ls xs u v st h m, rfl, im.same t7, md.same t7, f7 _ _ e11f, g4.same t7, l61, nl, pz.rep, shape_paper .., f7 _ _ eof, (fun _ => pz), fun J8 j8 => ?_⟩
  rw [show PyData.eqv (papD ls xs u v st h m) (papD ls xs u v st h m) = true from eqv_paper .., decide_eq_true rfl]
  exact ⟨_, rfl, q _⟩
end
theorem all_mk {l : PySem.W.OpenLaw} {w : World} {K : PySem.W.Frag} {h : Heap} {mg : Str → Option Value} {fa f1 f2 f3 f4 f5 f6 f7 f8 f9 f10 f11 f12 f13 f14 f15 f16 f17 f18 f19 f20 f21 f22 f23 f24 f25 f26 f27 f28 f29 f30 f31 f32 f33 f34 f35 f36 f37 f38 f39 f40 f41 f42 f43 f44 c_Lists c_Way c_ListsChecker c_Checker : Addr} (X : K.In h) (G : h.Ns mainGlobals mg) (hfa : mg "law" = some (.ref fa))
    {od1 an1 od2 an2 od3 an3 od4 an4 od5 an5 od6 an6 od7 an7 od8 an8 od9 an9 od10 an10 od11 an11 od12 an12 od13 an13 od14 an14 od15 an15 od16 an16 od17 an17 od18 an18 od19 an19 od20 an20 od21 an21 od22 an22 od23 an23 od24 an24 od25 an25 od26 an26 od27 an27 od28 an28 od29 an29 od30 an30 od31 an31 od32 an32 od33 an33 od34 an34 od35 an35 od36 an36 od37 an37 od38 an38 od39 an39 od40 an40 od41 an41 od42 an42 od43 an43 od44 an44 : Option Addr} {sl1 sl2 sl3 sl4 sl5 sl6 sl7 sl8 sl9 sl10 sl11 sl12 sl13 sl14 sl15 sl16 sl17 sl18 sl19 sl20 sl21 sl22 sl23 sl24 sl25 sl26 sl27 sl28 sl29 sl30 sl31 sl32 sl33 sl34 sl35 sl36 sl37 sl38 sl39 sl40 sl41 sl42 sl43 sl44 : Array (Option Value)} {oc1 kV1 dc1 pm1 cd1 ct1 oc2 kV2 dc2 pm2 cd2 ct2 oc3 kV3 dc3 pm3 cd3 ct3 oc4 kV4 dc4 pm4 cd4 ct4 oc5 kV5 dc5 pm5 cd5 ct5 oc6 kV6 dc6 pm6 cd6 ct6 oc7 kV7 dc7 pm7 cd7 ct7 oc8 kV8 dc8 pm8 cd8 ct8 oc9 kV9 dc9 pm9 cd9 ct9 oc10 kV10 dc10 pm10 cd10 ct10 oc11 kV11 dc11 pm11 cd11 ct11 oc12 kV12 dc12 pm12 cd12 ct12 oc13 kV13 dc13 pm13 cd13 ct13 oc14 kV14 dc14 pm14 cd14 ct14 oc15 kV15 dc15 pm15 cd15 ct15 oc16 kV16 dc16 pm16 cd16 ct16 oc17 kV17 dc17 pm17 cd17 ct17 oc18 kV18 dc18 pm18 cd18 ct18 oc19 kV19 dc19 pm19 cd19 ct19 oc20 kV20 dc20 pm20 cd20 ct20 oc21 kV21 dc21 pm21 cd21 ct21 oc22 kV22 dc22 pm22 cd22 ct22 oc23 kV23 dc23 pm23 cd23 ct23 oc24 kV24 dc24 pm24 cd24 ct24 oc25 kV25 dc25 pm25 cd25 ct25 oc26 kV26 dc26 pm26 cd26 ct26 oc27 kV27 dc27 pm27 cd27 ct27 oc28 kV28 dc28 pm28 cd28 ct28 oc29 kV29 dc29 pm29 cd29 ct29 oc30 kV30 dc30 pm30 cd30 ct30 oc31 kV31 dc31 pm31 cd31 ct31 oc32 kV32 dc32 pm32 cd32 ct32 oc33 kV33 dc33 pm33 cd33 ct33 oc34 kV34 dc34 pm34 cd34 ct34 oc35 kV35 dc35 pm35 cd35 ct35 oc36 kV36 dc36 pm36 cd36 ct36 oc37 kV37 dc37 pm37 cd37 ct37 oc38 kV38 dc38 pm38 cd38 ct38 oc39 kV39 dc39 pm39 cd39 ct39 oc40 kV40 dc40 pm40 cd40 ct40 oc41 kV41 dc41 pm41 cd41 ct41 oc42 kV42 dc42 pm42 cd42 ct42 oc43 kV43 dc43 pm43 cd43 ct43 oc44 kV44 dc44 pm44 cd44 ct44 : Value} {dT32 : Addr} {dcl32 : Value} {ddi32 : Option Addr} {dn32 : Nat} {dsl32 : Array (Option Value)} {dT35 : Addr} {dcl35 : Value} {ddi35 : Option Addr} {dn35 : Nat} {dsl35 : Array (Option Value)} {td_Lists_init2 : Tok} {t_MOST_HANDS t_MOST_SEATS t_MOST_STEP : Tok}
    (a1 : PySem.W.nsIn K mainGlobals "is_whole" = some (some (.ref f1)))
    (l1 : K.lookup f1 = some ⟨oc1, od1, .func (PySem.W.fnOf "is_whole" "is_whole" (defArgs s_is_whole) (defBody s_is_whole) (defScope s_is_whole) .none kV1 dc1 pm1 an1 cd1 ct1), sl1⟩) (c1 : PySem.W.codeIn K cd1 "is_whole" = true) (k1 : PySem.W.keepIn K (.ref f1) = true)
    (a2 : PySem.W.nsIn K mainGlobals "divisor" = some (some (.ref f2)))
    (l2 : K.lookup f2 = some ⟨oc2, od2, .func (PySem.W.fnOf "divisor" "divisor" (defArgs s_divisor) (defBody s_divisor) (defScope s_divisor) .none kV2 dc2 pm2 an2 cd2 ct2), sl2⟩) (c2 : PySem.W.codeIn K cd2 "divisor" = true) (k2 : PySem.W.keepIn K (.ref f2) = true)
    (a3 : PySem.W.nsIn K mainGlobals "up" = some (some (.ref f3)))
    (l3 : K.lookup f3 = some ⟨oc3, od3, .func (PySem.W.fnOf "up" "up" (defArgs s_up) (defBody s_up) (defScope s_up) .none kV3 dc3 pm3 an3 cd3 ct3), sl3⟩) (c3 : PySem.W.codeIn K cd3 "up" = true) (k3 : PySem.W.keepIn K (.ref f3) = true)
    (a4 : PySem.W.nsIn K mainGlobals "under" = some (some (.ref f4)))
    (l4 : K.lookup f4 = some ⟨oc4, od4, .func (PySem.W.fnOf "under" "under" (defArgs s_under) (defBody s_under) (defScope s_under) .none kV4 dc4 pm4 an4 cd4 ct4), sl4⟩) (c4 : PySem.W.codeIn K cd4 "under" = true) (k4 : PySem.W.keepIn K (.ref f4) = true)
    (a5 : PySem.W.nsIn K mainGlobals "members" = some (some (.ref f5)))
    (l5 : K.lookup f5 = some ⟨oc5, od5, .func (PySem.W.fnOf "members" "members" (defArgs s_members) (defBody s_members) (defScope s_members) .none kV5 dc5 pm5 an5 cd5 ct5), sl5⟩) (c5 : PySem.W.codeIn K cd5 "members" = true) (k5 : PySem.W.keepIn K (.ref f5) = true)
    (a6 : PySem.W.nsIn K mainGlobals "ballots_in" = some (some (.ref f6)))
    (l6 : K.lookup f6 = some ⟨oc6, od6, .func (PySem.W.fnOf "ballots_in" "ballots_in" (defArgs s_ballots_in) (defBody s_ballots_in) (defScope s_ballots_in) .none kV6 dc6 pm6 an6 cd6 ct6), sl6⟩) (c6 : PySem.W.codeIn K cd6 "ballots_in" = true) (k6 : PySem.W.keepIn K (.ref f6) = true)
    (a7 : PySem.W.nsIn K mainGlobals "_law_cell" = some (some (.ref f7)))
    (l7 : K.lookup f7 = some ⟨oc7, od7, .func (PySem.W.fnOf "_law_cell" "_law_cell" (defArgs s_law_cell) (defBody s_law_cell) (defScope s_law_cell) .none kV7 dc7 pm7 an7 cd7 ct7), sl7⟩) (c7 : PySem.W.codeIn K cd7 "_law_cell" = true) (k7 : PySem.W.keepIn K (.ref f7) = true)
    (a8 : PySem.W.nsIn K mainGlobals "_law_mixed" = some (some (.ref f8)))
    (l8 : K.lookup f8 = some ⟨oc8, od8, .func (PySem.W.fnOf "_law_mixed" "_law_mixed" (defArgs s_law_mixed) (defBody s_law_mixed) (defScope s_law_mixed) .none kV8 dc8 pm8 an8 cd8 ct8), sl8⟩) (c8 : PySem.W.codeIn K cd8 "_law_mixed" = true) (k8 : PySem.W.keepIn K (.ref f8) = true)
    (a9 : PySem.W.nsIn K mainGlobals "_law_divisor" = some (some (.ref f9)))
    (l9 : K.lookup f9 = some ⟨oc9, od9, .func (PySem.W.fnOf "_law_divisor" "_law_divisor" (defArgs s_law_divisor) (defBody s_law_divisor) (defScope s_law_divisor) .none kV9 dc9 pm9 an9 cd9 ct9), sl9⟩) (c9 : PySem.W.codeIn K cd9 "_law_divisor" = true) (k9 : PySem.W.keepIn K (.ref f9) = true)
    (a10 : PySem.W.nsIn K mainGlobals "_law_copy" = some (some (.ref f10)))
    (l10 : K.lookup f10 = some ⟨oc10, od10, .func (PySem.W.fnOf "_law_copy" "_law_copy" (defArgs s_law_copy) (defBody s_law_copy) (defScope s_law_copy) .none kV10 dc10 pm10 an10 cd10 ct10), sl10⟩) (c10 : PySem.W.codeIn K cd10 "_law_copy" = true) (k10 : PySem.W.keepIn K (.ref f10) = true)
    (a11 : PySem.W.nsIn K mainGlobals "_law_mark" = some (some (.ref f11)))
    (l11 : K.lookup f11 = some ⟨oc11, od11, .func (PySem.W.fnOf "_law_mark" "_law_mark" (defArgs s_law_mark) (defBody s_law_mark) (defScope s_law_mark) .none kV11 dc11 pm11 an11 cd11 ct11), sl11⟩) (c11 : PySem.W.codeIn K cd11 "_law_mark" = true) (k11 : PySem.W.keepIn K (.ref f11) = true)
    (l12 : K.lookup f12 = some ⟨oc12, od12, .func (PySem.W.fnOf "__init__" "Checker.__init__" (defArgs s_Checker_init) (defBody s_Checker_init) (defScope s_Checker_init) .none kV12 dc12 pm12 an12 cd12 ct12), sl12⟩) (c12 : PySem.W.codeIn K cd12 "Checker.__init__" = true) (k12 : PySem.W.keepIn K (.ref f12) = true)
    (l13 : K.lookup f13 = some ⟨oc13, od13, .func (PySem.W.fnOf "told_by" "Lists.told_by" (defArgs s_Lists_told_by) (defBody s_Lists_told_by) (defScope s_Lists_told_by) .none kV13 dc13 pm13 an13 cd13 ct13), sl13⟩) (c13 : PySem.W.codeIn K cd13 "Lists.told_by" = true) (k13 : PySem.W.keepIn K (.ref f13) = true)
    (a14 : PySem.W.nsIn K mainGlobals "are_hands" = some (some (.ref f14)))
    (l14 : K.lookup f14 = some ⟨oc14, od14, .func (PySem.W.fnOf "are_hands" "are_hands" (defArgs s_are_hands) (defBody s_are_hands) (defScope s_are_hands) .none kV14 dc14 pm14 an14 cd14 ct14), sl14⟩) (c14 : PySem.W.codeIn K cd14 "are_hands" = true) (k14 : PySem.W.keepIn K (.ref f14) = true)
    (a15 : PySem.W.nsIn K mainGlobals "are_seats" = some (some (.ref f15)))
    (l15 : K.lookup f15 = some ⟨oc15, od15, .func (PySem.W.fnOf "are_seats" "are_seats" (defArgs s_are_seats) (defBody s_are_seats) (defScope s_are_seats) .none kV15 dc15 pm15 an15 cd15 ct15), sl15⟩) (c15 : PySem.W.codeIn K cd15 "are_seats" = true) (k15 : PySem.W.keepIn K (.ref f15) = true)
    (a16 : PySem.W.nsIn K mainGlobals "are_lots" = some (some (.ref f16)))
    (l16 : K.lookup f16 = some ⟨oc16, od16, .func (PySem.W.fnOf "are_lots" "are_lots" (defArgs s_are_lots) (defBody s_are_lots) (defScope s_are_lots) .none kV16 dc16 pm16 an16 cd16 ct16), sl16⟩) (c16 : PySem.W.codeIn K cd16 "are_lots" = true) (k16 : PySem.W.keepIn K (.ref f16) = true)
    (a17 : PySem.W.nsIn K mainGlobals "fraction" = some (some (.ref f17)))
    (l17 : K.lookup f17 = some ⟨oc17, od17, .func (PySem.W.fnOf "fraction" "fraction" (defArgs s_fraction) (defBody s_fraction) (defScope s_fraction) .none kV17 dc17 pm17 an17 cd17 ct17), sl17⟩) (c17 : PySem.W.codeIn K cd17 "fraction" = true) (k17 : PySem.W.keepIn K (.ref f17) = true)
    (a18 : PySem.W.nsIn K mainGlobals "vote_of" = some (some (.ref f18)))
    (l18 : K.lookup f18 = some ⟨oc18, od18, .func (PySem.W.fnOf "vote_of" "vote_of" (defArgs s_vote_of) (defBody s_vote_of) (defScope s_vote_of) .none kV18 dc18 pm18 an18 cd18 ct18), sl18⟩) (c18 : PySem.W.codeIn K cd18 "vote_of" = true) (k18 : PySem.W.keepIn K (.ref f18) = true)
    (a19 : PySem.W.nsIn K mainGlobals "is_hurdle" = some (some (.ref f19)))
    (l19 : K.lookup f19 = some ⟨oc19, od19, .func (PySem.W.fnOf "is_hurdle" "is_hurdle" (defArgs s_is_hurdle) (defBody s_is_hurdle) (defScope s_is_hurdle) .none kV19 dc19 pm19 an19 cd19 ct19), sl19⟩) (c19 : PySem.W.codeIn K cd19 "is_hurdle" = true) (k19 : PySem.W.keepIn K (.ref f19) = true)
    (a20 : PySem.W.nsIn K mainGlobals "is_step" = some (some (.ref f20)))
    (l20 : K.lookup f20 = some ⟨oc20, od20, .func (PySem.W.fnOf "is_step" "is_step" (defArgs s_is_step) (defBody s_is_step) (defScope s_is_step) .none kV20 dc20 pm20 an20 cd20 ct20), sl20⟩) (c20 : PySem.W.codeIn K cd20 "is_step" = true) (k20 : PySem.W.keepIn K (.ref f20) = true)
    (a21 : PySem.W.nsIn K mainGlobals "_law_lowest" = some (some (.ref f21)))
    (l21 : K.lookup f21 = some ⟨oc21, od21, .func (PySem.W.fnOf "_law_lowest" "_law_lowest" (defArgs s_law_lowest) (defBody s_law_lowest) (defScope s_law_lowest) .none kV21 dc21 pm21 an21 cd21 ct21), sl21⟩) (c21 : PySem.W.codeIn K cd21 "_law_lowest" = true) (k21 : PySem.W.keepIn K (.ref f21) = true)
    (a22 : PySem.W.nsIn K mainGlobals "_law_slip" = some (some (.ref f22)))
    (l22 : K.lookup f22 = some ⟨oc22, od22, .func (PySem.W.fnOf "_law_slip" "_law_slip" (defArgs s_law_slip) (defBody s_law_slip) (defScope s_law_slip) .none kV22 dc22 pm22 an22 cd22 ct22), sl22⟩) (c22 : PySem.W.codeIn K cd22 "_law_slip" = true) (k22 : PySem.W.keepIn K (.ref f22) = true)
    (a23 : PySem.W.nsIn K mainGlobals "_law_number" = some (some (.ref f23)))
    (l23 : K.lookup f23 = some ⟨oc23, od23, .func (PySem.W.fnOf "_law_number" "_law_number" (defArgs s_law_number) (defBody s_law_number) (defScope s_law_number) .none kV23 dc23 pm23 an23 cd23 ct23), sl23⟩) (c23 : PySem.W.codeIn K cd23 "_law_number" = true) (k23 : PySem.W.keepIn K (.ref f23) = true)
    (a24 : PySem.W.nsIn K mainGlobals "_law_lots" = some (some (.ref f24)))
    (l24 : K.lookup f24 = some ⟨oc24, od24, .func (PySem.W.fnOf "_law_lots" "_law_lots" (defArgs s_law_lots) (defBody s_law_lots) (defScope s_law_lots) .none kV24 dc24 pm24 an24 cd24 ct24), sl24⟩) (c24 : PySem.W.codeIn K cd24 "_law_lots" = true) (k24 : PySem.W.keepIn K (.ref f24) = true)
    (a25 : PySem.W.nsIn K mainGlobals "_law_rounds" = some (some (.ref f25)))
    (l25 : K.lookup f25 = some ⟨oc25, od25, .func (PySem.W.fnOf "_law_rounds" "_law_rounds" (defArgs s_law_rounds) (defBody s_law_rounds) (defScope s_law_rounds) .none kV25 dc25 pm25 an25 cd25 ct25), sl25⟩) (c25 : PySem.W.codeIn K cd25 "_law_rounds" = true) (k25 : PySem.W.keepIn K (.ref f25) = true)
    (l26 : K.lookup f26 = some ⟨oc26, od26, .func (PySem.W.fnOf "least_votes" "Lists.least_votes" (defArgs s_Lists_least_votes) (defBody s_Lists_least_votes) (defScope s_Lists_least_votes) .none kV26 dc26 pm26 an26 cd26 ct26), sl26⟩) (c26 : PySem.W.codeIn K cd26 "Lists.least_votes" = true) (k26 : PySem.W.keepIn K (.ref f26) = true)
    (l27 : K.lookup f27 = some ⟨oc27, od27, .func (PySem.W.fnOf "greatest_mark" "Lists.greatest_mark" (defArgs s_Lists_greatest_mark) (defBody s_Lists_greatest_mark) (defScope s_Lists_greatest_mark) .none kV27 dc27 pm27 an27 cd27 ct27), sl27⟩) (c27 : PySem.W.codeIn K cd27 "Lists.greatest_mark" = true) (k27 : PySem.W.keepIn K (.ref f27) = true)
    (a28 : PySem.W.nsIn K mainGlobals "votes_of" = some (some (.ref f28)))
    (l28 : K.lookup f28 = some ⟨oc28, od28, .func (PySem.W.fnOf "votes_of" "votes_of" (defArgs s_votes_of) (defBody s_votes_of) (defScope s_votes_of) .none kV28 dc28 pm28 an28 cd28 ct28), sl28⟩) (c28 : PySem.W.codeIn K cd28 "votes_of" = true) (k28 : PySem.W.keepIn K (.ref f28) = true)
    (a29 : PySem.W.nsIn K mainGlobals "_law_sheet" = some (some (.ref f29)))
    (l29 : K.lookup f29 = some ⟨oc29, od29, .func (PySem.W.fnOf "_law_sheet" "_law_sheet" (defArgs s_law_sheet) (defBody s_law_sheet) (defScope s_law_sheet) .none kV29 dc29 pm29 an29 cd29 ct29), sl29⟩) (c29 : PySem.W.codeIn K cd29 "_law_sheet" = true) (k29 : PySem.W.keepIn K (.ref f29) = true)
    (a30 : PySem.W.nsIn K mainGlobals "_law_hurdle" = some (some (.ref f30)))
    (l30 : K.lookup f30 = some ⟨oc30, od30, .func (PySem.W.fnOf "_law_hurdle" "_law_hurdle" (defArgs s_law_hurdle) (defBody s_law_hurdle) (defScope s_law_hurdle) .none kV30 dc30 pm30 an30 cd30 ct30), sl30⟩) (c30 : PySem.W.codeIn K cd30 "_law_hurdle" = true) (k30 : PySem.W.keepIn K (.ref f30) = true)
    (a31 : PySem.W.nsIn K mainGlobals "_law_spoilt" = some (some (.ref f31)))
    (l31 : K.lookup f31 = some ⟨oc31, od31, .func (PySem.W.fnOf "_law_spoilt" "_law_spoilt" (defArgs s_law_spoilt) (defBody s_law_spoilt) (defScope s_law_spoilt) .none kV31 dc31 pm31 an31 cd31 ct31), sl31⟩) (c31 : PySem.W.codeIn K cd31 "_law_spoilt" = true) (k31 : PySem.W.keepIn K (.ref f31) = true)
    (l32 : K.lookup f32 = some ⟨oc32, od32, .func (PySem.W.fnOf "__init__" "Way.__init__" (defArgs s_Way_init) (defBody s_Way_init) (defScope s_Way_init) (.ref dT32) kV32 dc32 pm32 an32 cd32 ct32), sl32⟩) (c32 : PySem.W.codeIn K cd32 "Way.__init__" = true) (k32 : PySem.W.keepIn K (.ref f32) = true)
    (dl32 : K.lookup dT32 = some ⟨dcl32, ddi32, .seq #[.none] dn32, dsl32⟩)
    (l33 : K.lookup f33 = some ⟨oc33, od33, .func (PySem.W.fnOf "mark" "Lists.mark" (defArgs s_Lists_mark) (defBody s_Lists_mark) (defScope s_Lists_mark) .none kV33 dc33 pm33 an33 cd33 ct33), sl33⟩) (c33 : PySem.W.codeIn K cd33 "Lists.mark" = true) (k33 : PySem.W.keepIn K (.ref f33) = true)
    (a34 : PySem.W.nsIn K mainGlobals "_law_way" = some (some (.ref f34)))
    (l34 : K.lookup f34 = some ⟨oc34, od34, .func (PySem.W.fnOf "_law_way" "_law_way" (defArgs s_law_way) (defBody s_law_way) (defScope s_law_way) .none kV34 dc34 pm34 an34 cd34 ct34), sl34⟩) (c34 : PySem.W.codeIn K cd34 "_law_way" = true) (k34 : PySem.W.keepIn K (.ref f34) = true)
    (l35 : K.lookup f35 = some ⟨oc35, od35, .func (PySem.W.fnOf "__init__" "Lists.__init__" (defArgs s_Lists_init) (defBody s_Lists_init) (defScope s_Lists_init) (.ref dT35) kV35 dc35 pm35 an35 cd35 ct35), sl35⟩) (c35 : PySem.W.codeIn K cd35 "Lists.__init__" = true) (k35 : PySem.W.keepIn K (.ref f35) = true)
    (dl35 : K.lookup dT35 = some ⟨dcl35, ddi35, .seq #[.none, .none, .int (1) td_Lists_init2] dn35, dsl35⟩)
    (l36 : K.lookup f36 = some ⟨oc36, od36, .func (PySem.W.fnOf "mark_or_none" "Lists.mark_or_none" (defArgs s_Lists_mark_or_none) (defBody s_Lists_mark_or_none) (defScope s_Lists_mark_or_none) .none kV36 dc36 pm36 an36 cd36 ct36), sl36⟩) (c36 : PySem.W.codeIn K cd36 "Lists.mark_or_none" = true) (k36 : PySem.W.keepIn K (.ref f36) = true)
    (l37 : K.lookup f37 = some ⟨oc37, od37, .func (PySem.W.fnOf "marks_of" "Lists.marks_of" (defArgs s_Lists_marks_of) (defBody s_Lists_marks_of) (defScope s_Lists_marks_of) .none kV37 dc37 pm37 an37 cd37 ct37), sl37⟩) (c37 : PySem.W.codeIn K cd37 "Lists.marks_of" = true) (k37 : PySem.W.keepIn K (.ref f37) = true)
    (l38 : K.lookup f38 = some ⟨oc38, od38, .func (PySem.W.fnOf "rounds_of" "Lists.rounds_of" (defArgs s_Lists_rounds_of) (defBody s_Lists_rounds_of) (defScope s_Lists_rounds_of) .none kV38 dc38 pm38 an38 cd38 ct38), sl38⟩) (c38 : PySem.W.codeIn K cd38 "Lists.rounds_of" = true) (k38 : PySem.W.keepIn K (.ref f38) = true)
    (l39 : K.lookup f39 = some ⟨oc39, od39, .func (PySem.W.fnOf "counted" "Lists.counted" (defArgs s_Lists_counted) (defBody s_Lists_counted) (defScope s_Lists_counted) .none kV39 dc39 pm39 an39 cd39 ct39), sl39⟩) (c39 : PySem.W.codeIn K cd39 "Lists.counted" = true) (k39 : PySem.W.keepIn K (.ref f39) = true)
    (l40 : K.lookup f40 = some ⟨oc40, od40, .func (PySem.W.fnOf "outcome" "Way.outcome" (defArgs s_Way_outcome) (defBody s_Way_outcome) (defScope s_Way_outcome) .none kV40 dc40 pm40 an40 cd40 ct40), sl40⟩) (c40 : PySem.W.codeIn K cd40 "Way.outcome" = true) (k40 : PySem.W.keepIn K (.ref f40) = true)
    (l41 : K.lookup f41 = some ⟨oc41, od41, .func (PySem.W.fnOf "right" "ListsChecker.right" (defArgs s_ListsChecker_right) (defBody s_ListsChecker_right) (defScope s_ListsChecker_right) .none kV41 dc41 pm41 an41 cd41 ct41), sl41⟩) (c41 : PySem.W.codeIn K cd41 "ListsChecker.right" = true) (k41 : PySem.W.keepIn K (.ref f41) = true)
    (l42 : K.lookup f42 = some ⟨oc42, od42, .func (PySem.W.fnOf "passes" "Checker.passes" (defArgs s_Checker_passes) (defBody s_Checker_passes) (defScope s_Checker_passes) .none kV42 dc42 pm42 an42 cd42 ct42), sl42⟩) (c42 : PySem.W.codeIn K cd42 "Checker.passes" = true) (k42 : PySem.W.keepIn K (.ref f42) = true)
    (a43 : PySem.W.nsIn K mainGlobals "_law_longer_let_by" = some (some (.ref f43)))
    (l43 : K.lookup f43 = some ⟨oc43, od43, .func (PySem.W.fnOf "_law_longer_let_by" "_law_longer_let_by" (defArgs s_law_longer_let_by) (defBody s_law_longer_let_by) (defScope s_law_longer_let_by) .none kV43 dc43 pm43 an43 cd43 ct43), sl43⟩) (c43 : PySem.W.codeIn K cd43 "_law_longer_let_by" = true) (k43 : PySem.W.keepIn K (.ref f43) = true)
    (a44 : PySem.W.nsIn K mainGlobals "law" = some (some (.ref f44)))
    (l44 : K.lookup f44 = some ⟨oc44, od44, .func (PySem.W.fnOf "law" "law" (defArgs s_law) (defBody s_law) (defScope s_law) .none kV44 dc44 pm44 an44 cd44 ct44), sl44⟩) (c44 : PySem.W.codeIn K cd44 "law" = true) (k44 : PySem.W.keepIn K (.ref f44) = true)
    (z0 : PySem.W.nsIn K mainGlobals "abs" = some none)
    (z1 : PySem.W.nsIn K mainGlobals "all" = some none)
    (z2 : PySem.W.nsIn K mainGlobals "bool" = some none)
    (z3 : PySem.W.nsIn K mainGlobals "int" = some none)
    (z4 : PySem.W.nsIn K mainGlobals "isinstance" = some none)
    (z5 : PySem.W.nsIn K mainGlobals "len" = some none)
    (z6 : PySem.W.nsIn K mainGlobals "list" = some none)
    (z7 : PySem.W.nsIn K mainGlobals "max" = some none)
    (z8 : PySem.W.nsIn K mainGlobals "min" = some none)
    (z9 : PySem.W.nsIn K mainGlobals "range" = some none)
    (z10 : PySem.W.nsIn K mainGlobals "reversed" = some none)
    (z11 : PySem.W.nsIn K mainGlobals "sorted" = some none)
    (z12 : PySem.W.nsIn K mainGlobals "sum" = some none)
    (z13 : PySem.W.nsIn K mainGlobals "tuple" = some none)
    (kc_MOST_HANDS : PySem.W.nsIn K mainGlobals "MOST_HANDS" = some (some (.int 12 t_MOST_HANDS)))
    (kc_MOST_SEATS : PySem.W.nsIn K mainGlobals "MOST_SEATS" = some (some (.int 60 t_MOST_SEATS)))
    (kc_MOST_STEP : PySem.W.nsIn K mainGlobals "MOST_STEP" = some (some (.int 9 t_MOST_STEP)))
    (mc_Lists : PySem.W.nsIn K mainGlobals "Lists" = some (some (.ref c_Lists))) (pg_Lists : PySem.W.plainGet K c_Lists Str.empty = true) (hd_Lists : PySem.W.hasDictIn K c_Lists = true) (po_Lists : PySem.W.plainOver K c_Lists = true) (sa_Lists : PySem.W.findIn K (.ref c_Lists) "__setattr__" = some (some (.builtin "object.__setattr__")))
    (mm_Lists : PySem.W.makesIn K c_Lists = true) (mi_Lists : PySem.W.findIn K (.ref c_Lists) "__init__" = some (some (.ref f35))) (mf_Lists : PySem.W.isFn K (.ref f35) = true) (mk_Lists : PySem.W.keepIn K (.ref c_Lists) = true)
    (ma_Lists_least_votes : PySem.W.findIn K (.ref c_Lists) "least_votes" = some (some (.ref f26))) (mn_Lists_least_votes : PySem.W.isFn K (.ref f26) = true)
    (ma_Lists_mark : PySem.W.findIn K (.ref c_Lists) "mark" = some (some (.ref f33))) (mn_Lists_mark : PySem.W.isFn K (.ref f33) = true)
    (ma_Lists_mark_or_none : PySem.W.findIn K (.ref c_Lists) "mark_or_none" = some (some (.ref f36))) (mn_Lists_mark_or_none : PySem.W.isFn K (.ref f36) = true)
    (ma_Lists_marks_of : PySem.W.findIn K (.ref c_Lists) "marks_of" = some (some (.ref f37))) (mn_Lists_marks_of : PySem.W.isFn K (.ref f37) = true)
    (ma_Lists_greatest_mark : PySem.W.findIn K (.ref c_Lists) "greatest_mark" = some (some (.ref f27))) (mn_Lists_greatest_mark : PySem.W.isFn K (.ref f27) = true)
    (ma_Lists_rounds_of : PySem.W.findIn K (.ref c_Lists) "rounds_of" = some (some (.ref f38))) (mn_Lists_rounds_of : PySem.W.isFn K (.ref f38) = true)
    (ma_Lists_counted : PySem.W.findIn K (.ref c_Lists) "counted" = some (some (.ref f39))) (mn_Lists_counted : PySem.W.isFn K (.ref f39) = true)
    (ma_Lists_told_by : PySem.W.findIn K (.ref c_Lists) "told_by" = some (some (.ref f13))) (mn_Lists_told_by : PySem.W.isFn K (.ref f13) = true)
    (ma_Lists_outcome : PySem.W.findIn K (.ref c_Lists) "outcome" = some (some (.ref f40))) (mn_Lists_outcome : PySem.W.isFn K (.ref f40) = true)
    (na_Lists_hands : PySem.W.findIn K (.ref c_Lists) "hands" = some none)
    (na_Lists_seats : PySem.W.findIn K (.ref c_Lists) "seats" = some none)
    (na_Lists_lots : PySem.W.findIn K (.ref c_Lists) "lots" = some none)
    (na_Lists_hurdle : PySem.W.findIn K (.ref c_Lists) "hurdle" = some none)
    (na_Lists_step : PySem.W.findIn K (.ref c_Lists) "step" = some none)
    (mc_Way : PySem.W.nsIn K mainGlobals "Way" = some (some (.ref c_Way))) (pg_Way : PySem.W.plainGet K c_Way Str.empty = true) (hd_Way : PySem.W.hasDictIn K c_Way = true) (po_Way : PySem.W.plainOver K c_Way = true) (sa_Way : PySem.W.findIn K (.ref c_Way) "__setattr__" = some (some (.builtin "object.__setattr__")))
    (cs_Way : PySem.W.specialIn K (.ref c_Way) "__getattribute__" = some (some (.builtin "type.__getattribute__"))) (cr_Way : PySem.W.readsIn K c_Way (.type "type") = true)
    (ca_Way_init__ : PySem.W.findCls K (.ref c_Way) (.type "type") "__init__" = some (.val (.ref f32)))
    (mc_ListsChecker : PySem.W.nsIn K mainGlobals "ListsChecker" = some (some (.ref c_ListsChecker))) (pg_ListsChecker : PySem.W.plainGet K c_ListsChecker Str.empty = true) (hd_ListsChecker : PySem.W.hasDictIn K c_ListsChecker = true) (po_ListsChecker : PySem.W.plainOver K c_ListsChecker = true) (sa_ListsChecker : PySem.W.findIn K (.ref c_ListsChecker) "__setattr__" = some (some (.builtin "object.__setattr__")))
    (mm_ListsChecker : PySem.W.makesIn K c_ListsChecker = true) (mi_ListsChecker : PySem.W.findIn K (.ref c_ListsChecker) "__init__" = some (some (.ref f12))) (mf_ListsChecker : PySem.W.isFn K (.ref f12) = true) (mk_ListsChecker : PySem.W.keepIn K (.ref c_ListsChecker) = true)
    (ma_ListsChecker_right : PySem.W.findIn K (.ref c_ListsChecker) "right" = some (some (.ref f41))) (mn_ListsChecker_right : PySem.W.isFn K (.ref f41) = true)
    (ma_ListsChecker_passes : PySem.W.findIn K (.ref c_ListsChecker) "passes" = some (some (.ref f42))) (mn_ListsChecker_passes : PySem.W.isFn K (.ref f42) = true)
    (na_ListsChecker_way : PySem.W.findIn K (.ref c_ListsChecker) "way" = some none)
    (ja_ListsChecker_Checker : PySem.W.findIn K (.ref c_ListsChecker) "__class__" = some (some (.builtin "object.__class__"))) (jb_ListsChecker_Checker : PySem.W.specialIn K (.builtin "object.__class__") "__get__" = some (some (.builtin "getset_descriptor.__get__"))) (jc_ListsChecker_Checker : PySem.W.takesIn K (.builtin "object.__class__") = some true) (jd_ListsChecker_Checker : PySem.W.mroIn K c_ListsChecker (.type "object") = some true) (je_ListsChecker_Checker : PySem.W.kitOne K (.ref c_ListsChecker) (.ref c_Checker) = some true)
    (mc_Checker : PySem.W.nsIn K mainGlobals "Checker" = some (some (.ref c_Checker))) (pg_Checker : PySem.W.plainGet K c_Checker Str.empty = true) (hd_Checker : PySem.W.hasDictIn K c_Checker = true) (po_Checker : PySem.W.plainOver K c_Checker = true) (sa_Checker : PySem.W.findIn K (.ref c_Checker) "__setattr__" = some (some (.builtin "object.__setattr__"))) :
    ∃ fd : FuncData, (∀ (s : Shared) (v : Value), BindsTo s fd ⟨[v], []⟩ [("_law_script", v)]) ∧ ∀ base : Heap, K.In base → base.Ns mainGlobals mg → FnOk l.prog w K mg base CX0 11 fa fd ["_law_script"] (spLaw K) := by
  have e := hfa.symm.trans (PySem.W.mg_of X G a44)
  cases e
  have F1 := fun_mk (st := s_is_whole) l1 c1 k1
  have b1 := F1.binds (ps := ["thing"]) fun _ _ _ _ _ _ us hl => match us, hl with | [_], _ => rfl
  have F2 := fun_mk (st := s_divisor) l2 c2 k2
  have b2 := F2.binds (ps := ["one", "other"]) fun _ _ _ _ _ _ us hl => match us, hl with | [_, _], _ => rfl
  have F3 := fun_mk (st := s_up) l3 c3 k3
  have b3 := F3.binds (ps := ["top", "bottom"]) fun _ _ _ _ _ _ us hl => match us, hl with | [_, _], _ => rfl
  have F4 := fun_mk (st := s_under) l4 c4 k4
  have b4 := F4.binds (ps := ["one", "other"]) fun _ _ _ _ _ _ us hl => match us, hl with | [_, _], _ => rfl
  have F5 := fun_mk (st := s_members) l5 c5 k5
  have b5 := F5.binds (ps := ["mask"]) fun _ _ _ _ _ _ us hl => match us, hl with | [_], _ => rfl
  have F6 := fun_mk (st := s_ballots_in) l6 c6 k6
  have b6 := F6.binds (ps := ["sheet"]) fun _ _ _ _ _ _ us hl => match us, hl with | [_], _ => rfl
  have F7 := fun_mk (st := s_law_cell) l7 c7 k7
  have b7 := F7.binds (ps := ["_law_script", "_law_k"]) fun _ _ _ _ _ _ us hl => match us, hl with | [_, _], _ => rfl
  have F8 := fun_mk (st := s_law_mixed) l8 c8 k8
  have b8 := F8.binds (ps := ["_law_cell_here", "_law_by"]) fun _ _ _ _ _ _ us hl => match us, hl with | [_, _], _ => rfl
  have F9 := fun_mk (st := s_law_divisor) l9 c9 k9
  have b9 := F9.binds (ps := ["_law_one", "_law_other"]) fun _ _ _ _ _ _ us hl => match us, hl with | [_, _], _ => rfl
  have F10 := fun_mk (st := s_law_copy) l10 c10 k10
  have b10 := F10.binds (ps := ["_law_paper"]) fun _ _ _ _ _ _ us hl => match us, hl with | [_], _ => rfl
  have F11 := fun_mk (st := s_law_mark) l11 c11 k11
  have b11 := F11.binds (ps := ["_law_mark_here", "_law_cell_here"]) fun _ _ _ _ _ _ us hl => match us, hl with | [_, _], _ => rfl
  have F12 := fun_mk (st := s_Checker_init) l12 c12 k12
  have b12 := F12.binds (ps := ["self", "way"]) fun _ _ _ _ _ _ us hl => match us, hl with | [_, _], _ => rfl
  have F13 := fun_mk (st := s_Lists_told_by) l13 c13 k13
  have b13 := F13.binds (ps := ["self", "paper"]) fun _ _ _ _ _ _ us hl => match us, hl with | [_, _], _ => rfl
  have F14 := fun_mk (st := s_are_hands) l14 c14 k14
  have b14 := F14.binds (ps := ["thing"]) fun _ _ _ _ _ _ us hl => match us, hl with | [_], _ => rfl
  have F15 := fun_mk (st := s_are_seats) l15 c15 k15
  have b15 := F15.binds (ps := ["thing"]) fun _ _ _ _ _ _ us hl => match us, hl with | [_], _ => rfl
  have F16 := fun_mk (st := s_are_lots) l16 c16 k16
  have b16 := F16.binds (ps := ["thing", "hands"]) fun _ _ _ _ _ _ us hl => match us, hl with | [_, _], _ => rfl
  have F17 := fun_mk (st := s_fraction) l17 c17 k17
  have b17 := F17.binds (ps := ["top", "bottom"]) fun _ _ _ _ _ _ us hl => match us, hl with | [_, _], _ => rfl
  have F18 := fun_mk (st := s_vote_of) l18 c18 k18
  have b18 := F18.binds (ps := ["slip"]) fun _ _ _ _ _ _ us hl => match us, hl with | [_], _ => rfl
  have F19 := fun_mk (st := s_is_hurdle) l19 c19 k19
  have b19 := F19.binds (ps := ["thing"]) fun _ _ _ _ _ _ us hl => match us, hl with | [_], _ => rfl
  have F20 := fun_mk (st := s_is_step) l20 c20 k20
  have b20 := F20.binds (ps := ["thing"]) fun _ _ _ _ _ _ us hl => match us, hl with | [_], _ => rfl
  have F21 := fun_mk (st := s_law_lowest) l21 c21 k21
  have b21 := F21.binds (ps := ["_law_top", "_law_bottom"]) fun _ _ _ _ _ _ us hl => match us, hl with | [_, _], _ => rfl
  have F22 := fun_mk (st := s_law_slip) l22 c22 k22
  have b22 := F22.binds (ps := ["_law_cell_here", "_law_hands"]) fun _ _ _ _ _ _ us hl => match us, hl with | [_, _], _ => rfl
  have F23 := fun_mk (st := s_law_number) l23 c23 k23
  have b23 := F23.binds (ps := ["_law_cell_here", "_law_k", "_law_mode"]) fun _ _ _ _ _ _ us hl => match us, hl with | [_, _, _], _ => rfl
  have F24 := fun_mk (st := s_law_lots) l24 c24 k24
  have b24 := F24.binds (ps := ["_law_cell_here", "_law_hands"]) fun _ _ _ _ _ _ us hl => match us, hl with | [_, _], _ => rfl
  have F25 := fun_mk (st := s_law_rounds) l25 c25 k25
  have b25 := F25.binds (ps := ["_law_rounds_here", "_law_way_here", "_law_cell_here", "_law_hands"]) fun _ _ _ _ _ _ us hl => match us, hl with | [_, _, _, _], _ => rfl
  have F26 := fun_mk (st := s_Lists_least_votes) l26 c26 k26
  have b26 := F26.binds (ps := ["self", "ballots"]) fun _ _ _ _ _ _ us hl => match us, hl with | [_, _], _ => rfl
  have F27 := fun_mk (st := s_Lists_greatest_mark) l27 c27 k27
  have b27 := F27.binds (ps := ["self", "marks"]) fun _ _ _ _ _ _ us hl => match us, hl with | [_, _], _ => rfl
  have F28 := fun_mk (st := s_votes_of) l28 c28 k28
  have b28 := F28.binds (ps := ["sheet", "hands"]) fun _ _ _ _ _ _ us hl => match us, hl with | [_, _], _ => rfl
  have F29 := fun_mk (st := s_law_sheet) l29 c29 k29
  have b29 := F29.binds (ps := ["_law_script", "_law_at", "_law_hands"]) fun _ _ _ _ _ _ us hl => match us, hl with | [_, _, _], _ => rfl
  have F30 := fun_mk (st := s_law_hurdle) l30 c30 k30
  have b30 := F30.binds (ps := ["_law_cell_here"]) fun _ _ _ _ _ _ us hl => match us, hl with | [_], _ => rfl
  have F31 := fun_mk (st := s_law_spoilt) l31 c31 k31
  have b31 := F31.binds (ps := ["_law_paper", "_law_way_here", "_law_cell_here", "_law_hands"]) fun _ _ _ _ _ _ us hl => match us, hl with | [_, _, _, _], _ => rfl
  have F32 := fund_mk (st := s_Way_init) l32 c32 k32
  have b32_0 : Binds K _ ["self", "hands", "seats", "lots"] [] := fun s us X hl => match us, (show us.length = 4 from Nat.add_right_cancel (m := 0) ((List.length_append ..).symm.trans hl)) with | [_, _, _, _], _ => PySem.W.binds_K (fd := PySem.W.fnOf "__init__" "Way.__init__" (defArgs s_Way_init) (defBody s_Way_init) (defScope s_Way_init) (.ref dT32) kV32 dc32 pm32 an32 cd32 ct32) X rfl dl32 rfl rfl rfl
  have F33 := fun_mk (st := s_Lists_mark) l33 c33 k33
  have b33 := F33.binds (ps := ["self", "many", "had"]) fun _ _ _ _ _ _ us hl => match us, hl with | [_, _, _], _ => rfl
  have F34 := fun_mk (st := s_law_way) l34 c34 k34
  have b34 := F34.binds (ps := ["_law_script", "_law_hands"]) fun _ _ _ _ _ _ us hl => match us, hl with | [_, _], _ => rfl
  have F35 := fund_mk (st := s_Lists_init) l35 c35 k35
  have b35_0 : Binds K _ ["self", "hands", "seats", "lots", "hurdle", "step"] [] := fun s us X hl => match us, (show us.length = 6 from Nat.add_right_cancel (m := 0) ((List.length_append ..).symm.trans hl)) with | [_, _, _, _, _, _], _ => PySem.W.binds_K (fd := PySem.W.fnOf "__init__" "Lists.__init__" (defArgs s_Lists_init) (defBody s_Lists_init) (defScope s_Lists_init) (.ref dT35) kV35 dc35 pm35 an35 cd35 ct35) X rfl dl35 rfl rfl rfl
  have F36 := fun_mk (st := s_Lists_mark_or_none) l36 c36 k36
  have b36 := F36.binds (ps := ["self", "many", "least", "had"]) fun _ _ _ _ _ _ us hl => match us, hl with | [_, _, _, _], _ => rfl
  have F37 := fun_mk (st := s_Lists_marks_of) l37 c37 k37
  have b37 := F37.binds (ps := ["self", "votes", "least", "had"]) fun _ _ _ _ _ _ us hl => match us, hl with | [_, _, _, _], _ => rfl
  have F38 := fun_mk (st := s_Lists_rounds_of) l38 c38 k38
  have b38 := F38.binds (ps := ["self", "votes", "least"]) fun _ _ _ _ _ _ us hl => match us, hl with | [_, _, _], _ => rfl
  have F39 := fun_mk (st := s_Lists_counted) l39 c39 k39
  have b39 := F39.binds (ps := ["self", "sheet"]) fun _ _ _ _ _ _ us hl => match us, hl with | [_, _], _ => rfl
  have F40 := fun_mk (st := s_Way_outcome) l40 c40 k40
  have b40 := F40.binds (ps := ["self", "sheet"]) fun _ _ _ _ _ _ us hl => match us, hl with | [_, _], _ => rfl
  have F41 := fun_mk (st := s_ListsChecker_right) l41 c41 k41
  have b41 := F41.binds (ps := ["self", "sheet", "paper"]) fun _ _ _ _ _ _ us hl => match us, hl with | [_, _, _], _ => rfl
  have F42 := fun_mk (st := s_Checker_passes) l42 c42 k42
  have b42 := F42.binds (ps := ["self", "sheet", "paper", "outcome"]) fun _ _ _ _ _ _ us hl => match us, hl with | [_, _, _, _], _ => rfl
  have F43 := fun_mk (st := s_law_longer_let_by) l43 c43 k43
  have b43 := F43.binds (ps := ["_law_checker", "_law_told", "_law_lent", "_law_kept"]) fun _ _ _ _ _ _ us hl => match us, hl with | [_, _, _, _], _ => rfl
  have F44 := fun_mk (st := s_law) l44 c44 k44
  have b44 := F44.binds (ps := ["_law_script"]) fun _ _ _ _ _ _ us hl => match us, hl with | [_], _ => rfl
  have T : Tx K mg (⟨f1, _, f2, _, f3, _, f4, _, f5, _, f6, _, f7, _, f8, _, f9, _, f10, _, f11, _, f12, _, f13, _, f14, _, f15, _, f16, _, f17, _, f18, _, f19, _, f20, _, f21, _, f22, _, f23, _, f24, _, f25, _, f26, _, f27, _, f28, _, f29, _, f30, _, f31, _, f32, _, f33, _, f34, _, f35, _, f36, _, f37, _, f38, _, f39, _, f40, _, f41, _, f42, _, f43, _, fa, _, c_Lists, c_Way, c_ListsChecker, c_Checker, t_MOST_HANDS, t_MOST_SEATS, t_MOST_STEP, td_Lists_init2⟩ : Ads) := ⟨F1, b1, PySem.W.mg_of X G a1, F2, b2, PySem.W.mg_of X G a2, F3, b3, PySem.W.mg_of X G a3, F4, b4, PySem.W.mg_of X G a4, F5, b5, PySem.W.mg_of X G a5, F6, b6, PySem.W.mg_of X G a6, F7, b7, PySem.W.mg_of X G a7, F8, b8, PySem.W.mg_of X G a8, F9, b9, PySem.W.mg_of X G a9, F10, b10, PySem.W.mg_of X G a10, F11, b11, PySem.W.mg_of X G a11, F12, b12, F13, b13, F14, b14, PySem.W.mg_of X G a14, F15, b15, PySem.W.mg_of X G a15, F16, b16, PySem.W.mg_of X G a16, F17, b17, PySem.W.mg_of X G a17, F18, b18, PySem.W.mg_of X G a18, F19, b19, PySem.W.mg_of X G a19, F20, b20, PySem.W.mg_of X G a20, F21, b21, PySem.W.mg_of X G a21, F22, b22, PySem.W.mg_of X G a22, F23, b23, PySem.W.mg_of X G a23, F24, b24, PySem.W.mg_of X G a24, F25, b25, PySem.W.mg_of X G a25, F26, b26, F27, b27, F28, b28, PySem.W.mg_of X G a28, F29, b29, PySem.W.mg_of X G a29, F30, b30, PySem.W.mg_of X G a30, F31, b31, PySem.W.mg_of X G a31, F32, b32_0, F33, b33, F34, b34, PySem.W.mg_of X G a34, F35, b35_0, F36, b36, F37, b37, F38, b38, F39, b39, F40, b40, F41, b41, F42, b42, F43, b43, PySem.W.mg_of X G a43, F44, b44, PySem.W.mg_of X G a44, PySem.W.mg_none_of X G z0, PySem.W.mg_none_of X G z1, PySem.W.mg_none_of X G z2, PySem.W.mg_none_of X G z3, PySem.W.mg_none_of X G z4, PySem.W.mg_none_of X G z5, PySem.W.mg_none_of X G z6, PySem.W.mg_none_of X G z7, PySem.W.mg_none_of X G z8, PySem.W.mg_none_of X G z9, PySem.W.mg_none_of X G z10, PySem.W.mg_none_of X G z11, PySem.W.mg_none_of X G z12, PySem.W.mg_none_of X G z13, PySem.W.mg_of X G kc_MOST_HANDS, PySem.W.mg_of X G kc_MOST_SEATS, PySem.W.mg_of X G kc_MOST_STEP, PySem.W.mg_of X G mc_Lists, ⟨pg_Lists, hd_Lists, po_Lists, sa_Lists⟩, ⟨mm_Lists, mi_Lists, mf_Lists, mk_Lists⟩, ⟨ma_Lists_least_votes, mn_Lists_least_votes, k26⟩, ⟨ma_Lists_mark, mn_Lists_mark, k33⟩, ⟨ma_Lists_mark_or_none, mn_Lists_mark_or_none, k36⟩, ⟨ma_Lists_marks_of, mn_Lists_marks_of, k37⟩, ⟨ma_Lists_greatest_mark, mn_Lists_greatest_mark, k27⟩, ⟨ma_Lists_rounds_of, mn_Lists_rounds_of, k38⟩, ⟨ma_Lists_counted, mn_Lists_counted, k39⟩, ⟨ma_Lists_told_by, mn_Lists_told_by, k13⟩, ⟨ma_Lists_outcome, mn_Lists_outcome, k40⟩, na_Lists_hands, na_Lists_seats, na_Lists_lots, na_Lists_hurdle, na_Lists_step, PySem.W.mg_of X G mc_Way, ⟨pg_Way, hd_Way, po_Way, sa_Way⟩, ⟨cs_Way, cr_Way, ca_Way_init__⟩, PySem.W.mg_of X G mc_ListsChecker, ⟨pg_ListsChecker, hd_ListsChecker, po_ListsChecker, sa_ListsChecker⟩, ⟨mm_ListsChecker, mi_ListsChecker, mf_ListsChecker, mk_ListsChecker⟩, ⟨ma_ListsChecker_right, mn_ListsChecker_right, k41⟩, ⟨ma_ListsChecker_passes, mn_ListsChecker_passes, k42⟩, na_ListsChecker_way, ⟨ja_ListsChecker_Checker, jb_ListsChecker_Checker, jc_ListsChecker_Checker, jd_ListsChecker_Checker, je_ListsChecker_Checker⟩, PySem.W.mg_of X G mc_Checker, ⟨pg_Checker, hd_Checker, po_Checker, sa_Checker⟩⟩
  exact ⟨PySem.W.fnOf "law" "law" (defArgs s_law) (defBody s_law) (defScope s_law) .none kV44 dc44 pm44 an44 cd44 ct44, fun s v => .of_eq rfl, fun base _ _ => ok_law T⟩
theorem walk {l : PySem.W.OpenLaw} {q : Program} {loose : List Str} {XP : (Str → Option Value) → Heap → Prop} {YP : World → Heap → Prop} {d : DefRec} {K : Params → PySem.W.Frag} (hn : l.most = some 63) (hdf : d.params.defaults = [])
    (hY : ∀ (w : World) (h : Heap), YP w h → (K w.params).In h)
    (F : ∀ (w : World) (mg : Str → Option Value) (fa : Addr) (h : Heap), (K w.params).In h → h.Ns mainGlobals mg → mg d.name = some (.ref fa) →
      ∃ fd : FuncData, (∀ (s : Shared) (u : Value), BindsTo s fd ⟨[u], []⟩ [("_law_script", u)]) ∧ ∀ base : Heap, (K w.params).In base → base.Ns mainGlobals mg → FnOk l.prog w (K w.params) mg base CX0 11 fa fd ["_law_script"] (spLaw (K w.params))) :
    PySem.W.WalkO q loose XP YP l.row.toRowW d [] (fun f vs => PySem.call f vs) :=
  L2.walk_of (n := 63) (k := 11) (x := "_law_script") (CX := fun _ => CX0) (sp := fun w => spLaw (K w.params)) hn (by decide) hdf ⟨rfl, by decide, by decide⟩ hY F (fun _ _ a ns hl _ hS => ⟨a, ns, rfl, hS, hl, fun _ => rfl⟩) fun _ _ _ _ _ z => z
end Law
open PySem PySem.W PyProof.Rows
set_option maxRecDepth 100000 in
set_option maxHeartbeats 0 in
theorem PySem.Challenge.cw_pollproof_k68_papers_of_lists_let_by_holds : PySem.Challenge.rw_pollproof_k68_papers_of_lists_let_by.Holds := by
  refine Head.top ?_
  k_fill
  refine Law.walk (l := PySem.Challenge.rw_pollproof_k68_papers_of_lists_let_by) rfl rfl (fun w h Y => PySem.W.kIn_of Y) ?F
  case F =>
    intro w mg fa h KX G hmg
    refine' Law.all_mk KX G hmg ?a1 ?l1 ?c1 ?k1 ?a2 ?l2 ?c2 ?k2 ?a3 ?l3 ?c3 ?k3 ?a4 ?l4 ?c4 ?k4 ?a5 ?l5 ?c5 ?k5 ?a6 ?l6 ?c6 ?k6 ?a7 ?l7 ?c7 ?k7 ?a8 ?l8 ?c8 ?k8 ?a9 ?l9 ?c9 ?k9 ?a10 ?l10 ?c10 ?k10 ?a11 ?l11 ?c11 ?k11 ?l12 ?c12 ?k12 ?l13 ?c13 ?k13 ?a14 ?l14 ?c14 ?k14 ?a15 ?l15 ?c15 ?k15 ?a16 ?l16 ?c16 ?k16 ?a17 ?l17 ?c17 ?k17 ?a18 ?l18 ?c18 ?k18 ?a19 ?l19 ?c19 ?k19 ?a20 ?l20 ?c20 ?k20 ?a21 ?l21 ?c21 ?k21 ?a22 ?l22 ?c22 ?k22 ?a23 ?l23 ?c23 ?k23 ?a24 ?l24 ?c24 ?k24 ?a25 ?l25 ?c25 ?k25 ?l26 ?c26 ?k26 ?l27 ?c27 ?k27 ?a28 ?l28 ?c28 ?k28 ?a29 ?l29 ?c29 ?k29 ?a30 ?l30 ?c30 ?k30 ?a31 ?l31 ?c31 ?k31 ?l32 ?c32 ?k32 ?dl32 ?l33 ?c33 ?k33 ?a34 ?l34 ?c34 ?k34 ?l35 ?c35 ?k35 ?dl35 ?l36 ?c36 ?k36 ?l37 ?c37 ?k37 ?l38 ?c38 ?k38 ?l39 ?c39 ?k39 ?l40 ?c40 ?k40 ?l41 ?c41 ?k41 ?l42 ?c42 ?k42 ?a43 ?l43 ?c43 ?k43 ?a44 ?l44 ?c44 ?k44 ?z0 ?z1 ?z2 ?z3 ?z4 ?z5 ?z6 ?z7 ?z8 ?z9 ?z10 ?z11 ?z12 ?z13 ?kc_MOST_HANDS ?kc_MOST_SEATS ?kc_MOST_STEP ?mc_Lists ?pg_Lists ?hd_Lists ?po_Lists ?sa_Lists ?mm_Lists ?mi_Lists ?mf_Lists ?mk_Lists ?ma_Lists_least_votes ?mn_Lists_least_votes ?ma_Lists_mark ?mn_Lists_mark ?ma_Lists_mark_or_none ?mn_Lists_mark_or_none ?ma_Lists_marks_of ?mn_Lists_marks_of ?ma_Lists_greatest_mark ?mn_Lists_greatest_mark ?ma_Lists_rounds_of ?mn_Lists_rounds_of ?ma_Lists_counted ?mn_Lists_counted ?ma_Lists_told_by ?mn_Lists_told_by ?ma_Lists_outcome ?mn_Lists_outcome ?na_Lists_hands ?na_Lists_seats ?na_Lists_lots ?na_Lists_hurdle ?na_Lists_step ?mc_Way ?pg_Way ?hd_Way ?po_Way ?sa_Way ?cs_Way ?cr_Way ?ca_Way_init__ ?mc_ListsChecker ?pg_ListsChecker ?hd_ListsChecker ?po_ListsChecker ?sa_ListsChecker ?mm_ListsChecker ?mi_ListsChecker ?mf_ListsChecker ?mk_ListsChecker ?ma_ListsChecker_right ?mn_ListsChecker_right ?ma_ListsChecker_passes ?mn_ListsChecker_passes ?na_ListsChecker_way ?ja_ListsChecker_Checker ?jb_ListsChecker_Checker ?jc_ListsChecker_Checker ?jd_ListsChecker_Checker ?je_ListsChecker_Checker ?mc_Checker ?pg_Checker ?hd_Checker ?po_Checker ?sa_Checker
    (case a1 => k_is)
    (case l1 => k_is)
    (case c1 => k_is)
    (case k1 => k_is)
    (case a2 => k_is)
    (case l2 => k_is)
    (case c2 => k_is)
    (case k2 => k_is)
    (case a3 => k_is)
    (case l3 => k_is)
    (case c3 => k_is)
    (case k3 => k_is)
    (case a4 => k_is)
    (case l4 => k_is)
    (case c4 => k_is)
    (case k4 => k_is)
    (case a5 => k_is)
    (case l5 => k_is)
    (case c5 => k_is)
    (case k5 => k_is)
    (case a6 => k_is)
    (case l6 => k_is)
    (case c6 => k_is)
    (case k6 => k_is)
    (case a7 => k_is)
    (case l7 => k_is)
    (case c7 => k_is)
    (case k7 => k_is)
    (case a8 => k_is)
    (case l8 => k_is)
    (case c8 => k_is)
    (case k8 => k_is)
    (case a9 => k_is)
    (case l9 => k_is)
    (case c9 => k_is)
    (case k9 => k_is)
    (case a10 => k_is)
    (case l10 => k_is)
    (case c10 => k_is)
    (case k10 => k_is)
    (case a11 => k_is)
    (case l11 => k_is)
    (case c11 => k_is)
    (case k11 => k_is)
    (case a14 => k_is)
    (case l14 => k_is)
    (case c14 => k_is)
    (case k14 => k_is)
    (case a15 => k_is)
    (case l15 => k_is)
    (case c15 => k_is)
    (case k15 => k_is)
    (case a16 => k_is)
    (case l16 => k_is)
    (case c16 => k_is)
    (case k16 => k_is)
    (case a17 => k_is)
    (case l17 => k_is)
    (case c17 => k_is)
    (case k17 => k_is)
    (case a18 => k_is)
    (case l18 => k_is)
    (case c18 => k_is)
    (case k18 => k_is)
    (case a19 => k_is)
    (case l19 => k_is)
    (case c19 => k_is)
    (case k19 => k_is)
    (case a20 => k_is)
    (case l20 => k_is)
    (case c20 => k_is)
    (case k20 => k_is)
    (case a21 => k_is)
    (case l21 => k_is)
    (case c21 => k_is)
    (case k21 => k_is)
    (case a22 => k_is)
    (case l22 => k_is)
    (case c22 => k_is)
    (case k22 => k_is)
    (case a23 => k_is)
    (case l23 => k_is)
    (case c23 => k_is)
    (case k23 => k_is)
    (case a24 => k_is)
    (case l24 => k_is)
    (case c24 => k_is)
    (case k24 => k_is)
    (case a25 => k_is)
    (case l25 => k_is)
    (case c25 => k_is)
    (case k25 => k_is)
    (case a28 => k_is)
    (case l28 => k_is)
    (case c28 => k_is)
    (case k28 => k_is)
    (case a29 => k_is)
    (case l29 => k_is)
    (case c29 => k_is)
    (case k29 => k_is)
    (case a30 => k_is)
    (case l30 => k_is)
    (case c30 => k_is)
    (case k30 => k_is)
    (case a31 => k_is)
    (case l31 => k_is)
    (case c31 => k_is)
    (case k31 => k_is)
    (case a34 => k_is)
    (case l34 => k_is)
    (case c34 => k_is)
    (case k34 => k_is)
    (case a43 => k_is)
    (case l43 => k_is)
    (case c43 => k_is)
    (case k43 => k_is)
    (case a44 => k_is)
    (case l44 => k_is)
    (case c44 => k_is)
    (case k44 => k_is)
    (case z0 => k_is)
    (case z1 => k_is)
    (case z2 => k_is)
    (case z3 => k_is)
    (case z4 => k_is)
    (case z5 => k_is)
    (case z6 => k_is)
    (case z7 => k_is)
    (case z8 => k_is)
    (case z9 => k_is)
    (case z10 => k_is)
    (case z11 => k_is)
    (case z12 => k_is)
    (case z13 => k_is)
    (case kc_MOST_HANDS => k_is)
    (case kc_MOST_SEATS => k_is)
    (case kc_MOST_STEP => k_is)
    (case mc_Lists => k_is)
    (case pg_Lists => k_is)
    (case hd_Lists => k_is)
    (case po_Lists => k_is)
    (case sa_Lists => k_is)
    (case mm_Lists => k_is)
    (case mi_Lists => k_is)
    (case mf_Lists => k_is)
    (case mk_Lists => k_is)
    (case ma_Lists_least_votes => k_is)
    (case mn_Lists_least_votes => k_is)
    (case ma_Lists_mark => k_is)
    (case mn_Lists_mark => k_is)
    (case ma_Lists_mark_or_none => k_is)
    (case mn_Lists_mark_or_none => k_is)
    (case ma_Lists_marks_of => k_is)
    (case mn_Lists_marks_of => k_is)
    (case ma_Lists_greatest_mark => k_is)
    (case mn_Lists_greatest_mark => k_is)
    (case ma_Lists_rounds_of => k_is)
    (case mn_Lists_rounds_of => k_is)
    (case ma_Lists_counted => k_is)
    (case mn_Lists_counted => k_is)
    (case ma_Lists_told_by => k_is)
    (case mn_Lists_told_by => k_is)
    (case ma_Lists_outcome => k_is)
    (case mn_Lists_outcome => k_is)
    (case na_Lists_hands => k_is)
    (case na_Lists_seats => k_is)
    (case na_Lists_lots => k_is)
    (case na_Lists_hurdle => k_is)
    (case na_Lists_step => k_is)
    (case mc_Way => k_is)
    (case pg_Way => k_is)
    (case hd_Way => k_is)
    (case po_Way => k_is)
    (case sa_Way => k_is)
    (case cs_Way => k_is)
    (case cr_Way => k_is)
    (case ca_Way_init__ => k_is)
    (case mc_ListsChecker => k_is)
    (case pg_ListsChecker => k_is)
    (case hd_ListsChecker => k_is)
    (case po_ListsChecker => k_is)
    (case sa_ListsChecker => k_is)
    (case mm_ListsChecker => k_is)
    (case mi_ListsChecker => k_is)
    (case mf_ListsChecker => k_is)
    (case mk_ListsChecker => k_is)
    (case ma_ListsChecker_right => k_is)
    (case mn_ListsChecker_right => k_is)
    (case ma_ListsChecker_passes => k_is)
    (case mn_ListsChecker_passes => k_is)
    (case na_ListsChecker_way => k_is)
    (case ja_ListsChecker_Checker => k_is)
    (case jb_ListsChecker_Checker => k_is)
    (case jc_ListsChecker_Checker => k_is)
    (case jd_ListsChecker_Checker => k_is)
    (case je_ListsChecker_Checker => kernel_rfl)
    (case mc_Checker => k_is)
    (case pg_Checker => k_is)
    (case hd_Checker => k_is)
    (case po_Checker => k_is)
    (case sa_Checker => k_is)
    (case l12 => k_is)
    (case c12 => k_is)
    (case k12 => k_is)
    (case l13 => k_is)
    (case c13 => k_is)
    (case k13 => k_is)
    (case l26 => k_is)
    (case c26 => k_is)
    (case k26 => k_is)
    (case l27 => k_is)
    (case c27 => k_is)
    (case k27 => k_is)
    (case l32 => k_is)
    (case c32 => k_is)
    (case k32 => k_is)
    (case dl32 => k_is)
    (case l33 => k_is)
    (case c33 => k_is)
    (case k33 => k_is)
    (case l35 => k_is)
    (case c35 => k_is)
    (case k35 => k_is)
    (case dl35 => k_is)
    (case l36 => k_is)
    (case c36 => k_is)
    (case k36 => k_is)
    (case l37 => k_is)
    (case c37 => k_is)
    (case k37 => k_is)
    (case l38 => k_is)
    (case c38 => k_is)
    (case k38 => k_is)
    (case l39 => k_is)
    (case c39 => k_is)
    (case k39 => k_is)
    (case l40 => k_is)
    (case c40 => k_is)
    (case k40 => k_is)
    (case l41 => k_is)
    (case c41 => k_is)
    (case k41 => k_is)
    (case l42 => k_is)
    (case c42 => k_is)
    (case k42 => k_is)
#print axioms PySem.Challenge.cw_pollproof_k68_papers_of_lists_let_by_holds
