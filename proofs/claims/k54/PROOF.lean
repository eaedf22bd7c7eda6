import PyProof.Rows.All
import Wide.All
import OpenK.AllK
import Wide.FinOn
import Lean
import PyProof.EqAt
import PyProof.EqKinds
import PyProof.TupleCall
import PySem.Challenge.RW_pollproof_k54_whole_sets_first
set_option Elab.async false
set_option linter.all false
set_option maxRecDepth 100000
namespace Head
open PySem PySem.W PyProof.Rows
def runT (p : Program) (w : World) (n0 : Nat) (ann : Option Value) : Nat → SharedT → Thread → Option SharedT
  | 0, _, _ => none
  | n + 1, s, t => match through t with
    | true => some s
    | false => match stepOk n0 ann t with
      | false => none
      | true => match stepT (denote treeTable) p w s t with
        | some (s', t') => runT p w n0 ann n s' t'
        | none => none
theorem runT_of {p : Program} {w : World} {n0 : Nat} {ann : Option Value} : ∀ {n : Nat} {s s' : SharedT} {t : Thread}, runT p w n0 ann n s t = some s' → topRun treeTable p w n0 ann n s.abs t = some s'.abs
  | 0, _, _, _, h => by cases h
  | n + 1, s, s', t, h => by
    unfold runT at h
    unfold topRun
    cases he : through t with
    | true => rw [he] at h; cases h; rfl
    | false =>
      rw [he] at h
      cases hk : stepOk n0 ann t with
      | false => rw [hk] at h; cases h
      | true =>
        rw [hk] at h
        cases hs : stepT (denote treeTable) p w s t with
        | none => rw [hs] at h; cases h
        | some r => obtain ⟨s2, t2⟩ := r; rw [hs] at h; rw [stepT_spec hs]; exact runT_of h
def grow : List Obj → Nat → BT → Option BT
  | [], _, t => some t
  | o :: os, n, t => match ((t.ins n o).get n).isSome with
    | true => grow os (n + 1) (t.ins n o)
    | false => none
theorem grow_of {life : Life} : ∀ {os : List Obj} {n : Nat} {t t' : BT} {xs : List Obj}, (absHeap t n life) = ⟨xs.toArray, life⟩ → grow os n t = some t' → absHeap t' (n + os.length) life = ⟨(xs ++ os).toArray, life⟩
  | [], n, t, t', xs, a, h => by
    cases h
    rw [List.append_nil]
    exact a
  | o :: os, n, t, t', xs, a, h => by
    unfold grow at h
    cases g : ((t.ins n o).get n).isSome with
    | false => rw [g] at h; cases h
    | true =>
      rw [g] at h
      have b : absHeap (t.ins n o) (n + 1) life = ⟨(xs ++ [o]).toArray, life⟩ := by
        rw [absHeap_ins g, a]
        show (⟨xs.toArray.push o, life⟩ : Heap) = _
        rw [List.push_toArray]
      have c := grow_of b h
      rw [List.append_assoc] at c
      rw [List.length_cons, show n + (os.length + 1) = n + 1 + os.length by omega]
      exact c
theorem grow_all {H : Heap} {T : BT} (h : grow H.objs.toList 0 .nil = some T) : absHeap T H.objs.size H.life = H := by
  have c := grow_of (life := H.life) (n := 0) (t := .nil) (xs := []) rfl h
  rw [Nat.zero_add, Array.length_toList] at c
  rw [c]
  obtain ⟨a, l⟩ := H
  show (⟨([] ++ a.toList).toArray, l⟩ : Heap) = ⟨a, l⟩
  rw [List.nil_append, Array.toArray_toList]
theorem left {p q : Program} {loose : List PySem.Str} {Xt : Shared → Bool} {α : Type} {Yf : Shared → α} {Ya : World → α} {N : Nat} {g0 : Bool}
    (e : opening p = plainProg p.main.scope.names) (hN : Nat.ble 600 N = true) (f : ∀ s, fenceModules? p s = some s)
    (h : ∀ (w : World) (os : OsState), ((grow (boot_heap w.params).objs.toList 0 .nil).bind fun T => (runT p w (boot_heap w.params).objs.size ((boot_heap w.params).nsMap mainGlobals "__annotations__") N ⟨T, (boot_heap w.params).objs.size, (boot_heap w.params).life, Array.mk [], boot_drawn, boot_toks, os⟩ (topStub p)).map fun s =>
      (((boot_heap w.params).isNs mainGlobals, staticsOk (importedModules p.main.body) (boot_heap w.params) s.abs.heap && namesBound p s.abs.heap && gensDone s.abs && laidKept (boot_heap w.params) s.abs.heap), openSeen q loose (importedModules p.main.body) Xt g0 s.abs, Yf s.abs)) =
      some ((true, true), openGood q loose, Ya w)) : LeftO p q loose Xt Yf Ya N g0 := fun w => by
  obtain ⟨⟨hp, gs, d, k, os⟩, e1, e2⟩ := Option.map_eq_some_iff.mp (boot_open e hN f w)
  obtain ⟨rfl, rfl, rfl, rfl⟩ : hp = boot_heap w.params ∧ gs = Array.mk [] ∧ d = boot_drawn ∧ k = boot_toks := by simpa using e2
  have z := h w os
  cases gT : grow (boot_heap w.params).objs.toList 0 .nil with
  | none => rw [gT] at z; cases z
  | some T =>
    rw [gT] at z
    obtain ⟨s, r, y⟩ := Option.map_eq_some_iff.mp z
    have r' := runT_of r
    injection y with y1 y2
    injection y1 with y3 y4
    injection y2 with y5 y6
    have a : (⟨T, (boot_heap w.params).objs.size, (boot_heap w.params).life, Array.mk [], boot_drawn, boot_toks, os⟩ : SharedT).abs = ⟨boot_heap w.params, Array.mk [], boot_drawn, boot_toks, os⟩ := by
      unfold SharedT.abs
      rw [grow_all gT]
    rw [a] at r'
    unfold openEnds
    rw [e1]
    show (topFrom treeTable p w N _).map _ = _
    have t : topFrom treeTable p w N ⟨boot_heap w.params, Array.mk [], boot_drawn, boot_toks, os⟩ = some s.abs := by
      unfold topFrom
      dsimp only
      rw [y3, r']
      show (match staticsOk (importedModules p.main.body) (boot_heap w.params) s.abs.heap && namesBound p s.abs.heap && gensDone s.abs && laidKept (boot_heap w.params) s.abs.heap with | true => _ | false => _) = _
      rw [y4]
    rw [t]
    exact congrArg some (Prod.ext y5 y6)
end Head
namespace Head
open PySem PySem.W PyProof.Rows
abbrev q0 : Program := view PySem.Challenge.pw_pollproof_k54_whole_sets_first [9, 41]
abbrev r0 : OpenRow := OpenLaw.row PySem.Challenge.rw_pollproof_k54_whole_sets_first
local macro_rules | `(tactic| o_head $H) => do
  let (hl, hw, hc) := (Lean.mkIdent `hl, Lean.mkIdent `hw, Lean.mkIdent `hc)
  `(tactic| (
    refine holds_open (r := r0) (q := q0) (loose := [PySem.Str.ofString "_wall", PySem.Str.ofString "all_of", PySem.Str.ofString "with_one", PySem.Str.ofString "members", PySem.Str.ofString "overs", PySem.Str.ofString "hands_of", PySem.Str.ofString "leads_of", PySem.Str.ofString "way_by", PySem.Str.ofString "cut_by", PySem.Str.ofString "strength", PySem.Str.ofString "PollError", PySem.Str.ofString "NoWay", PySem.Str.ofString "is_whole", PySem.Str.ofString "MOST_HANDS", PySem.Str.ofString "MOST_SEATS", PySem.Str.ofString "are_hands", PySem.Str.ofString "are_seats", PySem.Str.ofString "are_lots", PySem.Str.ofString "Way", PySem.Str.ofString "shown_from", PySem.Str.ofString "is_beaten", PySem.Str.ofString "Pairs", PySem.Str.ofString "_law_whole", PySem.Str.ofString "_law_cell", PySem.Str.ofString "_law_mixed", PySem.Str.ofString "_law_order", PySem.Str.ofString "_law_ranks", PySem.Str.ofString "_law_slip", PySem.Str.ofString "_law_votes", PySem.Str.ofString "_law_sheet", PySem.Str.ofString "_law_solid", PySem.Str.ofString "_law_with_set", PySem.Str.ofString "_law_beaten"]) (N := 100000)
      (Xt := fun s => xlAt q0 [] s && recOk (RowW.records (OpenRow.toRowW r0)) s)
      (XP := XL q0 []) (Yf := Hook.obs $H) (Ya := Hook.val $H) (YP := Hook.says $H)
      ?$hl (Hook.of $H) (Hook.keeps $H) (fun s e => xl_of s (Bool.and_eq_true_iff.mp e).1) XL.keeps
      (by rfl) (by rfl) (by rfl) (fun s e => recFacts_of (Bool.and_eq_true_iff.mp e).2) (by rfl) (by assumption)
      (by decide +kernel) ⟨rfl, rfl, rfl, rfl, rfl, by decide +kernel⟩ ?$hw ?$hc;
    (next => (exact left (by kernel_rfl) (by decide) (fun s => by kernel_rfl) (fun w os => by kernel_rfl)))))
set_option maxRecDepth 100000 in
set_option maxHeartbeats 0 in
open_top top for PySem.Challenge.rw_pollproof_k54_whole_sets_first
end Head
namespace L2
open PySem PySem.Spec PyProof.Rows
abbrev Key := Sum Int Str
def keyIs : Key → Value → Bool
  | .inl k, v => Value.isInt k v
  | .inr x, v => Value.isStrOf x v
def keyH (w : World) : Key → Int
  | .inl k => hashInt k
  | .inr x => hashStr w x
theorem keyIs_shape : ∀ {k : Key} {v : Value}, keyIs k v = true → (∃ i t, k = Sum.inl i ∧ v = Value.int i t) ∨ (∃ x t, k = Sum.inr x ∧ v = Value.str x t)
  | .inl i, v, h => by
    obtain ⟨t, e⟩ := Value.isInt_shape (k := i) (v := v) h
    exact .inl ⟨i, t, rfl, e⟩
  | .inr x, v, h => by
    obtain ⟨t, e⟩ := Value.isStrOf_shape (x := x) (v := v) h
    exact .inr ⟨x, t, rfl, e⟩
theorem keyIs_int (i : Int) (t : Tok) : keyIs (.inl i) (.int i t) = true := by simp [keyIs, Value.isInt]
theorem keyIs_str (x : Str) (t : Tok) : keyIs (.inr x) (.str x t) = true := by simp [keyIs, Value.isStrOf]
theorem key_ll (a b : Int) : decide ((Sum.inl a : Key) = Sum.inl b) = (a == b) := by
  by_cases e : a = b
  · subst e; simp
  · have h : ¬ (Sum.inl a : Key) = Sum.inl b := fun q => e (Sum.inl.inj q)
    rw [decide_eq_false h]
    exact (beq_eq_false_iff_ne.mpr e).symm
theorem key_rr (a b : Str) : decide ((Sum.inr a : Key) = Sum.inr b) = decide (a = b) := by
  by_cases e : a = b
  · subst e; simp
  · have h : ¬ (Sum.inr a : Key) = Sum.inr b := fun q => e (Sum.inr.inj q)
    rw [decide_eq_false h, decide_eq_false e]
theorem key_lr (a : Int) (b : Str) : decide ((Sum.inl a : Key) = Sum.inr b) = false := decide_eq_false (fun q => nomatch q)
theorem key_rl (a : Str) (b : Int) : decide ((Sum.inr a : Key) = Sum.inl b) = false := decide_eq_false (fun q => nomatch q)
def mixKind (prog : Program) (w : World) : PySem.KeyKind prog w Key where
  is := keyIs
  hash := keyH w
  inj := fun v a b ha hb => by
    rcases keyIs_shape ha with ⟨i, t, rfl, rfl⟩ | ⟨x, t, rfl, rfl⟩
    · rcases keyIs_shape hb with ⟨j, u, rfl, e⟩ | ⟨y, u, rfl, e⟩
      · injection e with e1 _; rw [e1]
      · exact nomatch e
    · rcases keyIs_shape hb with ⟨j, u, rfl, e⟩ | ⟨y, u, rfl, e⟩
      · exact nomatch e
      · injection e with e1 _; rw [e1]
  byValue := fun k v h => by
    rcases keyIs_shape h with ⟨i, t, rfl, rfl⟩ | ⟨x, t, rfl, rfl⟩ <;> rfl
  pyHash := fun hv h => by
    rcases keyIs_shape hv with ⟨i, t, rfl, rfl⟩ | ⟨x, t, rfl, rfl⟩
    · exact wpAny_pyHash_int h
    · exact wpAny_pyHash_str h
  eqBool := fun hu hv h => by
    rcases keyIs_shape hu with ⟨i, t, rfl, rfl⟩ | ⟨x, t, rfl, rfl⟩
    · rcases keyIs_shape hv with ⟨j, u, rfl, rfl⟩ | ⟨y, u, rfl, rfl⟩
      · rw [key_ll] at h; exact wpAny_eqBool_int h
      · rw [key_lr] at h; exact SeqAt.EqAt.int_str i t y u _ _ _ _ h
    · rcases keyIs_shape hv with ⟨j, u, rfl, rfl⟩ | ⟨y, u, rfl, rfl⟩
      · rw [key_rl] at h; exact SeqAt.EqAt.str_int x t j u _ _ _ _ h
      · rw [key_rr] at h; exact wpAny_eqBool_str h
  «strs» := fun k x t v h => by
    rcases keyIs_shape h with ⟨i, u, rfl, e⟩ | ⟨y, u, rfl, e⟩
    · exact nomatch e
    · injection e with e1 _
      subst e1
      cases v <;> rfl
theorem mixKind_int (prog : Program) (w : World) (i : Int) (t : Tok) : (mixKind prog w).is (.inl i) (.int i t) = true := keyIs_int i t
theorem mixKind_str (prog : Program) (w : World) (x : Str) (t : Tok) : (mixKind prog w).is (.inr x) (.str x t) = true := keyIs_str x t
end L2
namespace L2
open PySem PySem.Spec PyProof.Rows
inductive V where
  | non | bl (b : Bool) | int (i : Int) | str (x : Str) | byt (b : Array UInt8) | flt (b : UInt64) | ref (a : Addr) | ty (n : String)
  deriving DecidableEq
def RelV : V → Value → Prop
  | .non, u => u = Value.none
  | .bl b, u => u = Value.bool b
  | .int i, u => ∃ t, u = Value.int i t
  | .str x, u => ∃ t, u = Value.str x t
  | .byt b, u => ∃ t, u = Value.bytes b t
  | .flt b, u => ∃ t, u = Value.float b t
  | .ref a, u => u = Value.ref a
  | .ty n, u => u = Value.type n
abbrev Vals : List V → List Value → Prop := Paired RelV
theorem Vals.length {xs : List V} {us : List Value} (r : Vals xs us) : xs.length = us.length := Paired.length r
theorem Vals.get : ∀ {xs : List V} {us : List Value} {i : Nat} {x : V}, Vals xs us → xs[i]? = some x → ∃ u, us[i]? = some u ∧ RelV x u
  | _, _, _, _, .nil, e => by simp at e
  | _, _, 0, _, .cons r _, e => by simp at e; subst e; exact ⟨_, rfl, r⟩
  | _, _, i + 1, x, .cons _ t, e => by
    obtain ⟨u, h1, h2⟩ := Vals.get (i := i) (x := x) t (by simpa using e)
    exact ⟨u, by simpa using h1, h2⟩
theorem Vals.set {x : V} {u : Value} (r : RelV x u) : ∀ {xs : List V} {us : List Value} (i : Nat), Vals xs us → Vals (xs.set i x) (us.set i u)
  | _, _, _, .nil => .nil
  | _, _, 0, .cons _ t => .cons r t
  | _, _, i + 1, .cons q t => .cons q (Vals.set r i t)
theorem Vals.append : ∀ {xs ys : List V} {us ws : List Value}, Vals xs us → Vals ys ws → Vals (xs ++ ys) (us ++ ws)
  | _, _, _, _, .nil, s => s
  | _, _, _, _, .cons r t, s => .cons r (Vals.append t s)
theorem Vals.take : ∀ {xs : List V} {us : List Value} (n : Nat), Vals xs us → Vals (xs.take n) (us.take n)
  | _, _, 0, _ => .nil
  | _, _, _ + 1, .nil => .nil
  | _, _, n + 1, .cons r t => .cons r (Vals.take n t)
theorem Vals.drop : ∀ {xs : List V} {us : List Value} (n : Nat), Vals xs us → Vals (xs.drop n) (us.drop n)
  | _, _, 0, r => r
  | _, _, _ + 1, .nil => .nil
  | _, _, n + 1, .cons _ t => Vals.drop n t
def RelO : Option V → Option Value → Prop
  | some v, some u => RelV v u
  | none, none => True
  | _, _ => False
def KV {κ : Type} : List (κ × V) → List (κ × Value) → Prop := Paired fun (p : κ × V) (q : κ × Value) => p.1 = q.1 ∧ RelV p.2 q.2
def kV : Key → V
  | .inl i => .int i
  | .inr x => .str x
inductive HO where
  | lst (xs : List V)
  | tup (xs : List V)
  | dK (kvs : List (Key × V)) | dT (kvs : List (List Key × V))
  | set (S : Int → Bool) (n : Nat)
  | ins (C dx : Addr) (fs : List (Str × V))
  | own (x : Addr)
  | xd (fs : List (Str × V))
  | met (f x : Addr)
  | rng (lo hi : Int)
  | frz (o : Obj) (u : HO)
  | tbl (ps : Array Value)
  | ext (φ : Heap → Prop)
abbrev Hp := Addr → Option HO
def upd (H : Hp) (a : Addr) (o : HO) : Hp := fun b => if b = a then some o else H b
theorem upd_same {H : Hp} {a : Addr} {o : HO} : upd H a o a = some o := by unfold upd; rw [if_pos rfl]
theorem upd_ne {H : Hp} {a b : Addr} {o : HO} (h : b ≠ a) : upd H a o b = H b := by unfold upd; rw [if_neg h]
theorem upd_upd {H : Hp} {a : Addr} {o u : HO} : upd (upd H a o) a u = upd H a u := by
  funext b; unfold upd; split <;> rfl
theorem ne_of {H : Hp} {a b : Addr} {o u : HO} (h : H a = some o) (h' : H b = some u) (d : o ≠ u) : a ≠ b := by
  intro e; subst e; rw [h] at h'; exact d (Option.some.inj h')
theorem ne_of_none {H : Hp} {a b : Addr} {o : HO} (h : H a = some o) (h' : H b = none) : a ≠ b := by
  intro e; subst e; rw [h] at h'; cases h'
section
variable (P : Program) (w : World)
def ObjOk (H : Hp) (h : Heap) (a : Addr) : HO → Prop
  | .lst xs => xs.length ≤ sizeLine ∧ ∃ (its : List Value) (n : Nat), Vals xs its ∧ h.get? a = some { cls := .type "list", data := .seq its.toArray n }
  | .tup xs => xs.length ≤ sizeLine ∧ ∃ its : List Value, Vals xs its ∧ IsTup h a its.toArray
  | .dK kvs => kvs.length ≤ sizeLine ∧ (a == sysModules) = false ∧ ∃ vs, KV kvs vs ∧ h.DictOf (mixKind P w) a vs
  | .dT kvs => kvs.length ≤ sizeLine ∧ (a == sysModules) = false ∧ ∃ xs : List (List Key × Addr × Value),
      Paired (fun (p : List Key × V) (q : List Key × Addr × Value) => p.1 = q.1 ∧ H q.2.1 = some (.tup (p.1.map kV)) ∧ RelV p.2 q.2.2) kvs xs ∧
      ∃ o es ep, h.get? a = some o ∧ o.ExactDict ∧ o.data = .dict es ep ∧ es.toList = xs.map (entryOfKey (tupleKind (mixKind P w))) ∧ (xs.map (·.1)).Nodup
  | .set S n => h.SetOf (intKind P w) a S n
  | .ins C dx fs => H dx = some (.own a) ∧ fs.length ≤ 1000 ∧ dx ≠ a ∧ h.get? a = some (PySem.W.instObj C dx) ∧
      ∃ mA, h.Ns1 dx mA ∧ (∀ f, RelO (fs.lookup f) (mA f)) ∧ PySem.Within mA (fs.map (·.1))
  | .own _ => ∃ o, h.get? a = some o
  | .xd fs => ∃ mA, h.Ns1 a mA ∧ ∀ f, RelO (fs.lookup f) (mA f)
  | .rng lo hi => ∃ t u v, h.get? a = some { cls := .type "range", data := .fields #[.int lo t, .int hi u, .int 1 v] }
  | .frz o u => h.get? a = some o ∧ ObjOk H h a u
  | .tbl ps => h.get? a = some { cls := .none, data := .fields ps }
  | .met f x => h.get? a = some (PySem.W.methodObj (.ref f) (.ref x))
  | .ext φ => φ h ∧ (∃ o, h.get? a = some o) ∧ ∀ h1 h2 : Heap, φ h1 → (∀ o, h1.get? a = some o → h2.get? a = some o) → φ h2
def HOk (H : Hp) (h : Heap) : Prop := ∀ a o, H a = some o → ObjOk P w H h a o
end
section
variable {P : Program} {w : World} {H H' : Hp} {h h' : Heap} {a : Addr} {o : HO}
theorem ObjOk.lt (x : ObjOk P w H h a o) : a < h.objs.size := by
  cases o with
  | lst xs => obtain ⟨_, _, _, _, e⟩ := x; exact Heap.lt_size e
  | tup xs => obtain ⟨_, _, _, p⟩ := x; exact p.lt
  | dK kvs => obtain ⟨_, _, _, _, o, _, _, e, _⟩ := x; exact Heap.lt_size e
  | dT kvs => obtain ⟨_, _, _, _, o, _, _, e, _⟩ := x; exact Heap.lt_size e
  | set S n => obtain ⟨o, _, _, _, e, _⟩ := x; exact Heap.lt_size e
  | ins C dx fs => obtain ⟨_, _, _, e, _⟩ := x; exact Heap.lt_size e
  | own y => obtain ⟨_, e⟩ := x; exact Heap.lt_size e
  | xd fs => obtain ⟨_, ⟨_, _, _, e, _⟩, _⟩ := x; exact Heap.lt_size e
  | rng lo hi => obtain ⟨_, _, _, e⟩ := x; exact Heap.lt_size e
  | frz ob u => obtain ⟨e, _⟩ := x; exact Heap.lt_size e
  | tbl ps => exact Heap.lt_size (show h.get? a = some _ from x)
  | met f y => exact Heap.lt_size (show h.get? a = some _ from x)
  | ext φ => obtain ⟨_, ⟨_, e⟩, _⟩ := x; exact Heap.lt_size e
theorem Paired.mapP {α β : Type} {F G : α → β → Prop} : ∀ {l₁ : List α} {l₂ : List β}, Paired F l₁ l₂ → (∀ a b, F a b → G a b) → Paired G l₁ l₂
  | _, _, .nil, _ => .nil
  | _, _, .cons r t, f => .cons (f _ _ r) (Paired.mapP t f)
theorem ObjOk.stay (x : ObjOk P w H h a o) (k : ∀ b u, (b = a ∨ H b = some (.own a)) → h.get? b = some u → h'.get? b = some u)
    (ho : ∀ b, H b = some (.own a) → H' b = some (.own a)) (ht : ∀ b xs, H b = some (.tup xs) → H' b = some (.tup xs)) : ObjOk P w H' h' a o := by
  induction o with
  | lst xs => obtain ⟨z, its, n, r, e⟩ := x; exact ⟨z, its, n, r, k _ _ (.inl rfl) e⟩
  | tup xs => obtain ⟨z, its, r, ob, e, c⟩ := x; exact ⟨z, its, r, ob, k _ _ (.inl rfl) e, c⟩
  | dK kvs => obtain ⟨z, y, vs, r, ob, es, ep, e, c⟩ := x; exact ⟨z, y, vs, r, ob, es, ep, k _ _ (.inl rfl) e, c⟩
  | dT kvs =>
    obtain ⟨z, y, xs, r, ob, es, ep, e, c⟩ := x
    exact ⟨z, y, xs, Paired.mapP r fun p q z => ⟨z.1, ht _ _ z.2.1, z.2.2⟩, ob, es, ep, k _ _ (.inl rfl) e, c⟩
  | set S n => obtain ⟨ob, es, ep, t, e, c⟩ := x; exact ⟨ob, es, ep, t, k _ _ (.inl rfl) e, c⟩
  | ins C dx fs =>
    obtain ⟨d, z, ne, e, mA, ⟨od, es, ep, e2, c⟩, r⟩ := x
    exact ⟨ho _ d, z, ne, k _ _ (.inl rfl) e, mA, ⟨od, es, ep, k _ _ (.inr d) e2, c⟩, r⟩
  | own y => obtain ⟨ob, e⟩ := x; exact ⟨ob, k _ _ (.inl rfl) e⟩
  | xd fs => obtain ⟨mA, ⟨od, es, ep, e, c⟩, r⟩ := x; exact ⟨mA, ⟨od, es, ep, k _ _ (.inl rfl) e, c⟩, r⟩
  | rng lo hi => obtain ⟨t, u, v, e⟩ := x; exact ⟨t, u, v, k _ _ (.inl rfl) e⟩
  | frz ob u ih => obtain ⟨e, q⟩ := x; exact ⟨k _ _ (.inl rfl) e, ih q⟩
  | tbl ps =>
    have e : h.get? a = some { cls := .none, data := .fields ps } := x
    show h'.get? a = some { cls := .none, data := .fields ps }
    exact k a _ (.inl rfl) e
  | met f y =>
    have e : h.get? a = some (PySem.W.methodObj (.ref f) (.ref y)) := x
    show h'.get? a = some (PySem.W.methodObj (.ref f) (.ref y))
    exact k a _ (.inl rfl) e
  | ext φ => obtain ⟨p, ⟨o, e⟩, st⟩ := x; exact ⟨st _ _ p fun o q => k _ _ (.inl rfl) q, ⟨o, k _ _ (.inl rfl) e⟩, st⟩
theorem HOk.lt (x : HOk P w H h) (e : H a = some o) : a < h.objs.size := (x a o e).lt
theorem HOk.fresh (x : HOk P w H h) (e : h.objs.size ≤ a) : H a = none := by
  cases q : H a with
  | none => rfl
  | some u => exact absurd (Nat.lt_of_lt_of_le (x.lt q) e) (Nat.lt_irrefl _)
theorem HOk.kept (x : HOk P w H h) (k : ∀ b u, h.get? b = some u → h'.get? b = some u) : HOk P w H h' := fun a o e =>
  (x a o e).stay (fun b u _ q => k b u q) (fun _ q => q) fun _ _ q => q
theorem HOk.laid (x : HOk P w H h) (k : ∀ b u, h.get? b = some u → h'.get? b = some u) (hp : h.objs.size ≤ a) (new : ObjOk P w (upd H a o) h' a o) : HOk P w (upd H a o) h' := fun b u e => by
  have hn := x.fresh hp
  by_cases hb : b = a
  · subst hb; rw [upd_same] at e; cases e; exact new
  · rw [upd_ne hb] at e
    exact (x b u e).stay (fun c v _ q => k c v q) (fun c q => by rw [upd_ne (ne_of_none q hn)]; exact q) fun c xs q => by rw [upd_ne (ne_of_none q hn)]; exact q
end
def Rd (H : Hp) (a : Addr) (u : HO) : Prop := H a = some u ∨ ∃ o, H a = some (.frz o u)
theorem Rd.ok {P : Program} {w : World} {H : Hp} {h : Heap} {a : Addr} {u : HO} (r : Rd H a u) (x : HOk P w H h) : ObjOk P w H h a u := by
  rcases r with r | ⟨o, r⟩
  · exact x a u r
  · obtain ⟨_, q⟩ := x a _ r
    exact q
def Mut : Option HO → Prop
  | some (.lst _) => True
  | some (.dK _) => True
  | some (.dT _) => True
  | some (.set _ _) => True
  | some (.ins _ _ _) => True
  | some (.ext _) => True
  | _ => False
section
variable {P : Program} {w : World} {H : Hp} {h h' : Heap} {x e : Addr} {o' : HO}
theorem HOk.write (ok : HOk P w H h) (mu : Mut (H x)) (he : e = x ∨ H e = some (.own x)) (k : ∀ b u, b ≠ e → h.get? b = some u → h'.get? b = some u) (heo : ∃ u, h'.get? e = some u)
    (new : ObjOk P w (upd H x o') h' x o') : HOk P w (upd H x o') h' := fun b u q => by
  have nown : ∀ c y, H c = some (.own y) → c ≠ x := fun c y r z => by subst z; rw [r] at mu; exact mu
  have ntup : ∀ c xs, H c = some (.tup xs) → c ≠ x := fun c xs r z => by subst z; rw [r] at mu; exact mu
  by_cases hb : b = x
  · subst hb; rw [upd_same] at q; cases q; exact new
  · rw [upd_ne hb] at q
    by_cases hbe : b = e
    · have q' : H b = some (.own x) := by
        rcases he with z | z
        · exact absurd (hbe.trans z) hb
        · rw [hbe]; exact z
      rw [q] at q'; cases q'
      obtain ⟨v, hv⟩ := heo
      exact ⟨v, by rw [hbe]; exact hv⟩
    · refine (ok b u q).stay (fun c v hc r => k c v ?_ r) (fun c r => by rw [upd_ne (nown c b r)]; exact r) fun c xs r => by rw [upd_ne (ntup c xs r)]; exact r
      rcases hc with rfl | hc
      · exact hbe
      · rintro rfl
        rcases he with z | z
        · exact nown c b hc z
        · rw [hc] at z; cases z; exact hb rfl
end
structure Un (fs ex : List Addr) (H H' : Hp) (h h' : Heap) : Prop where
  keep : ∀ b o, h.get? b = some o → H b = none → b ∉ fs → b ∉ ex → h'.get? b = some o
  slot : ∀ b o, h.get? b = some o → H b = none → b ∈ fs → b ∉ ex → ∃ sl, h'.get? b = some { o with slots := sl }
  free : ∀ b o, h.get? b = some o → H b = none → b ∉ ex → H' b = none
  there : ∀ b o, h.get? b = some o → b ∉ ex → ∃ o', h'.get? b = some o'
  tups : ∀ b xs, H b = some (.tup xs) → H' b = some (.tup xs)
  frzs : ∀ b o u, H b = some (.frz o u) → H' b = some (.frz o u)
  tbls : ∀ b ps, H b = some (.tbl ps) → ∃ more, H' b = some (.tbl (ps ++ more))
section
variable {fs fs' ex ex' : List Addr} {H H1 H2 : Hp} {h h1 h2 h' : Heap} {a x e : Addr} {o : HO}
theorem Un.any (u : Un fs ex H H1 h h1) {b : Addr} {ob : Obj} (q : h.get? b = some ob) (n : H b = none) (hx : b ∉ ex) : ∃ sl, h1.get? b = some { ob with slots := sl } := by
  by_cases hb : b ∈ fs
  · exact u.slot b ob q n hb hx
  · exact ⟨ob.slots, u.keep b ob q n hb hx⟩
theorem Un.kept (k : ∀ b u, h.get? b = some u → h'.get? b = some u) : Un fs ex H H h h' :=
  ⟨fun b ob q _ _ _ => k b ob q, fun b ob q _ _ _ => ⟨ob.slots, k b ob q⟩, fun _ _ _ n _ => n, fun b ob q _ => ⟨ob, k b ob q⟩, fun _ _ q => q, fun _ _ _ q => q, fun _ ps q => ⟨#[], by rw [q]; simp⟩⟩
theorem Un.refl : Un fs ex H H h h := Un.kept fun _ _ q => q
theorem Un.laid (k : ∀ b u, h.get? b = some u → h'.get? b = some u) (hp : h.objs.size ≤ a) (hn : H a = none) : Un fs ex H (upd H a o) h h' where
  keep := fun b u q _ _ _ => k b u q
  slot := fun b u q _ _ _ => ⟨u.slots, k b u q⟩
  free := fun b u q n _ => by rw [upd_ne (Nat.ne_of_lt (Nat.lt_of_lt_of_le (Heap.lt_size q) hp))]; exact n
  there := fun b u q _ => ⟨u, k b u q⟩
  tups := fun b xs q => by rw [upd_ne (ne_of_none q hn)]; exact q
  frzs := fun b u xs q => by rw [upd_ne (ne_of_none q hn)]; exact q
  tbls := fun b ps q => ⟨#[], by rw [upd_ne (ne_of_none q hn), q]; simp⟩
theorem Un.write (mu : Mut (H x)) (he : e = x ∨ H e = some (.own x)) (k : ∀ b u, b ≠ e → h.get? b = some u → h'.get? b = some u) (heo : ∃ u, h'.get? e = some u) : Un fs ex H (upd H x o) h h' := by
  have hx : ∀ b, H b = none → b ≠ x := fun b n z => by subst z; rw [n] at mu; exact mu
  have hb : ∀ b, H b = none → b ≠ e := fun b n z => by
    subst z
    rcases he with r | r
    · exact hx b n r
    · rw [n] at r; cases r
  have hm : ∀ b u, H b = some u → ¬ Mut (some u) → b ≠ x := fun b u q nm z => by subst z; rw [q] at mu; exact nm mu
  refine ⟨fun b u q n _ _ => k b u (hb b n) q, fun b u q n _ _ => ⟨u.slots, k b u (hb b n) q⟩, fun b u q n _ => by rw [upd_ne (hx b n)]; exact n, fun b u q _ => ?_,
    fun b xs q => by rw [upd_ne (hm b _ q fun z => z)]; exact q, fun b u xs q => by rw [upd_ne (hm b _ q fun z => z)]; exact q, fun b ps q => ⟨#[], by rw [upd_ne (hm b _ q fun z => z), q]; simp⟩⟩
  by_cases hbe : b = e
  · subst hbe; exact heo
  · exact ⟨u, k b u hbe q⟩
end
def trk (h : Heap) (H : Hp) : List Addr := (List.range h.objs.size).filter fun a => (H a).isSome
def hidT (h : Heap) (H : Hp) : Heap := PySem.W.hideAll h (trk h H)
theorem hidT_size (h : Heap) (H : Hp) : (hidT h H).objs.size = h.objs.size := PySem.W.hideAll_size _ _
theorem hidT_get {h : Heap} {H : Hp} {b : Addr} {o : Obj} (e : h.get? b = some o) (n : H b = none) : (hidT h H).get? b = some o :=
  PySem.W.hideAll_get _ e fun hm => by
    have q : (H b).isSome = true := (List.mem_filter.mp hm).2
    rw [n] at q; simp at q
theorem of_hidT {h : Heap} {H : Hp} {b : Addr} {o : Obj} (e : (hidT h H).get? b = some o) : h.get? b = some o ∧ H b = none := by
  have e' : h.get? b = some o := PySem.W.of_hideAll (trk h H) e
  refine ⟨e', ?_⟩
  cases q : H b with
  | none => rfl
  | some x =>
    have hm : b ∈ trk h H := List.mem_filter.mpr ⟨List.mem_range.mpr (Heap.lt_size e'), by simp [q]⟩
    have z : (hidT h H).get? b = none := PySem.W.hideAll_none (trk h H) hm
    rw [z] at e; cases e
end L2
namespace L2
open PySem PySem.Spec PyProof.Rows
structure Mod (K : PySem.W.Frag) (mg : Str → Option Value) (base : Heap) : Prop where
  kin : K.In base
  glob : base.Ns mainGlobals mg
  blt : ∃ mb, base.Ns builtinsNs mb ∧ ∀ x : Str, x ≠ "__name__" → mb x = bootBuiltins x
  nolimit : base.NoLimit
structure Cx where
  prog : Program
  w : World
  K : PySem.W.Frag
  mg : Str → Option Value
  base : Heap
  A : Around
  N : List Str
  s₀ : Shared
  H₀ : Hp
  env : Env
  outer : List Env
  stack : List Env
  ex : List Addr
  fn : Str → Bool
  calm : Bool
  pn : List (Addr × Obj)
  xe : Value → Shared → Prop
def frs (l : List Env) : List Addr := l.filterMap (·.frame)
abbrev Cx.fs (X : Cx) : List Addr := frs X.outer
def Vis (sc : Scope) (x : Str) : Prop := sc.names.lookup x = some .local ∨ sc.names.lookup x = some .cell ∨ sc.names.lookup x = some .free
def Loc (sc : Scope) (x : Str) : Prop := sc.names.lookup x = some .local ∨ sc.names.lookup x = some .cell
def Look (env : Env) (h : Heap) (m : Str → Option Value) (x : Str) (u : Value) : Prop :=
  (env.kindOf x = some .local ∧ m x = some u) ∨ ((env.kindOf x = some .cell ∨ env.kindOf x = some .free) ∧ ∃ c, env.cells.lookup x = some c ∧ h.IsCell c (some u))
structure Cx.Ok (X : Cx) : Prop where
  mod : Mod X.K X.mg X.base
  kind : X.env.scope.kind = .function
  glob : X.env.globals = mainGlobals
  blt : X.env.builtins = builtinsNs
  above : X.s₀.heap.objs.size ≤ X.env.locals
  inj : ∀ x y c, X.env.cells.lookup x = some c → X.env.cells.lookup y = some c → x = y
  has : ∀ x, (X.env.kindOf x = some .cell ∨ X.env.kindOf x = some .free) → ∃ c, X.env.cells.lookup x = some c
  cab : ∀ x c, X.fn x = true → X.env.cells.lookup x = some c → X.s₀.heap.objs.size ≤ c
  hd : X.calm = true → X.A.handled = none
  frames : X.A.frames = some X.stack
  stk : X.stack = X.outer ∨ (X.stack = X.env :: X.outer ∧ X.env.frame = some X.env.locals)
  exf : ∀ b ∈ X.ex, b ≠ X.env.locals ∧ ∀ x c, X.env.cells.lookup x = some c → c ≠ b
  bs : ∀ b o, X.base.get? b = some o → X.s₀.heap.get? b = some o ∧ X.H₀ b = none
  bsz : X.base.objs.size ≤ X.s₀.heap.objs.size
  noex : ∀ b o, X.base.get? b = some o → b ∉ X.ex
  exfs : ∀ b ∈ X.ex, b ∉ X.fs
  funs : X.s₀.heap.FunFrames X.base X.outer
  frf : ∀ b ∈ X.fs, X.H₀ b = none
structure Inv (X : Cx) (pins : List (Addr × Obj)) (σ : List (Option V)) (H : Hp) (s : Shared) : Prop where
  ok : X.Ok
  os : s.os = X.s₀.os
  bare : AllBare s.gens
  base : Un X.fs X.ex X.H₀ H X.s₀.heap s.heap
  loc : ∃ m, s.heap.Ns X.env.locals m ∧ ∀ (i : Nat) (x : Str) (v : V), X.N[i]? = some x → σ[i]? = some (some v) → Vis X.env.scope x → ∃ u, RelV v u ∧ Look X.env s.heap m x u
  cell : ∀ x c, X.env.cells.lookup x = some c → ∃ v, s.heap.IsCell c v
  free : H X.env.locals = none
  freeC : ∀ x c, X.env.cells.lookup x = some c → H c = none
  pin : ∀ p ∈ X.pn ++ pins, s.heap.get? p.1 = some p.2 ∧ H p.1 = none ∧ p.1 ≠ X.env.locals ∧ p.1 ∉ X.fs ∧ ∀ v, p.2.data ≠ .cell v
  hok : HOk X.prog X.w H s.heap
  len : σ.length = X.N.length
section
variable {X : Cx} {pins : List (Addr × Obj)} {σ : List (Option V)} {H H' : Hp} {s : Shared} {h' : Heap}
theorem Cx.Ok.nofr (ok : X.Ok) {b : Addr} {o : Obj} (e : X.base.get? b = some o) : b ∉ X.fs := fun hb => by
  have := (ok.funs.mem hb).1
  rw [e] at this; cases this
theorem Inv.bs (I : Inv X pins σ H s) : ∀ b o, X.base.get? b = some o → s.heap.get? b = some o ∧ H b = none := fun b o e =>
  ⟨I.base.keep b o (I.ok.bs b o e).1 (I.ok.bs b o e).2 (I.ok.nofr e) (I.ok.noex b o e), I.base.free b o (I.ok.bs b o e).1 (I.ok.bs b o e).2 (I.ok.noex b o e)⟩
theorem Inv.bk (I : Inv X pins σ H s) : ∀ b o, X.base.get? b = some o → s.heap.get? b = some o := fun b o e => (I.bs b o e).1
theorem Inv.mod (I : Inv X pins σ H s) : Mod X.K X.mg X.base := I.ok.mod
theorem Inv.kIn (I : Inv X pins σ H s) : X.K.In s.heap := I.ok.mod.kin.keeps I.bk
theorem Inv.nolimit (I : Inv X pins σ H s) : s.heap.NoLimit := I.ok.mod.nolimit.keeps I.bk
theorem Inv.lt (I : Inv X pins σ H s) : X.env.locals < s.heap.objs.size := let ⟨_, hn, _⟩ := I.loc; hn.lt
theorem Inv.sz (I : Inv X pins σ H s) : X.s₀.heap.objs.size ≤ s.heap.objs.size := Nat.le_trans I.ok.above (Nat.le_of_lt I.lt)
theorem Inv.nofs (I : Inv X pins σ H s) {a : Addr} (h : s.heap.objs.size ≤ a) : a ∉ X.fs := fun hb => by
  obtain ⟨_, o, ho, _⟩ := I.ok.funs.mem hb
  exact absurd (Nat.lt_of_lt_of_le (Heap.lt_size ho) (Nat.le_trans I.sz h)) (Nat.lt_irrefl _)
theorem Inv.cne (I : Inv X pins σ H s) : ∀ x c, X.env.cells.lookup x = some c → c ≠ X.env.locals := fun x c e z => by
  obtain ⟨v, o, ho, hd⟩ := I.cell x c e
  obtain ⟨m, ⟨o', es, ep, ho', hd', _⟩, _⟩ := I.loc
  rw [z, ho'] at ho; cases ho; rw [hd'] at hd; cases hd
theorem Inv.funs (I : Inv X pins σ H s) : s.heap.FunFrames X.base X.outer := by
  have all : ∀ (l : List Env), (∀ b ∈ frs l, b ∈ X.fs) → X.s₀.heap.FunFrames X.base l → s.heap.FunFrames X.base l := by
    intro l
    induction l with
    | nil => intro _ _; trivial
    | cons env r ih =>
      intro hs hl
      obtain ⟨hk, ⟨L, o, hf, hn, ho, hd⟩, hr⟩ := hl
      have hL : L ∈ X.fs := hs L (by unfold frs; rw [List.filterMap_cons, hf]; exact List.mem_cons_self)
      obtain ⟨sl, e⟩ := I.base.slot L o ho (I.ok.frf L hL) hL fun z => I.ok.exfs L z hL
      exact ⟨hk, ⟨L, _, hf, hn, e, hd⟩, ih (fun b hb => hs b (by unfold frs; rw [List.filterMap_cons, hf]; exact List.mem_cons_of_mem _ hb)) hr⟩
  exact all X.outer (fun _ hb => hb) I.ok.funs
theorem Inv.stack (I : Inv X pins σ H s) : s.heap.FunFrames X.base X.stack := by
  rcases I.ok.stk with e | ⟨e, hf⟩
  · rw [e]; exact I.funs
  · rw [e]
    obtain ⟨m, hn, _⟩ := I.loc
    refine .cons (by rw [I.ok.kind]; decide) hf hn ?_ I.funs
    exact Heap.get?_none_of_le (Nat.le_trans I.ok.bsz I.ok.above)
theorem Inv.stkSub (I : Inv X pins σ H s) : ∀ b ∈ frs X.stack, b ∈ X.env.locals :: X.fs := fun b hb => by
  rcases I.ok.stk with e | ⟨e, hf⟩
  · rw [e] at hb; exact List.mem_cons_of_mem _ hb
  · rw [e] at hb
    unfold frs at hb
    rw [List.filterMap_cons, hf] at hb
    exact hb
theorem Inv.stkFree (I : Inv X pins σ H s) : ∀ b ∈ frs X.stack, H b = none := fun b hb => by
  rcases List.mem_cons.mp (I.stkSub b hb) with e | hb
  · rw [e]; exact I.free
  · obtain ⟨_, o, ho, _⟩ := I.ok.funs.mem hb
    exact I.base.free b o ho (I.ok.frf b hb) fun z => I.ok.exfs b z hb
theorem Inv.step {g' : Array GenState} {t' : Nat} {d' : Drawn} {ch : List Addr} (I : Inv X pins σ H s)
    (hch : ∀ b ∈ ch, (b ∈ X.ex ∨ X.s₀.heap.objs.size ≤ b) ∧ b ≠ X.env.locals ∧ (∀ x c, X.env.cells.lookup x = some c → c ≠ b) ∧ ∀ p ∈ X.pn ++ pins, p.1 ≠ b)
    (keep : ∀ b o, b ≠ X.env.locals → b ∉ X.fs → b ∉ ch → s.heap.get? b = some o → H b = none → h'.get? b = some o)
    (slot : ∀ b o, b ≠ X.env.locals → b ∈ X.fs → b ∉ ch → s.heap.get? b = some o → H b = none → ∃ sl, h'.get? b = some { o with slots := sl }) (free : ∀ b o, b ∉ ch → s.heap.get? b = some o → H b = none → H' b = none)
    (there : ∀ b o, b ∉ ch → s.heap.get? b = some o → ∃ o', h'.get? b = some o')
    (tups : ∀ b xs, H b = some (.tup xs) → H' b = some (.tup xs)) (frzs : ∀ b o u, H b = some (.frz o u) → H' b = some (.frz o u)) (tbls : ∀ b ps, H b = some (.tbl ps) → ∃ more, H' b = some (.tbl (ps ++ more)))
    (ns : ∀ m, s.heap.Ns X.env.locals m → h'.Ns X.env.locals m) (hok : HOk X.prog X.w H' h') (hg : AllBare g') :
    Inv X pins σ H' { s with heap := h', gens := g', drawn := d', toks := t' } := by
  have neL : ∀ b o, X.s₀.heap.get? b = some o → b ≠ X.env.locals := fun b o e => Nat.ne_of_lt (Nat.lt_of_lt_of_le (Heap.lt_size e) I.ok.above)
  have neC : ∀ b o, X.s₀.heap.get? b = some o → b ∉ X.ex → b ∉ ch := fun b o e hx hb => by
    rcases (hch b hb).1 with z | z
    · exact hx z
    · exact absurd (Nat.lt_of_lt_of_le (Heap.lt_size e) z) (Nat.lt_irrefl _)
  have cellK : ∀ x c, X.env.cells.lookup x = some c → ∀ v, s.heap.IsCell c v → h'.IsCell c v := fun x c e v ⟨o, ho, hd⟩ => by
    have nch : c ∉ ch := fun z => (hch c z).2.2.1 x c e rfl
    by_cases hc : c ∈ X.fs
    · obtain ⟨sl, q⟩ := slot c o (I.cne x c e) hc nch ho (I.freeC x c e)
      exact ⟨_, q, hd⟩
    · exact ⟨o, keep c o (I.cne x c e) hc nch ho (I.freeC x c e), hd⟩
  refine ⟨I.ok, I.os, hg, ⟨fun b o e n hb hx => ?_, fun b o e n hb hx => ?_, fun b o e n hx => ?_, fun b o e hx => ?_, fun b xs e => tups b xs (I.base.tups b xs e), fun b o xs e => frzs b o xs (I.base.frzs b o xs e), fun b ps e => ?_⟩, ?_, fun x c e => ?_, ?_, fun x c e => ?_, fun p hp => ?_, hok, I.len⟩
  · exact keep b o (neL b o e) hb (neC b o e hx) (I.base.keep b o e n hb hx) (I.base.free b o e n hx)
  · obtain ⟨sl, e1⟩ := I.base.slot b o e n hb hx
    obtain ⟨sl', e2⟩ := slot b _ (neL b o e) hb (neC b o e hx) e1 (I.base.free b o e n hx)
    exact ⟨sl', e2⟩
  · obtain ⟨o', e1⟩ := I.base.there b o e hx
    exact free b o' (neC b o e hx) e1 (I.base.free b o e n hx)
  · obtain ⟨o', e1⟩ := I.base.there b o e hx
    exact there b o' (neC b o e hx) e1
  · obtain ⟨m1, e1⟩ := I.base.tbls b ps e
    obtain ⟨m2, e2⟩ := tbls b _ e1
    exact ⟨m1 ++ m2, by rw [e2, Array.append_assoc]⟩
  · obtain ⟨m, hn, hl⟩ := I.loc
    refine ⟨m, ns m hn, fun i x v e1 e2 e3 => ?_⟩
    obtain ⟨u, r, l⟩ := hl i x v e1 e2 e3
    refine ⟨u, r, ?_⟩
    rcases l with l | ⟨k, c, e, z⟩
    · exact .inl l
    · exact .inr ⟨k, c, e, cellK x c e _ z⟩
  · obtain ⟨v, z⟩ := I.cell x c e
    exact ⟨v, cellK x c e v z⟩
  · obtain ⟨m, ⟨o, _, _, ho, _⟩, _⟩ := I.loc
    exact free _ o (fun z => (hch _ z).2.1 rfl) ho I.free
  · obtain ⟨v, o, ho, hd⟩ := I.cell x c e
    exact free c o (fun z => (hch c z).2.2.1 x c e rfl) ho (I.freeC x c e)
  · obtain ⟨e, n, ne, nf, d⟩ := I.pin p hp
    have nch : p.1 ∉ ch := fun z => (hch p.1 z).2.2.2 p hp rfl
    exact ⟨keep p.1 p.2 ne nf nch e n, free p.1 p.2 nch e n, ne, nf, d⟩
theorem Inv.un {t' : Nat} (I : Inv X pins σ H s) (u : Un X.fs [] H H' s.heap h') (hok : HOk X.prog X.w H' h') : Inv X pins σ H' { s with heap := h', toks := t' } := by
  obtain ⟨m, ⟨o, es, ep, ho, r⟩, _⟩ := id I.loc
  obtain ⟨sl, hL⟩ := u.any ho I.free (by simp)
  exact I.step (g' := s.gens) (d' := s.drawn) (ch := []) (fun _ z => nomatch z) (fun b o _ hb _ e n => u.keep b o e n hb (by simp)) (fun b o _ hb _ e n => u.slot b o e n hb (by simp)) (fun b o _ e n => u.free b o e n (by simp)) (fun b o _ e => u.there b o e (by simp)) u.tups u.frzs u.tbls (fun m' hm => by
    obtain ⟨o', es', ep', ho', r'⟩ := hm
    rw [ho] at ho'; cases ho'
    exact ⟨_, es', ep', hL, r'⟩) hok I.bare
theorem Inv.call {g' : Array GenState} {t' : Nat} {d' : Drawn} {ch : List Addr} (I : Inv X pins σ H s) (u : Un (frs X.stack) ch H H' s.heap h') (hok : HOk X.prog X.w H' h') (hg : AllBare g')
    (hch : ∀ b ∈ ch, (b ∈ X.ex ∨ X.s₀.heap.objs.size ≤ b) ∧ b ≠ X.env.locals ∧ (∀ x c, X.env.cells.lookup x = some c → c ≠ b) ∧ ∀ p ∈ X.pn ++ pins, p.1 ≠ b) :
    Inv X pins σ H' { s with heap := h', gens := g', drawn := d', toks := t' } := by
  obtain ⟨m, ⟨o, es, ep, ho, r⟩, _⟩ := id I.loc
  obtain ⟨sl, hL⟩ := u.any ho I.free fun z => (hch _ z).2.1 rfl
  exact I.step (ch := ch) hch (fun b o hL hb hc e n => u.keep b o e n (fun z => (List.mem_cons.mp (I.stkSub b z)).elim hL hb) hc) (fun b o _ _ hc e n => u.any e n hc) (fun b o hc e n => u.free b o e n hc) (fun b o hc e => u.there b o e hc) u.tups u.frzs u.tbls (fun m' hm => by
    obtain ⟨o', es', ep', ho', r'⟩ := hm
    rw [ho] at ho'; cases ho'
    exact ⟨_, es', ep', hL, r'⟩) hok hg
theorem Inv.turned {t' : Nat} {it : Addr} (I : Inv X pins σ H s) (k : ∀ b o, b ≠ it → s.heap.get? b = some o → h'.get? b = some o) (hn : H it = none) (hL : it ≠ X.env.locals)
    (h1 : it ∈ X.ex ∨ X.s₀.heap.objs.size ≤ it) (h2 : ∀ x c, X.env.cells.lookup x = some c → c ≠ it) (h3 : ∀ p ∈ X.pn ++ pins, p.1 ≠ it) : Inv X pins σ H { s with heap := h', toks := t' } := by
  have nit : ∀ b u, H b = some u → b ≠ it := fun b u e z => by rw [z, hn] at e; cases e
  refine I.step (g' := s.gens) (d' := s.drawn) (ch := [it]) (fun b hb => ?_) (fun b o _ _ hc e _ => k b o (fun z => hc (by simp [z])) e) (fun b o _ _ hc e _ => ⟨o.slots, k b o (fun z => hc (by simp [z])) e⟩) (fun _ _ _ _ n => n)
    (fun b o hc e => ⟨o, k b o (fun z => hc (by simp [z])) e⟩) (fun _ _ e => e) (fun _ _ _ e => e) (fun b ps e => ⟨#[], by rw [e]; simp⟩) (fun m hm => ?_) (fun b u e => ?_) I.bare
  · have e : b = it := by simpa using hb
    subst e
    exact ⟨h1, hL, h2, h3⟩
  · obtain ⟨o, es, ep, ho, r⟩ := hm
    exact ⟨o, es, ep, k _ o (Ne.symm hL) ho, r⟩
  · refine (I.hok b u e).stay (fun c v hc q => k c v ?_ q) (fun _ q => q) fun _ _ q => q
    rcases hc with z | z
    · rw [z]; exact nit b u e
    · exact nit c _ z
theorem Inv.tok (I : Inv X pins σ H s) (t : Nat) : Inv X pins σ H { s with toks := t } := I.un (h' := s.heap) (t' := t) Un.refl I.hok
theorem Inv.kept {t' : Nat} (I : Inv X pins σ H s) (k : ∀ b u, s.heap.get? b = some u → h'.get? b = some u) : Inv X pins σ H { s with heap := h', toks := t' } := I.un (Un.kept k) (I.hok.kept k)
theorem Inv.laid {a : Addr} {o : HO} {t' : Nat} (I : Inv X pins σ H s) (k : ∀ b u, s.heap.get? b = some u → h'.get? b = some u) (hp : s.heap.objs.size ≤ a) (new : ObjOk X.prog X.w (upd H a o) h' a o) :
    Inv X pins σ (upd H a o) { s with heap := h', toks := t' } := I.un (Un.laid k hp (I.hok.fresh hp)) (I.hok.laid k hp new)
theorem Inv.write {x e : Addr} {o : HO} {t' : Nat} (I : Inv X pins σ H s) (mu : Mut (H x)) (he : e = x ∨ H e = some (.own x)) (k : ∀ b u, b ≠ e → s.heap.get? b = some u → h'.get? b = some u) (heo : ∃ u, h'.get? e = some u)
    (new : ObjOk X.prog X.w (upd H x o) h' x o) : Inv X pins σ (upd H x o) { s with heap := h', toks := t' } := I.un (Un.write mu he k heo) (I.hok.write mu he k heo new)
theorem Inv.pins_of {pins' : List (Addr × Obj)} (I : Inv X pins σ H s) (h : ∀ p ∈ pins', s.heap.get? p.1 = some p.2 ∧ H p.1 = none ∧ p.1 ≠ X.env.locals ∧ p.1 ∉ X.fs ∧ ∀ v, p.2.data ≠ .cell v) : Inv X pins' σ H s :=
  ⟨I.ok, I.os, I.bare, I.base, I.loc, I.cell, I.free, I.freeC, fun p hp => (List.mem_append.mp hp).elim (fun z => I.pin p (List.mem_append_left _ z)) (h p), I.hok, I.len⟩
theorem nodup_ix {N : List Str} (hN : N.Nodup) {i j : Nat} {x : Str} (a : N[i]? = some x) (b : N[j]? = some x) : i = j := by
  obtain ⟨h1, e1⟩ := List.getElem?_eq_some_iff.mp a
  obtain ⟨h2, e2⟩ := List.getElem?_eq_some_iff.mp b
  exact (List.getElem_inj hN).mp (e1.trans e2.symm)
theorem store_ok2 {M : Model} {A : Around} {E : Value → Shared → Prop} {i : Nat} {x : Str} {v : V} {u : Value} {Q : Unit → Shared → Prop} (I : Inv X pins σ H s) (hN : X.N.Nodup) (hi : X.N[i]? = some x) (hx : Loc X.env.scope x) (r : RelV v u)
    (h : ∀ s', Inv X pins (σ.set i (some v)) H s' → (∃ a, Heap.SameBut a s.heap s'.heap ∧ (a = X.env.locals ∨ X.env.cells.lookup x = some a)) → Q () s') (hf : X.fn x = true ∨ X.env.scope.names.lookup x = some .local := by first | exact .inl rfl | exact .inr rfl | assumption) : wpAny M A (storeName X.env x u) Q E s := by
  obtain ⟨m, hn, hl⟩ := id I.loc
  have hcls : (X.env.scope.kind == .class || (X.env.scope.kind == .module && X.env.locals != X.env.globals)) = false := by rw [I.ok.kind]; rfl
  have hiσ : i < σ.length := by rw [I.len]; exact (List.getElem?_eq_some_iff.mp hi).1
  have cne := I.cne
  have tracked : ∀ {a : Addr} {h' : Heap}, (∃ o, s.heap.get? a = some o ∧ H a = none) → Heap.SameBut a s.heap h' → HOk X.prog X.w H h' := fun {a h'} ha hs b ob e => by
    obtain ⟨_, _, hfree⟩ := ha
    refine (I.hok b ob e).stay (fun c w' hc q => (hs.2 c ?_).trans q) (fun _ q => q) fun _ _ q => q
    rintro rfl
    rcases hc with rfl | hc
    · rw [hfree] at e; cases e
    · rw [hfree] at hc; cases hc
  rcases hx with hk | hk
  · refine wpAny_storeName_local hk hn (fun h' hn' hs => ?_) hcls
    obtain ⟨oL, _, _, hoL, _⟩ := id hn
    refine h _ ⟨I.ok, I.os, I.bare, ⟨fun b o e n hb hx => ?_, fun b o e n hb hx => ?_, I.base.free, fun b o e hx => ?_, I.base.tups, I.base.frzs, I.base.tbls⟩, ⟨_, hn', fun j y v' e1 e2 e3 => ?_⟩, fun y c e => ?_, I.free, I.freeC, fun p hp => ?_, tracked ⟨oL, hoL, I.free⟩ hs, by simpa using I.len⟩ ⟨_, hs, .inl rfl⟩
    · exact (hs.2 b (Nat.ne_of_lt (Nat.lt_of_lt_of_le (Heap.lt_size e) I.ok.above))).trans (I.base.keep b o e n hb hx)
    · obtain ⟨sl, e1⟩ := I.base.slot b o e n hb hx
      exact ⟨sl, (hs.2 b (Nat.ne_of_lt (Nat.lt_of_lt_of_le (Heap.lt_size e) I.ok.above))).trans e1⟩
    · obtain ⟨o', e1⟩ := I.base.there b o e hx
      exact ⟨o', (hs.2 b (Nat.ne_of_lt (Nat.lt_of_lt_of_le (Heap.lt_size e) I.ok.above))).trans e1⟩
    · by_cases hj : j = i
      · subst hj
        rw [hi] at e1; cases e1
        rw [List.getElem?_set_self hiσ] at e2
        cases e2
        exact ⟨u, r, .inl ⟨hk, by simp⟩⟩
      · rw [List.getElem?_set_ne (Ne.symm hj)] at e2
        obtain ⟨u', r', q⟩ := hl j y v' e1 e2 e3
        refine ⟨u', r', ?_⟩
        rcases q with ⟨k, e⟩ | ⟨k, c, e, z⟩
        · refine .inl ⟨k, ?_⟩
          have : y ≠ x := fun e => hj (nodup_ix hN e1 (e ▸ hi))
          simp [this, e]
        · exact .inr ⟨k, c, e, z.sameBut hs (cne y c e)⟩
    · obtain ⟨w', z⟩ := I.cell y c e
      exact ⟨w', z.sameBut hs (cne y c e)⟩
    · obtain ⟨e, n, ne, nf, d⟩ := I.pin p hp
      exact ⟨(hs.2 p.1 ne).trans e, n, ne, nf, d⟩
  · have hfn : X.fn x = true := by
      rcases hf with z | z
      · exact z
      · rw [z] at hk; cases hk
    obtain ⟨c, hc⟩ := I.ok.has x (.inl hk)
    obtain ⟨w', z⟩ := I.cell x c hc
    refine wpAny_storeName_cell I.ok.kind hk hc z (fun h' hc' hs => ?_)
    obtain ⟨oc, hoc, hocd⟩ := id z
    refine h { s with heap := h' } ⟨I.ok, I.os, I.bare, ⟨fun b o e n hb hx => ?_, fun b o e n hb hx => ?_, I.base.free, fun b o e hx => ?_, I.base.tups, I.base.frzs, I.base.tbls⟩, ⟨m, hn.sameBut hs (Ne.symm (cne x c hc)), fun j y v' e1 e2 e3 => ?_⟩, fun y c' e => ?_, I.free, I.freeC, fun p hp => ?_, tracked ⟨oc, hoc, I.freeC x c hc⟩ hs, by simpa using I.len⟩ ⟨c, hs, .inr hc⟩
    · exact (hs.2 b (Nat.ne_of_lt (Nat.lt_of_lt_of_le (Heap.lt_size e) (I.ok.cab x c hfn hc)))).trans (I.base.keep b o e n hb hx)
    · obtain ⟨sl, e1⟩ := I.base.slot b o e n hb hx
      exact ⟨sl, (hs.2 b (Nat.ne_of_lt (Nat.lt_of_lt_of_le (Heap.lt_size e) (I.ok.cab x c hfn hc)))).trans e1⟩
    · obtain ⟨o', e1⟩ := I.base.there b o e hx
      exact ⟨o', (hs.2 b (Nat.ne_of_lt (Nat.lt_of_lt_of_le (Heap.lt_size e) (I.ok.cab x c hfn hc)))).trans e1⟩
    · by_cases hj : j = i
      · subst hj
        rw [hi] at e1; cases e1
        rw [List.getElem?_set_self hiσ] at e2
        cases e2
        exact ⟨u, r, .inr ⟨.inl hk, c, hc, hc'⟩⟩
      · rw [List.getElem?_set_ne (Ne.symm hj)] at e2
        obtain ⟨u', r', q⟩ := hl j y v' e1 e2 e3
        refine ⟨u', r', ?_⟩
        rcases q with q | ⟨k, c', e, z'⟩
        · exact .inl q
        · refine .inr ⟨k, c', e, z'.sameBut hs ?_⟩
          rintro rfl
          exact hj (nodup_ix hN e1 (I.ok.inj _ _ _ e hc ▸ hi))
    · by_cases hcc : c' = c
      · subst hcc; exact ⟨_, hc'⟩
      · obtain ⟨w2, z2⟩ := I.cell y c' e
        exact ⟨w2, z2.sameBut hs hcc⟩
    · obtain ⟨e, n, ne, nf, d⟩ := I.pin p hp
      refine ⟨(hs.2 p.1 ?_).trans e, n, ne, nf, d⟩
      intro q
      rw [q, hoc] at e
      have q' : oc = p.2 := Option.some.inj e
      exact d w' (by rw [← q']; exact hocd)
theorem store_ok {M : Model} {A : Around} {E : Value → Shared → Prop} {i : Nat} {x : Str} {v : V} {u : Value} {Q : Unit → Shared → Prop} (I : Inv X pins σ H s) (hN : X.N.Nodup) (hi : X.N[i]? = some x) (hx : Loc X.env.scope x) (r : RelV v u)
    (h : ∀ s', Inv X pins (σ.set i (some v)) H s' → Q () s') (hf : X.fn x = true ∨ X.env.scope.names.lookup x = some .local := by first | exact .inl rfl | exact .inr rfl | assumption) : wpAny M A (storeName X.env x u) Q E s :=
  store_ok2 I hN hi hx r (fun s' I' _ => h s' I') hf
theorem Inv.call' {s' : Shared} {ch : List Addr} (I : Inv X pins σ H s) (ho : s'.os = s.os) (u : Un (frs X.stack) ch H H' s.heap s'.heap) (hok : HOk X.prog X.w H' s'.heap) (hg : AllBare s'.gens)
    (hch : ∀ b ∈ ch, (b ∈ X.ex ∨ X.s₀.heap.objs.size ≤ b) ∧ b ≠ X.env.locals ∧ (∀ x c, X.env.cells.lookup x = some c → c ≠ b) ∧ ∀ p ∈ X.pn ++ pins, p.1 ≠ b) : Inv X pins σ H' s' := by
  obtain ⟨h', g', d', t', o'⟩ := s'
  have e : o' = s.os := ho
  subst e
  exact I.call (g' := g') (t' := t') (d' := d') u hok hg hch
end
abbrev XK := Value → Option Addr → Hp → Prop
abbrev St := List (Option V)
abbrev VK := V → Hp → Prop
abbrev TE := St → Hp → VK → Prop
abbrev TT := St → Hp → (Bool → Hp → Prop) → Prop
abbrev TA := St → Hp → (List V → Hp → Prop) → Prop
structure Ends where
  nx : St → Hp → Prop
  rt : VK
  bk : St → Hp → Prop := fun _ _ => False
  ct : St → Hp → Prop := fun _ _ => False
abbrev TS := Ends → St → Hp → Prop
def EP (X : Cx) (pins : List (Addr × Obj)) (σ : St) (Q : VK) (u : Value) (s' : Shared) : Prop := ∃ v H', Inv X pins σ H' s' ∧ RelV v u ∧ Q v H'
def TP (X : Cx) (pins : List (Addr × Obj)) (σ : St) (Q : Bool → Hp → Prop) (b : Bool) (s' : Shared) : Prop := ∃ H', Inv X pins σ H' s' ∧ Q b H'
def AP (X : Cx) (pins : List (Addr × Obj)) (σ : St) (Q : List V → Hp → Prop) (us : List Value) (s' : Shared) : Prop := ∃ vs H', Inv X pins σ H' s' ∧ Vals vs us ∧ Q vs H'
def SP (X : Cx) (pins : List (Addr × Obj)) (D : Ends) (f : Flow) (s' : Shared) : Prop :=
  match f with
  | .next => ∃ σ' H', Inv X pins σ' H' s' ∧ D.nx σ' H'
  | .brk => ∃ σ' H', Inv X pins σ' H' s' ∧ D.bk σ' H'
  | .cont => ∃ σ' H', Inv X pins σ' H' s' ∧ D.ct σ' H'
  | .ret u => ∃ v σ' H', Inv X pins σ' H' s' ∧ RelV v u ∧ D.rt v H'
def PE (X : Cx) (e : Expr) (t : TE) : Prop :=
  ∀ (pins : List (Addr × Obj)) (s : Shared) (σ : St) (H : Hp) (Q : VK), Inv X pins σ H s → t σ H Q → wpAny (model X.prog X.w) X.A (eval e X.env) (EP X pins σ Q) X.xe s
def PT (X : Cx) (e : Expr) (t : TT) : Prop :=
  ∀ (pins : List (Addr × Obj)) (s : Shared) (σ : St) (H : Hp) (Q : Bool → Hp → Prop), Inv X pins σ H s → t σ H Q → wpAny (model X.prog X.w) X.A (isTrue e X.env (eval e X.env)) (TP X pins σ Q) X.xe s
def PW (X : Cx) (e : Expr) (t : TT) : Prop :=
  ∀ (whole : Sem Value) (pins : List (Addr × Obj)) (s : Shared) (σ : St) (H : Hp) (Q : Bool → Hp → Prop), Inv X pins σ H s → t σ H Q → wpAny (model X.prog X.w) X.A (isTrue e X.env whole) (TP X pins σ Q) X.xe s
theorem PW.pt {X : Cx} {e : Expr} {t : TT} (h : PW X e t) : PT X e t := h _
def PA (X : Cx) (es : List Expr) (t : TA) : Prop :=
  ∀ (pos : Pos) (pins : List (Addr × Obj)) (s : Shared) (σ : St) (H : Hp) (Q : List V → Hp → Prop), Inv X pins σ H s → t σ H Q → wpAny (model X.prog X.w) X.A (spliced (backTo pos (starEach es X.env))) (AP X pins σ Q) X.xe s
def PS (X : Cx) (st : Stmt) (t : TS) : Prop :=
  ∀ (pins : List (Addr × Obj)) (s : Shared) (σ : St) (H : Hp) (D : Ends), Inv X pins σ H s → t D σ H → wpAny (model X.prog X.w) X.A (exec st X.env) (SP X pins D) X.xe s
def PSs (X : Cx) (st : List Stmt) (t : TS) : Prop :=
  ∀ (pins : List (Addr × Obj)) (s : Shared) (σ : St) (H : Hp) (D : Ends), Inv X pins σ H s → t D σ H → wpAny (model X.prog X.w) X.A (execs st X.env) (SP X pins D) X.xe s
theorem thn {α : Type} {t : Sem α} {Q Q' : α → Shared → Prop} {M : Model} {A : Around} {E : Value → Shared → Prop} {s : Shared} (h : wpAny M A t Q E s) (hQ : ∀ a s, Q a s → Q' a s) : wpAny M A t Q' E s := wpAny_mono h hQ fun _ _ x => x
end L2
namespace L2
open PySem PySem.Spec PyProof.Rows
section
variable {X : Cx}
def tVar (i : Nat) : TE := fun σ H Q => ∃ v, σ[i]? = some (some v) ∧ Q v H
def tC (v : V) : TE := fun _ H Q => Q v H
theorem pe_var {i : Nat} {x : Str} {pos : Pos} (hN : X.N[i]? = some x) (hv : Vis X.env.scope x) (hd : (x == ("__debug__" : Str)) = false := by decide) (hcd : (x == ("__classdict__" : Str)) = false := by decide) : PE X (.Name x pos) (tVar i) := by
  intro pins s σ H Q I h
  obtain ⟨v, e, h⟩ := h
  obtain ⟨m, hn, hl⟩ := I.loc
  obtain ⟨u, r, l⟩ := hl i x v hN e hv
  have fin : EP X pins σ Q u s := ⟨v, H, I, r, h⟩
  rcases l with ⟨hk, hm⟩ | ⟨hk, c, hc, hcell⟩
  · exact wpAny_Name (wpAny_loadName_local I.ok.kind hk hn hm fin) hd
  · rcases hk with hk | hk
    · exact wpAny_Name (wpAny_loadName_cell I.ok.kind hk hc hcell fin) hd
    · exact wpAny_Name (wpAny_loadName_free I.ok.kind hk hc hcell fin hcd) hd
theorem pe_int {i j pos} : PE X (.Constant (.int i) j pos) (tC (.int i)) := fun _ _ _ H _ I h => wpAny_Constant_int ⟨.int i, H, I.tok _, ⟨_, rfl⟩, h⟩
theorem pe_bl {b j pos} : PE X (.Constant (.bool b) j pos) (tC (.bl b)) := fun _ _ _ H _ I h => Constant_bool ⟨.bl b, H, I, rfl, h⟩
theorem pe_non {j pos} : PE X (.Constant .none j pos) (tC .non) := fun _ _ _ H _ I h => Constant_none ⟨.non, H, I, rfl, h⟩
def Gl (X : Cx) (x : Str) : Prop := X.env.kindOf x = some .globalImplicit
theorem ld_glob {E : Value → Shared → Prop} {pins : List (Addr × Obj)} {s : Shared} {σ : St} {H : Hp} {x : Str} {u : Value} {pos : Pos} {Q : Value → Shared → Prop} (I : Inv X pins σ H s) (hg : Gl X x) (hm : X.mg x = some u) (h : Q u s)
    (hd : (x == ("__debug__" : Str)) = false := by decide) : wpAny (model X.prog X.w) X.A (eval (.Name x pos) X.env) Q E s :=
  Calls.Name_function_global I.ok.kind hg (Calls.loadGlobal_global (by rw [I.ok.glob]; exact I.mod.glob.keeps I.bk) hm h) hd
theorem ld_blt {E : Value → Shared → Prop} {pins : List (Addr × Obj)} {s : Shared} {σ : St} {H : Hp} {x : Str} {u : Value} {pos : Pos} {Q : Value → Shared → Prop} (I : Inv X pins σ H s) (hg : Gl X x) (hm : X.mg x = none) (hv : bootBuiltins x = some u) (h : Q u s)
    (hn : x ≠ "__name__" := by decide) (hd : (x == ("__debug__" : Str)) = false := by decide) : wpAny (model X.prog X.w) X.A (eval (.Name x pos) X.env) Q E s := by
  obtain ⟨mb, h1, h2⟩ := I.mod.blt
  exact Calls.Name_function_global I.ok.kind hg (Calls.loadGlobal_builtin (by rw [I.ok.glob]; exact I.mod.glob.keeps I.bk) hm (by rw [I.ok.blt]; exact h1.keeps I.bk) ((h2 x hn).trans hv) h) hd
theorem pe_glob {x : Str} {v : V} {u : Value} {pos : Pos} (hg : Gl X x) (hm : X.mg x = some u) (r : RelV v u) (hd : (x == ("__debug__" : Str)) = false := by decide) : PE X (.Name x pos) (tC v) :=
  fun _ _ _ H _ I h => ld_glob I hg hm ⟨v, H, I, r, h⟩ hd
theorem pe_bltn {x : Str} {v : V} {u : Value} {pos : Pos} (hg : Gl X x) (hm : X.mg x = none) (hv : bootBuiltins x = some u) (r : RelV v u) (hn : x ≠ "__name__" := by decide) (hd : (x == ("__debug__" : Str)) = false := by decide) : PE X (.Name x pos) (tC v) :=
  fun _ _ _ H _ I h => ld_blt I hg hm hv ⟨v, H, I, r, h⟩ hn hd
variable {a b : Expr} {ta tb : TE} {pos : Pos}
def tB (t : TE) : TT := fun σ H Q => t σ H fun x H1 => ∃ c, x = .bl c ∧ Q c H1
theorem pt_val {e : Expr} {t : TE} (h : PE X e t) (he : ∀ whole, isTrue e X.env whole = (do let v ← whole; standAt e.pos; holding [v] (truthy v)) := by intro _; rfl) : PT X e (tB t) := by
  intro pins s σ H Q I hw
  refine isTrue_plain (thn (h pins s σ H _ I hw) fun v s1 ⟨x, H1, I1, r1, q1⟩ => ?_) (he _)
  obtain ⟨d, rfl, q⟩ := q1
  cases r1
  exact wpAny_truthy_bool ⟨H1, I1, q⟩
variable {tA tB' : TT} {rest : List Expr}
def tAnd (t u : TT) : TT := fun σ H Q => t σ H fun c H1 => if c = true then u σ H1 Q else Q false H1
def tOr (t u : TT) : TT := fun σ H Q => t σ H fun c H1 => if c = true then Q true H1 else u σ H1 Q
def tNot (t : TT) : TT := fun σ H Q => t σ H fun c H1 => Q (!c) H1
theorem pw_and1 (ha : PT X a tA) : PW X (.BoolOp .And [a] pos) tA := by
  intro wh pins s σ H Q I h
  refine isTrue_and (thn (ha pins s σ H Q I h) fun c s1 e => ?_)
  cases c with
  | true => exact isTrue_and_nil e
  | false => exact e
theorem pw_or1 (ha : PT X a tA) : PW X (.BoolOp .Or [a] pos) tA := by
  intro wh pins s σ H Q I h
  refine isTrue_or (thn (ha pins s σ H Q I h) fun c s1 e => ?_)
  cases c with
  | false => exact isTrue_or_nil e
  | true => exact e
theorem pw_and (ha : PT X a tA) (hb : PW X (.BoolOp .And (b :: rest) pos) tB') : PW X (.BoolOp .And (a :: b :: rest) pos) (tAnd tA tB') := by
  intro wh pins s σ H Q I h
  refine isTrue_and (thn (ha pins s σ H _ I h) fun c s1 ⟨H1, I1, q1⟩ => ?_)
  cases c with
  | true => exact hb wh pins s1 σ H1 Q I1 q1
  | false => exact ⟨H1, I1, q1⟩
theorem pw_or (ha : PT X a tA) (hb : PW X (.BoolOp .Or (b :: rest) pos) tB') : PW X (.BoolOp .Or (a :: b :: rest) pos) (tOr tA tB') := by
  intro wh pins s σ H Q I h
  refine isTrue_or (thn (ha pins s σ H _ I h) fun c s1 ⟨H1, I1, q1⟩ => ?_)
  cases c with
  | true => exact ⟨H1, I1, q1⟩
  | false => exact hb wh pins s1 σ H1 Q I1 q1
theorem pt_not (ha : PT X a tA) : PT X (.UnaryOp .Not a pos) (tNot tA) := by
  intro pins s σ H Q I h
  exact isTrue_not (ha pins s σ H (fun c H1 => Q (!c) H1) I h)
def tAndV (ta tb : TE) : TE := fun σ H Q => ta σ H fun x H1 => ∃ c, x = .bl c ∧ if c = true then tb σ H1 Q else Q (.bl false) H1
def tNotV (ta : TE) : TE := fun σ H Q => ta σ H fun x H1 => ∃ c, x = .bl c ∧ Q (.bl (!c)) H1
theorem pe_one {op} {t : TE} (h : PE X a t) : PE X (.BoolOp op [a] pos) t := fun pins s σ H Q I hw => BoolOp_one (h pins s σ H Q I hw)
theorem pe_and (ha : PE X a ta) (hb : PE X (.BoolOp .And (b :: rest) pos) tb) : PE X (.BoolOp .And (a :: b :: rest) pos) (tAndV ta tb) := by
  intro pins s σ H Q I h
  refine BoolOp_and (thn (ha pins s σ H _ I h) fun v s1 ⟨x, H1, I1, r1, q1⟩ => ?_)
  obtain ⟨c, rfl, q1⟩ := q1
  cases r1
  refine wpAny_truthy_bool ?_
  cases c with
  | true => exact hb pins s1 σ H1 Q I1 q1
  | false => exact ⟨.bl false, H1, I1, rfl, q1⟩
theorem pe_not (ha : PE X a ta) : PE X (.UnaryOp .Not a pos) (tNotV ta) := by
  intro pins s σ H Q I h
  refine UnaryOp_ (thn (ha pins s σ H _ I h) fun v s1 ⟨x, H1, I1, r1, q1⟩ => ?_)
  obtain ⟨c, rfl, q1⟩ := q1
  cases r1
  exact not_of (wpAny_truthy_bool ⟨.bl (!c), H1, I1, rfl, q1⟩)
def tIf (t : TT) (ta tb : TE) : TE := fun σ H Q => t σ H fun c H1 => if c = true then ta σ H1 Q else tb σ H1 Q
theorem pe_ifExp {c : Expr} (hc : PT X c tA) (ha : PE X a ta) (hb : PE X b tb) : PE X (.IfExp c a b pos) (tIf tA ta tb) := by
  intro pins s σ H Q I h
  refine wpAny_IfExp (thn (hc pins s σ H _ I h) fun d s1 ⟨H1, I1, q1⟩ => ?_)
  cases d with
  | true => exact ha pins s1 σ H1 Q I1 q1
  | false => exact hb pins s1 σ H1 Q I1 q1
end
end L2
namespace L2
open PySem PySem.Spec PyProof.Rows
def SqL (K : PySem.W.Frag) (H : Hp) (a : Addr) (xs : List V) : Prop :=
  Rd H a (.lst xs) ∨
    ∃ (o : Obj) (its : Array Value) (n : Nat), K.lookup a = some o ∧ o.cls = .type "list" ∧ o.dict = none ∧ o.data = .seq its n ∧ its.size ≤ sizeLine ∧ Vals xs its.toList
def SqT (K : PySem.W.Frag) (H : Hp) (a : Addr) (xs : List V) : Prop :=
  Rd H a (.tup xs) ∨
    ∃ (o : Obj) (its : Array Value) (n : Nat), K.lookup a = some o ∧ o.cls = .type "tuple" ∧ o.data = .seq its n ∧ its.size ≤ sizeLine ∧ Vals xs its.toList
def absV : Value → Option V
  | .none => some .non
  | .bool b => some (.bl b)
  | .int i _ => some (.int i)
  | .str x _ => some (.str x)
  | .bytes b _ => some (.byt b)
  | .float b _ => some (.flt b)
  | .ref a => some (.ref a)
  | .type n => some (.ty n)
  | _ => none
theorem RelV.abs {x : V} {u : Value} (r : RelV x u) : absV u = some x := by
  cases x with
  | non => cases r; rfl
  | bl _ => cases r; rfl
  | int _ => obtain ⟨t, rfl⟩ := r; rfl
  | str _ => obtain ⟨t, rfl⟩ := r; rfl
  | byt _ => obtain ⟨t, rfl⟩ := r; rfl
  | flt _ => obtain ⟨t, rfl⟩ := r; rfl
  | ref _ => cases r; rfl
  | ty _ => cases r; rfl
theorem RelV.inj {x y : V} {u : Value} (r : RelV x u) (q : RelV y u) : x = y := Option.some.inj (r.abs.symm.trans q.abs)
theorem Vals.inj : ∀ {xs ys : List V} {us : List Value}, Vals xs us → Vals ys us → xs = ys
  | _, _, _, .nil, .nil => rfl
  | _, _, _, .cons r t, .cons r' t' => by rw [r.inj r', Vals.inj t t']
section
variable {X : Cx} {pins : List (Addr × Obj)} {σ : St} {H : Hp} {s : Shared} {a : Addr} {xs ys : List V}
theorem SqL.of {K : PySem.W.Frag} (h : H a = some (.lst xs)) : SqL K H a xs := .inl (.inl h)
theorem SqT.of {K : PySem.W.Frag} (h : H a = some (.tup xs)) : SqT K H a xs := .inl (.inl h)
theorem Inv.list (I : Inv X pins σ H s) (h : SqL X.K H a xs) : ∃ its : List Value, Vals xs its ∧ PlainL s.heap a its.toArray ∧ xs.length ≤ sizeLine := by
  rcases h with h | ⟨o, its, n, hk, hc, hd, hs, hz, r⟩
  · obtain ⟨z, its, n, r, e⟩ := h.ok I.hok
    exact ⟨its, r, ⟨_, n, e, rfl, rfl, rfl⟩, z⟩
  · refine ⟨its.toList, r, ⟨o, n, I.kIn a o hk, hc, hd, by simpa using hs⟩, ?_⟩
    have e := r.length
    simp only [Array.length_toList] at e
    omega
theorem Inv.tuple (I : Inv X pins σ H s) (h : SqT X.K H a xs) : ∃ its : List Value, Vals xs its ∧ IsTup s.heap a its.toArray ∧ xs.length ≤ sizeLine := by
  rcases h with h | ⟨o, its, n, hk, hc, hs, hz, r⟩
  · obtain ⟨z, its, r, p⟩ := h.ok I.hok
    exact ⟨its, r, p, z⟩
  · refine ⟨its.toList, r, ⟨o, I.kIn a o hk, hc, n, by simpa using hs⟩, ?_⟩
    have e := r.length
    simp only [Array.length_toList] at e
    omega
theorem Inv.list_inj (I : Inv X pins σ H s) (h : SqL X.K H a xs) (h' : SqL X.K H a ys) : xs = ys := by
  obtain ⟨its, r, ⟨o, n, e, _, _, d⟩, _⟩ := I.list h
  obtain ⟨its', r', ⟨o', n', e', _, _, d'⟩, _⟩ := I.list h'
  rw [e] at e'; cases e'
  rw [d] at d'
  injection d' with d1 _
  have : its = its' := by simpa using congrArg Array.toList d1
  subst this
  exact r.inj r'
theorem Inv.tuple_inj (I : Inv X pins σ H s) (h : SqT X.K H a xs) (h' : SqT X.K H a ys) : xs = ys := by
  obtain ⟨its, r, ⟨o, e, _, n, d⟩, _⟩ := I.tuple h
  obtain ⟨its', r', ⟨o', e', _, n', d'⟩, _⟩ := I.tuple h'
  rw [e] at e'; cases e'
  rw [d] at d'
  injection d' with d1 _
  have : its = its' := by simpa using congrArg Array.toList d1
  subst this
  exact r.inj r'
end
abbrev Cx.wish (X : Cx) (E : Value → Shared → Prop) : Cx := { X with xe := E }
abbrev Cx.nox (X : Cx) : Cx := X.wish fun _ _ => False
theorem Cx.Ok.wish {X : Cx} (ok : X.Ok) (E : Value → Shared → Prop) : (X.wish E).Ok :=
  ⟨ok.mod, ok.kind, ok.glob, ok.blt, ok.above, ok.inj, ok.has, ok.cab, ok.hd, ok.frames, ok.stk, ok.exf, ok.bs, ok.bsz, ok.noex, ok.exfs, ok.funs, ok.frf⟩
theorem Cx.Ok.unwish {X : Cx} {E : Value → Shared → Prop} (ok : (X.wish E).Ok) : X.Ok :=
  ⟨ok.mod, ok.kind, ok.glob, ok.blt, ok.above, ok.inj, ok.has, ok.cab, ok.hd, ok.frames, ok.stk, ok.exf, ok.bs, ok.bsz, ok.noex, ok.exfs, ok.funs, ok.frf⟩
section
variable {X : Cx} {pins : List (Addr × Obj)} {σ : St} {H : Hp} {s : Shared} {E : Value → Shared → Prop}
theorem Inv.wish (I : Inv X pins σ H s) (E : Value → Shared → Prop) : Inv (X.wish E) pins σ H s := ⟨I.ok.wish E, I.os, I.bare, I.base, I.loc, I.cell, I.free, I.freeC, I.pin, I.hok, I.len⟩
theorem Inv.unwish (I : Inv (X.wish E) pins σ H s) : Inv X pins σ H s := ⟨I.ok.unwish, I.os, I.bare, I.base, I.loc, I.cell, I.free, I.freeC, I.pin, I.hok, I.len⟩
theorem SP.unwish {D : Ends} {f : Flow} {s' : Shared} (h : SP (X.wish E) pins D f s') : SP X pins D f s' := by
  cases f with
  | next => obtain ⟨σ', H', I, q⟩ := h; exact ⟨σ', H', I.unwish, q⟩
  | brk => obtain ⟨σ', H', I, q⟩ := h; exact ⟨σ', H', I.unwish, q⟩
  | cont => obtain ⟨σ', H', I, q⟩ := h; exact ⟨σ', H', I.unwish, q⟩
  | ret u => obtain ⟨v, σ', H', I, r, q⟩ := h; exact ⟨v, σ', H', I.unwish, r, q⟩
theorem PSs.nox {st : List Stmt} {t : TS} (h : PSs X.nox st t) : PSs X st t := fun pins s σ H D I hw =>
  wpAny_mono (h pins s σ H D (I.wish _) hw) (fun _ _ q => q.unwish) fun _ _ z => False.elim z
end
section
variable {X : Cx} {st : Stmt} {rest : List Stmt} {t u : TS} {e : Expr} {te : TE} {pos : Pos}
def tNext : TS := fun D σ H => D.nx σ H
def tSeq (t u : TS) : TS := fun D σ H => t { D with nx := u D } σ H
theorem pss_nil : PSs X [] tNext := fun _ _ σ H _ I h => wpAny_execs_nil ⟨σ, H, I, h⟩
theorem pss_cons (h1 : PS X st t) (h2 : PSs X rest u) : PSs X (st :: rest) (tSeq t u) := by
  intro pins s σ H D I h
  refine wpAny_execs_cons (thn (h1 pins s σ H { D with nx := u D } I h) fun f s1 q => ?_)
  cases f with
  | next =>
    obtain ⟨σ', H', I', q⟩ := q
    exact h2 pins s1 σ' H' D I' q
  | ret v => exact q
  | brk => exact q
  | cont => exact q
theorem pss_one (h1 : PS X st t) : PSs X [st] t := by
  intro pins s σ H D I h
  refine wpAny_execs_cons (thn (h1 pins s σ H D I h) fun f s1 q => ?_)
  cases f with
  | next => exact wpAny_execs_nil q
  | ret v => exact q
  | brk => exact q
  | cont => exact q
theorem Inv.quiet {pins : List (Addr × Obj)} {σ : St} {H : Hp} {s : Shared} (I : Inv X pins σ H s) : interactive X.env = false := by simp [interactive, I.ok.kind]
def tDrop (te : TE) : TS := fun D σ H => te σ H fun _ H1 => D.nx σ H1
theorem ps_expr (he : PE X e te) (hs : swapsWith e none pos.line X.env = pure false := by rfl) : PS X (.Expr e pos) (tDrop te) := by
  intro pins s σ H D I h
  exact wpAny_Expr_any (thn (he pins s σ H _ I h) fun v s1 ⟨x, H1, I1, r1, q1⟩ => ⟨σ, H1, I1, q1⟩) I.quiet hs
def tRet (te : TE) : TS := fun D σ H => te σ H D.rt
theorem ps_ret (he : PE X e te) : PS X (.Return (some e) pos) (tRet te) := by
  intro pins s σ H D I h
  exact wpAny_Return_some (thn (he pins s σ H _ I h) fun v s1 ⟨x, H1, I1, r1, q1⟩ => ⟨x, σ, H1, I1, r1, q1⟩)
def tIfS (c : TT) (t u : TS) : TS := fun D σ H => c σ H fun b H1 => if b = true then t D σ H1 else u D σ H1
theorem ps_if {c : Expr} {a b : List Stmt} {tc : TT} (hc : PT X c tc) (ha : PSs X a t) (hb : PSs X b u) : PS X (.If c a b pos) (tIfS tc t u) := by
  intro pins s σ H D I h
  refine wpAny_If (thn (hc pins s σ H _ I h) fun d s1 ⟨H1, I1, q1⟩ => ?_)
  cases d with
  | true => exact ha pins s1 σ H1 D I1 q1
  | false => exact hb pins s1 σ H1 D I1 q1
def tNever : TS := fun _ _ _ => False
theorem ps_never : PS X st tNever := fun _ _ _ _ _ _ h => h.elim
end
abbrev TG := V → St → Hp → (St → Hp → Prop) → Prop
abbrev TGs := List V → St → Hp → (St → Hp → Prop) → Prop
def PG (X : Cx) (target : Expr) (t : TG) : Prop :=
  ∀ (pins : List (Addr × Obj)) (s : Shared) (σ : St) (H : Hp) (v : V) (u : Value) (Q : St → Hp → Prop), Inv X pins σ H s → RelV v u → t v σ H Q →
    wpAny (model X.prog X.w) X.A (assign target X.env u) (fun _ s' => ∃ σ' H', Inv X pins σ' H' s' ∧ Q σ' H') X.xe s
def PGs (X : Cx) (ts : List Expr) (t : TGs) : Prop :=
  ∀ (pins : List (Addr × Obj)) (s : Shared) (σ : St) (H : Hp) (vs : List V) (us : List Value) (Q : St → Hp → Prop), Inv X pins σ H s → Vals vs us → t vs σ H Q →
    wpAny (model X.prog X.w) X.A (assignInOrder ((assignEach ts X.env).map (·.2)) us) (fun _ s' => ∃ σ' H', Inv X pins σ' H' s' ∧ Q σ' H') X.xe s
abbrev TSet := V → V → V → Hp → (Hp → Prop) → Prop
def PSet (X : Cx) (t : TSet) : Prop :=
  ∀ (pins : List (Addr × Obj)) (s : Shared) (σ : St) (H : Hp) (o i v : V) (ov iv u : Value) (Q : Hp → Prop), Inv X pins σ H s → RelV o ov → RelV i iv → RelV v u → t o i v H Q →
    wpAny (model X.prog X.w) X.A (setItem ov iv u) (fun _ s' => ∃ H', Inv X pins σ H' s' ∧ Q H') X.xe s
section
variable {X : Cx} {pos : Pos}
def gName (i : Nat) : TG := fun v σ H Q => Q (σ.set i (some v)) H
theorem pg_name {i : Nat} {x : Str} (hN : X.N.Nodup) (hi : X.N[i]? = some x) (hx : Loc X.env.scope x) (hf : X.fn x = true ∨ X.env.scope.names.lookup x = some .local := by first | exact .inl rfl | exact .inr rfl | assumption) : PG X (.Name x pos) (gName i) := by
  intro pins s σ H v u Q I r h
  exact wpAny_assign_Name (store_ok I hN hi hx r (fun s' I' => ⟨_, H, I', h⟩) hf)
def gNil : TGs := fun vs σ H Q => vs = [] ∧ Q σ H
def gCons (t : TG) (u : TGs) : TGs := fun vs σ H Q => ∃ v r, vs = v :: r ∧ t v σ H fun σ' H' => u r σ' H' Q
theorem pgs_nil : PGs X [] gNil := by
  intro pins s σ H vs us Q I r h
  obtain ⟨e, h⟩ := h
  subst e
  cases r
  exact assignInOrder_nil ⟨σ, H, I, h⟩
theorem pgs_cons {e : Expr} {es : List Expr} {t : TG} {u : TGs} (h1 : PG X e t) (h2 : PGs X es u)
    (hs : (assignEach (e :: es) X.env).map (·.2) = assign e X.env :: (assignEach es X.env).map (·.2) := by rfl) : PGs X (e :: es) (gCons t u) := by
  intro pins s σ H vs us Q I r h
  obtain ⟨v, vr, e1, h⟩ := h
  subst e1
  cases r with
  | cons r rr =>
    rw [hs]
    refine assignInOrder_cons (thn (h1 pins s σ H _ _ _ I r h) fun _ s1 ⟨σ1, H1, I1, q1⟩ => ?_)
    exact h2 pins s1 σ1 H1 _ _ Q I1 rr q1
def gTup (K : PySem.W.Frag) (n : Nat) (t : TGs) : TG := fun v σ H Q => ∃ a xs, v = .ref a ∧ SqT K H a xs ∧ xs.length = n ∧ t xs σ H Q
theorem pg_tup {es : List Expr} {k : Nat} {t : TGs} {n : Nat} (hc : X.calm = true) (h : PGs X es t)
    (hn : (assignEach es X.env).length = n := by rfl) (hst : (assignEach es X.env).findIdx? (·.1) = none := by rfl) : PG X (.Tuple es k pos) (gTup X.K n t) := by
  intro pins s σ H v u Q I r hw
  obtain ⟨a, xs, e1, hq, hl, hw⟩ := hw
  subst e1
  cases r
  obtain ⟨its, rv, ht, hz⟩ := I.tuple hq
  refine assign_Tuple_tuple (I.ok.hd hc) ht (by simp [hn, ← hl, rv.length]) hst fun h' hx => ?_
  have I1 : Inv X pins σ H { s with heap := h' } := I.kept (t' := s.toks) fun b o e => hx b o (Nat.ne_of_lt (Heap.lt_size e)) e
  exact h pins _ σ H xs _ Q I1 (by simpa using rv) hw
def gSub (to ti : TE) (t : TSet) : TG := fun v σ H Q => to σ H fun o H1 => ti σ H1 fun i H2 => t o i v H2 fun H3 => Q σ H3
theorem pg_sub {o i : Expr} {to ti : TE} {t : TSet} (ho : PE X o to) (hi : PE X i ti) (hs : PSet X t)
    (ha : ∀ v, assign (.Subscript o i pos) X.env v = (do
      let ov ← holding [v] (eval o X.env)
      let iv ← holding [v, ov] (eval i X.env)
      standAt pos
      holding [v, ov, iv] (setItem ov iv v)
      release [v, ov, iv] []) := by intro _; rfl) : PG X (.Subscript o i pos) (gSub to ti t) := by
  intro pins s σ H v u Q I r h
  rw [ha]
  refine wpAny_bind (wpAny_holding (thn (ho pins s σ H _ I h) fun ov s1 ⟨x, H1, I1, r1, q1⟩ => ?_))
  refine wpAny_bind (wpAny_holding (thn (hi pins s1 σ H1 _ I1 q1) fun iv s2 ⟨y, H2, I2, r2, q2⟩ => ?_))
  refine wpAny_bind (wpAny_standAt (wpAny_bind (wpAny_holding (thn (hs pins s2 σ H2 x y v ov iv u _ I2 r1 r2 r q2) fun _ s3 ⟨H3, I3, q3⟩ => ?_))))
  exact wpAny_release ⟨σ, H3, I3, q3⟩
def tAsg (te : TE) (g : TG) : TS := fun D σ H => te σ H fun x H1 => g x σ H1 D.nx
theorem ps_asg {tg e : Expr} {te : TE} {g : TG} (he : PE X e te) (hg : PG X tg g) (hs : swapsWithSole [tg] e pos.line X.env = pure false := by rfl) (hw : swappedStores [tg] e X.env = pure none := by rfl)
    (h1 : (assignEach [tg] X.env).map (·.2) = [assign tg X.env] := by rfl) : PS X (.Assign [tg] e pos) (tAsg te g) := by
  intro pins s σ H D I h
  refine wpAny_Assign_stores (thn (he pins s σ H _ I h) fun v s1 ⟨x, H1, I1, r1, q1⟩ => ?_) hs hw
  rw [h1]
  exact thn (hg pins s1 σ H1 x v _ I1 r1 q1) fun _ s2 q => q
theorem ps_set {i : Nat} {x : Str} {e : Expr} {te : TE} {pos' : Pos} (hN : X.N.Nodup) (hi : X.N[i]? = some x) (hx : Loc X.env.scope x) (he : PE X e te) (hs : swapsWith e (some (.Name x pos')) pos.line X.env = pure false := by rfl) (hf : X.fn x = true ∨ X.env.scope.names.lookup x = some .local := by first | exact .inl rfl | exact .inr rfl | assumption) :
    PS X (.Assign [.Name x pos'] e pos) (tAsg te (gName i)) := by
  intro pins s σ H D I h
  refine wpAny_Assign_Name (thn (he pins s σ H _ I h) fun v s1 ⟨y, H1, I1, r1, q1⟩ => ?_) hs
  exact store_ok I1 hN hi hx r1 (fun s2 I2 => ⟨_, H1, I2, q1⟩) hf
end
section
variable {X : Cx} {pos : Pos}
def tWhile (c : TT) (tb : TS) : TS := fun D σ H => ∃ W : Nat → St → Hp → Prop, (∃ m, W m σ H) ∧ ∀ m σ H, W m σ H →
  c σ H fun b H1 => if b = true then ∃ N : St → Hp → Prop, (∀ σ' H', N σ' H' → ∃ m', m' < m ∧ W m' σ' H') ∧ tb { D with nx := N, ct := N, bk := D.nx } σ H1 else D.nx σ H1
theorem ps_while {c : Expr} {body : List Stmt} {tc : TT} {tb : TS} (hp : PassesOwn (model X.prog X.w) X.A X.env X.xe) (hc : PT X c tc) (hb : PSs X body tb) : PS X (.While c body [] pos) (tWhile tc tb) := by
  intro pins s σ H D I h
  obtain ⟨W, ⟨m0, w0⟩, turn⟩ := h
  refine wpAny_While (codeAny_whileLoop (fun n s' => ∃ σ' H', Inv X pins σ' H' s' ∧ W n σ' H') ?_ m0 ⟨σ, H, I, w0⟩)
  rintro n s1 ⟨σ1, H1, I1, w1⟩
  refine wpAny_passesOwn hp (thn (hc pins s1 σ1 H1 _ I1 (turn n σ1 H1 w1)) fun b s2 ⟨H2, I2, q2⟩ => ?_)
  cases b with
  | true =>
    obtain ⟨N, hN, q2⟩ := q2
    rw [if_pos rfl]
    refine wpAny_passesOwn hp (thn (hb pins s2 σ1 H2 _ I2 q2) fun f s3 q3 => ?_)
    cases f with
    | next =>
      obtain ⟨σ3, H3, I3, n3⟩ := q3
      obtain ⟨m', hm, w3⟩ := hN σ3 H3 n3
      exact ⟨m', hm, σ3, H3, I3, w3⟩
    | cont =>
      obtain ⟨σ3, H3, I3, n3⟩ := q3
      obtain ⟨m', hm, w3⟩ := hN σ3 H3 n3
      exact ⟨m', hm, σ3, H3, I3, w3⟩
    | brk => exact q3
    | ret v => exact q3
  | false =>
    rw [if_neg Bool.false_ne_true]
    exact wpAny_execs_nil ⟨σ1, H2, I2, q2⟩
end
structure It where
  go : Nat → Hp → Prop
  yld : Nat → Hp → V → Hp → Prop
  stop : Nat → Hp → Prop
def FpOk (X : Cx) (pins : List (Addr × Obj)) (H : Hp) (b : Addr) : Prop :=
  H b = none ∧ b ≠ X.env.locals ∧ b ∉ X.fs ∧ (b ∈ X.ex ∨ X.s₀.heap.objs.size ≤ b) ∧ (∀ x c, X.env.cells.lookup x = some c → c ≠ b) ∧ ∀ p ∈ X.pn ++ pins, p.1 ≠ b
theorem Inv.fpOk {X : Cx} {pins : List (Addr × Obj)} {σ : St} {H H' : Hp} {s : Shared} {b : Addr} (I : Inv X pins σ H s) (hb : s.heap.objs.size ≤ b) (hn : H' b = none) : FpOk X pins H' b := by
  refine ⟨hn, Nat.ne_of_gt (Nat.lt_of_lt_of_le I.lt hb), I.nofs hb, .inr (Nat.le_trans I.sz hb), fun x c e z => ?_, fun p hp z => ?_⟩
  · obtain ⟨v, q⟩ := I.cell x c e
    exact absurd (Nat.lt_of_lt_of_le q.lt (by rw [z]; exact hb)) (Nat.lt_irrefl _)
  · exact absurd (Nat.lt_of_lt_of_le (Heap.lt_size (I.pin p hp).1) (by rw [z]; exact hb)) (Nat.lt_irrefl _)
structure Turn (P : Program) (w : World) (K : PySem.W.Frag) (tg : Expr) (J : It) (fp : List Addr) (it : Addr) (tn : Nat → Heap → Prop) : Prop where
  mem : it ∈ fp
  obj : ∀ i h, tn i h → ∀ b ∈ fp, ∃ o, h.get? b = some o ∧ ∀ v, o.data ≠ .cell v
  keep : ∀ i h h', tn i h → (∀ b ∈ fp, ∀ o, h.get? b = some o → h'.get? b = some o) → tn i h'
  item : ∀ (X : Cx), X.prog = P → X.w = w → X.K = K → X.calm = true → ∀ (i : Nat) (pins : List (Addr × Obj)) (s : Shared) (σ : St) (H : Hp) (E : Value → Shared → Prop), Inv X pins σ H s → (∀ b ∈ fp, FpOk X pins H b) → tn i s.heap → J.go i H →
    wpAny (model P w) X.A (pyNext (.ref it)) (fun r s1 => ∃ u, r = some u ∧
      wpAny (model P w) X.A (letOwnedTupleGo tg (.ref it) u) (fun _ s2 => ∃ x H', Inv X pins σ H' s2 ∧ RelV x u ∧ J.yld i H x H' ∧ tn (i + 1) s2.heap ∧ ∀ b ∈ fp, H' b = none) E s1) E s
  done : ∀ (X : Cx), X.prog = P → X.w = w → X.K = K → X.calm = true → ∀ (i : Nat) (pins : List (Addr × Obj)) (s : Shared) (σ : St) (H : Hp) (E : Value → Shared → Prop), Inv X pins σ H s → (∀ b ∈ fp, FpOk X pins H b) → tn i s.heap → J.stop i H →
    wpAny (model P w) X.A (pyNext (.ref it)) (fun r s1 => r = none ∧ Inv X pins σ H s1) E s
  self : ∀ (A : Around) (i : Nat) (s : Shared) (Q : Value → Shared → Prop) (E : Value → Shared → Prop), tn i s.heap → Q (.ref it) s → wpAny (model P w) A (pyIter (.ref it)) Q E s
abbrev TI := St → Hp → (It → Hp → Prop) → Prop
def PIE (X : Cx) (pins : List (Addr × Obj)) (σ : St) (tg : Expr) (R : It → Hp → Prop) (itv : Value) (s2 : Shared) : Prop :=
  ∃ (it : Addr) (fp : List Addr) (tn : Nat → Heap → Prop) (J : It) (H' : Hp), itv = .ref it ∧ Inv X pins σ H' s2 ∧ Turn X.prog X.w X.K tg J fp it tn ∧ tn 0 s2.heap ∧ (∀ b ∈ fp, FpOk X pins H' b) ∧ R J H'
def PI (X : Cx) (tg iter : Expr) (wi : TI) : Prop :=
  ∀ (pins : List (Addr × Obj)) (s : Shared) (σ : St) (H : Hp) (R : It → Hp → Prop), Inv X pins σ H s → wi σ H R →
    wpAny (model X.prog X.w) X.A (eval iter X.env) (fun v s1 => wpAny (model X.prog X.w) X.A (pyIter v) (PIE X pins σ tg R) X.xe s1) X.xe s
theorem go_of {M : Model} {A : Around} {E : Value → Shared → Prop} {s : Shared} {tg : Expr} {it : Addr} {u : Value} {o : Obj} {n : String} {vs : Array Value} {Q : Unit → Shared → Prop} (ho : s.heap.get? it = some o) (hc : o.cls = .type n) (hd : o.data = .fields vs)
    (hn : ["enumerate", "zip", "dict_itemiterator", "dict_reverseitemiterator", "odict_iterator", "itertools.zip_longest", "itertools.pairwise"].contains n = false) (hQ : Q () s) : wpAny M A (letOwnedTupleGo tg (.ref it) u) Q E s := by
  unfold letOwnedTupleGo
  cases tg <;> first
    | exact wpAny_pure hQ
    | (cases u <;> first
        | exact wpAny_pure hQ
        | (refine wpAny_bind (wpAny_load ho ?_)
           rw [hc, hd]
           show wpAny M A (if (["enumerate", "zip", "dict_itemiterator", "dict_reverseitemiterator", "odict_iterator", "itertools.zip_longest", "itertools.pairwise"].contains n && vs[0]? == some (rawInt _)) = true then _ else _) Q E s
           rw [if_neg (by intro h; rw [hn, Bool.false_and] at h; cases h)]
           exact wpAny_pure hQ))
def Itl (K : PySem.W.Frag) (a : Addr) : It :=
  ⟨fun i H => ∃ xs x, SqL K H a xs ∧ xs[i]? = some x, fun i H x H' => H' = H ∧ ∀ xs, SqL K H a xs → xs[i]? = some x, fun i H => ∃ xs, SqL K H a xs ∧ xs.length ≤ i⟩
def Itt (K : PySem.W.Frag) (a : Addr) : It :=
  ⟨fun i H => ∃ xs x, SqT K H a xs ∧ xs[i]? = some x, fun i H x H' => H' = H ∧ ∀ xs, SqT K H a xs → xs[i]? = some x, fun i H => ∃ xs, SqT K H a xs ∧ xs.length ≤ i⟩
def Itr (lo : Int) (n : Nat) : It := ⟨fun i _ => i < n, fun i H x H' => H' = H ∧ x = .int (lo + i), fun i _ => n ≤ i⟩
theorem turn_list {P : Program} {w : World} {K : PySem.W.Frag} {tg : Expr} (a it : Addr) : Turn P w K tg (Itl K a) [it] it (fun i h => h.IsListIter it a i) where
  mem := by simp
  obj := fun i h st b hb => by
    have e : b = it := by simpa using hb
    subst e
    obtain ⟨o, e, c, d⟩ := st
    exact ⟨o, e, fun v z => by rw [d] at z; cases z⟩
  keep := fun i h h' st k => st.at fun o e => k it (by simp) o e
  item := by
    intro X hP hw hK hc i pins s σ H E I hf st hg
    subst hP hw hK
    obtain ⟨xs, x, hq, hx⟩ := hg
    obtain ⟨its, rv, p, hz⟩ := I.list hq
    obtain ⟨u, hu, ru⟩ := rv.get hx
    obtain ⟨f0, f1, f2, f3, f4, f5⟩ := hf it (by simp)
    refine wpAny_pyNext_list_item st p.isList (x := u) (by simpa using hu) fun h' st' sb => ?_
    have I1 : Inv X pins σ H { s with heap := h' } := I.turned (t' := s.toks) (fun b o hb e => (sb.2 b hb).trans e) f0 f1 f3 f4 f5
    obtain ⟨o, e, c, d⟩ := id st'
    exact ⟨u, rfl, go_of (s := { s with heap := h' }) e c d (by decide) ⟨x, H, I1, ru, ⟨rfl, fun ys hy => by rw [I.list_inj hy hq]; exact hx⟩, st', fun b hb => (hf b hb).1⟩⟩
  done := by
    intro X hP hw hK hc i pins s σ H E I hf st hg
    subst hP hw hK
    obtain ⟨xs, hq, hx⟩ := hg
    obtain ⟨its, rv, p, hz⟩ := I.list hq
    obtain ⟨f0, f1, f2, f3, f4, f5⟩ := hf it (by simp)
    have hl := rv.length
    exact wpAny_pyNext_list_end (I.ok.hd hc) st p.isList (by simp; omega) fun h' eb => ⟨rfl, I.turned (t' := s.toks) (fun b o hb e => eb b o hb e) f0 f1 f3 f4 f5⟩
  self := fun _ _ _ _ _ st h => wpAny_pyIter_listiter st h
theorem turn_tuple {P : Program} {w : World} {K : PySem.W.Frag} {tg : Expr} (a it : Addr) : Turn P w K tg (Itt K a) [it] it (fun i h => h.IsTupleIter it a i) where
  mem := by simp
  obj := fun i h st b hb => by
    have e : b = it := by simpa using hb
    subst e
    obtain ⟨o, e, c, d⟩ := st
    exact ⟨o, e, fun v z => by rw [d] at z; cases z⟩
  keep := fun i h h' st k => st.at fun o e => k it (by simp) o e
  item := by
    intro X hP hw hK hc i pins s σ H E I hf st hg
    subst hP hw hK
    obtain ⟨xs, x, hq, hx⟩ := hg
    obtain ⟨its, rv, p, hz⟩ := I.tuple hq
    obtain ⟨u, hu, ru⟩ := rv.get hx
    obtain ⟨f0, f1, f2, f3, f4, f5⟩ := hf it (by simp)
    refine wpAny_pyNext_tuple_item st (show s.heap.IsTuple a its.toArray from p) (x := u) (by simpa using hu) fun h' st' sb => ?_
    have I1 : Inv X pins σ H { s with heap := h' } := I.turned (t' := s.toks) (fun b o hb e => (sb.2 b hb).trans e) f0 f1 f3 f4 f5
    obtain ⟨o, e, c, d⟩ := id st'
    exact ⟨u, rfl, go_of (s := { s with heap := h' }) e c d (by decide) ⟨x, H, I1, ru, ⟨rfl, fun ys hy => by rw [I.tuple_inj hy hq]; exact hx⟩, st', fun b hb => (hf b hb).1⟩⟩
  done := by
    intro X hP hw hK hc i pins s σ H E I hf st hg
    subst hP hw hK
    obtain ⟨xs, hq, hx⟩ := hg
    obtain ⟨its, rv, p, hz⟩ := I.tuple hq
    obtain ⟨f0, f1, f2, f3, f4, f5⟩ := hf it (by simp)
    have hl := rv.length
    exact wpAny_pyNext_tuple_end (I.ok.hd hc) st (show s.heap.IsTuple a its.toArray from p) (by simp; omega) fun h' eb => ⟨rfl, I.turned (t' := s.toks) (fun b o hb e => eb b o hb e) f0 f1 f3 f4 f5⟩
  self := fun _ _ _ _ _ st h => wpAny_pyIter_tupleiter st h
theorem turn_range {P : Program} {w : World} {K : PySem.W.Frag} {tg : Expr} (it : Addr) (lo : Int) (n : Nat) : Turn P w K tg (Itr lo n) [it] it (fun i h => IsRangeIter h it (lo + (i : Nat) * 1) ((n : Int) - (i : Nat)) 1) where
  mem := by simp
  obj := fun i h st b hb => by
    have e : b = it := by simpa using hb
    subst e
    exact ⟨_, st, fun v z => by
      have z' : Data.fields _ = Data.cell v := z
      cases z'⟩
  keep := fun i h h' st k => k it (by simp) _ st
  item := by
    intro X hP hw hK hc i pins s σ H E I hf st hg
    subst hP hw hK
    obtain ⟨f0, f1, f2, f3, f4, f5⟩ := hf it (by simp)
    have W := Walks.range (prog := X.prog) (w := X.w) (I.ok.hd hc) it lo 1 n
    refine W.item i s _ _ hg st fun v h' tk hv st' kk => ?_
    obtain ⟨t, rfl⟩ := hv
    have I1 : Inv X pins σ H { s with heap := h', toks := tk } := I.turned (fun b o hb e => kk b o (by simpa using hb) e) f0 f1 f3 f4 f5
    refine ⟨_, rfl, go_of (s := { s with heap := h', toks := tk }) (n := "range_iterator") st' rfl rfl (by decide) ⟨.int (lo + i), H, I1, ⟨t, ?_⟩, ⟨rfl, rfl⟩, st', fun b hb => (hf b hb).1⟩⟩
    rw [Int.mul_one]
  done := by
    intro X hP hw hK hc i pins s σ H E I hf st hg
    subst hP hw hK
    obtain ⟨f0, f1, f2, f3, f4, f5⟩ := hf it (by simp)
    exact wpAny_pyNext_range_end (I.ok.hd hc) st (by have : n ≤ i := hg; omega) fun h' eb => ⟨rfl, I.turned (t' := s.toks) (fun b o hb e => eb b o hb e) f0 f1 f3 f4 f5⟩
  self := fun _ _ _ _ _ st h => wpAny_pyIter_rangeiter st h
end L2
namespace L2
open PySem PySem.Spec PyProof.Rows
section
variable {X : Cx} {tg : Expr}
def iList (K : PySem.W.Frag) (tl : TE) : TI := fun σ H R => tl σ H fun x H1 => ∃ a, x = .ref a ∧ (∃ xs, SqL K H1 a xs) ∧ R (Itl K a) H1
def iTup (K : PySem.W.Frag) (tl : TE) : TI := fun σ H R => tl σ H fun x H1 => ∃ a, x = .ref a ∧ (∃ xs, SqT K H1 a xs) ∧ R (Itt K a) H1
theorem pi_list {l : Expr} {tl : TE} (hl : PE X l tl) : PI X tg l (iList X.K tl) := by
  intro pins s σ H R I h
  refine thn (hl pins s σ H _ I h) fun v s1 ⟨x, H1, I1, r1, q1⟩ => ?_
  obtain ⟨a, e, ⟨xs, hq⟩, q⟩ := q1
  subst e
  cases r1
  obtain ⟨its, rv, p, hz⟩ := I1.list hq
  refine wpAny_pyIter_list p.isList ?_
  refine ⟨s1.heap.objs.size, [s1.heap.objs.size], _, _, H1, rfl, I1.kept (t' := s1.toks) fun b o e => Heap.get?_push_of_some _ e, turn_list a _, ⟨_, Heap.get?_push_size _ rfl, rfl, rfl⟩, fun b hb => ?_, q⟩
  have e : b = s1.heap.objs.size := by simpa using hb
  subst e
  exact I1.fpOk (Nat.le_refl _) (I1.hok.fresh (Nat.le_refl _))
theorem pi_tup {l : Expr} {tl : TE} (hl : PE X l tl) : PI X tg l (iTup X.K tl) := by
  intro pins s σ H R I h
  refine thn (hl pins s σ H _ I h) fun v s1 ⟨x, H1, I1, r1, q1⟩ => ?_
  obtain ⟨a, e, ⟨xs, hq⟩, q⟩ := q1
  subst e
  cases r1
  obtain ⟨its, rv, p, hz⟩ := I1.tuple hq
  refine wpAny_pyIter_tuple (show s1.heap.IsTuple a its.toArray from p) ?_
  refine ⟨s1.heap.objs.size, [s1.heap.objs.size], _, _, H1, rfl, I1.kept (t' := s1.toks) fun b o e => Heap.get?_push_of_some _ e, turn_tuple a _, ⟨_, Heap.get?_push_size _ rfl, rfl, rfl⟩, fun b hb => ?_, q⟩
  have e : b = s1.heap.objs.size := by simpa using hb
  subst e
  exact I1.fpOk (Nat.le_refl _) (I1.hok.fresh (Nat.le_refl _))
theorem range_it {pins : List (Addr × Obj)} {σ : St} {H : Hp} {s : Shared} {R : It → Hp → Prop} {E : Value → Shared → Prop} {lo hi : Int} {t u v : Tok} {tk : Nat} (I : Inv X pins σ H s) (h1 : -(2 ^ 62) ≤ lo) (h2 : lo < 2 ^ 62) (h3 : -(2 ^ 62) ≤ hi) (h4 : hi < 2 ^ 62)
    (q : R (Itr lo (hi - lo).toNat) H) : wpAny (model X.prog X.w) X.A (pyIter (.ref s.heap.objs.size)) (PIE X pins σ tg R) E { s with heap := s.heap.push { cls := .type "range", data := .fields #[.int lo t, .int hi u, .int 1 v] }, toks := tk } := by
  refine wpAny_pyIter_range (IsRange.new ..) (small_one h1 h2 h3 h4) ?_
  have I1 : Inv X pins σ H { s with heap := s.heap.push { cls := .type "range", data := .fields #[.int lo t, .int hi u, .int 1 v] }, toks := tk } := I.kept fun b o e => Heap.get?_push_of_some _ e
  refine ⟨(s.heap.push { cls := .type "range", data := .fields #[.int lo t, .int hi u, .int 1 v] }).objs.size, [(s.heap.push { cls := .type "range", data := .fields #[.int lo t, .int hi u, .int 1 v] }).objs.size], _, _, H, rfl,
    I1.kept (t' := tk) fun b o e => Heap.get?_push_of_some _ e, turn_range _ lo (hi - lo).toNat, ?_, fun b hb => ?_, q⟩
  · have e1 : lo + ((0 : Nat) : Int) * 1 = lo := by simp
    have e2 : (((hi - lo).toNat : Nat) : Int) - ((0 : Nat) : Int) = Builtin.Range.rangeSize lo hi 1 := by rw [rangeSize_one]; split <;> omega
    show IsRangeIter _ _ (lo + ((0 : Nat) : Int) * 1) ((((hi - lo).toNat : Nat) : Int) - ((0 : Nat) : Int)) 1
    rw [e1, e2]
    exact Heap.get?_push_size _ rfl
  · have e : b = (s.heap.push { cls := .type "range", data := .fields #[.int lo t, .int hi u, .int 1 v] }).objs.size := by simpa using hb
    subst e
    exact I1.fpOk (Nat.le_refl _) (I1.hok.fresh (Nat.le_refl _))
def iRng1 (ta : TA) : TI := fun σ H R => ta σ H fun vs H1 => ∃ j : Int, vs = [.int j] ∧ -(2 ^ 62) ≤ j ∧ j < 2 ^ 62 ∧ R (Itr 0 j.toNat) H1
def iRng2 (ta : TA) : TI := fun σ H R => ta σ H fun vs H1 => ∃ i j : Int, vs = [.int i, .int j] ∧ (-(2 ^ 62) ≤ i ∧ i < 2 ^ 62 ∧ -(2 ^ 62) ≤ j ∧ j < 2 ^ 62) ∧ R (Itr i (j - i).toNat) H1
theorem pi_range1 {a : Expr} {ta : TA} {p pos : Pos} (hg : Gl X "range") (hm : X.mg "range" = none) (ha : PA X [a] ta) (hs : starEach [a] X.env = [(false, eval a X.env)] := by rfl) : PI X tg (.Call (.Name "range" p) [a] [] pos) (iRng1 ta) := by
  intro pins s σ H R I h
  refine Call_ (ld_blt I hg hm boot_range (PyProof.Rows.callWith_type1 (thn (ha pos pins s σ H _ I h) fun us s1 ⟨vs, H1, I1, r1, q1⟩ => ?_) hs rfl))
  obtain ⟨j, e, q1, q2, q⟩ := q1
  subst e
  cases r1 with
  | cons r rr =>
    cases rr
    obtain ⟨t, rfl⟩ := r
    exact call_range_1 (range_it I1 (by omega) (by omega) q1 q2 (by simpa using q))
theorem pi_range2 {a b : Expr} {ta : TA} {p pos : Pos} (hg : Gl X "range") (hm : X.mg "range" = none) (ha : PA X [a, b] ta) (hs : starEach [a, b] X.env = [(false, eval a X.env), (false, eval b X.env)] := by rfl) (hs2 : starEach [b] X.env = [(false, eval b X.env)] := by rfl) :
    PI X tg (.Call (.Name "range" p) [a, b] [] pos) (iRng2 ta) := by
  intro pins s σ H R I h
  refine Call_ (ld_blt I hg hm boot_range (PyProof.Rows.callWith_type1 (thn (ha pos pins s σ H _ I h) fun us s1 ⟨vs, H1, I1, r1, q1⟩ => ?_) (by rw [hs, hs2]) (by rw [hs2]; rfl)))
  obtain ⟨i, j, e, ⟨q1, q2, q3, q4⟩, q⟩ := q1
  subst e
  cases r1 with
  | cons r rr =>
    cases rr with
    | cons r' rr =>
      cases rr
      obtain ⟨t, rfl⟩ := r
      obtain ⟨t', rfl⟩ := r'
      exact call_range_2 (range_it I1 q1 q2 q3 q4 q)
def tFor (wi : TI) (g : TG) (tb : TS) : TS := fun D σ H => wi σ H fun J H1 => ∃ W : Nat → Nat → St → Hp → Prop, (∃ m, W 0 m σ H1) ∧ ∀ i m σ H, W i m σ H →
  (J.stop i H ∧ D.nx σ H) ∨ (J.go i H ∧ ∃ N : St → Hp → Prop, (∀ σ' H', N σ' H' → ∃ m', m' < m ∧ W (i + 1) m' σ' H') ∧ ∀ x H', J.yld i H x H' → g x σ H' fun σ2 H2 => tb { D with nx := N, ct := N, bk := D.nx } σ2 H2)
def pinsAt (fp : List Addr) (h : Heap) : List (Addr × Obj) := fp.filterMap fun b => (h.get? b).map fun o => (b, o)
theorem mem_pinsAt {fp : List Addr} {h : Heap} {b : Addr} {o : Obj} (hb : b ∈ fp) (e : h.get? b = some o) : (b, o) ∈ pinsAt fp h := List.mem_filterMap.mpr ⟨b, hb, by rw [e]; rfl⟩
theorem of_pinsAt {fp : List Addr} {h : Heap} {p : Addr × Obj} (hp : p ∈ pinsAt fp h) : p.1 ∈ fp ∧ h.get? p.1 = some p.2 := by
  obtain ⟨b, hb, e⟩ := List.mem_filterMap.mp hp
  cases q : h.get? b with
  | none => rw [q] at e; cases e
  | some o =>
    rw [q] at e
    have e' : (b, o) = p := Option.some.inj e
    subst e'
    exact ⟨hb, q⟩
theorem Inv.pinned {pins : List (Addr × Obj)} {σ : St} {H : Hp} {s : Shared} {fp : List Addr} (I : Inv X pins σ H s) (hf : ∀ b ∈ fp, FpOk X pins H b) (ho : ∀ b ∈ fp, ∃ o, s.heap.get? b = some o ∧ ∀ v, o.data ≠ .cell v) : Inv X (pins ++ pinsAt fp s.heap) σ H s :=
  I.pins_of fun p hp => (List.mem_append.mp hp).elim (fun z => I.pin p (List.mem_append_right _ z)) fun z => by
    obtain ⟨hb, e⟩ := of_pinsAt z
    obtain ⟨f0, f1, f2, _⟩ := hf p.1 hb
    obtain ⟨o, e', d⟩ := ho p.1 hb
    rw [e] at e'; cases e'
    exact ⟨e, f0, f1, f2, d⟩
theorem Inv.unpinned {pins pl : List (Addr × Obj)} {σ : St} {H : Hp} {s : Shared} (I : Inv X (pins ++ pl) σ H s) : Inv X pins σ H s := I.pins_of fun p hp => I.pin p (List.mem_append_right _ (List.mem_append_left _ hp))
theorem ps_for {iter : Expr} {body : List Stmt} {wi : TI} {g : TG} {tb : TS} {pos : Pos} (hp : PassesOwn (model X.prog X.w) X.A X.env X.xe) (hc : X.calm = true) (hi : PI X tg iter wi) (hg : PG X tg g) (hb : PSs X body tb)
    (hs : ∀ x, foldedSetIterable iter X.env x = pure x := by intro _; rfl) : PS X (.For tg iter body [] pos) (tFor wi g tb) := by
  intro pins s σ H D I h
  refine wpAny_For (thn (hi pins s σ H _ I h) fun v s1 h1 => thn h1 fun itv s2 h2 => ?_) hs
  obtain ⟨it, fp, tn, J, H2, e, I2, T, st2, f2, W, ⟨m0, w0⟩, turn⟩ := h2
  subst e
  have stat : ∀ {H' : Hp}, (∀ b ∈ fp, H' b = none) → ∀ b ∈ fp, FpOk X pins H' b := fun hn b hb => ⟨hn b hb, (f2 b hb).2⟩
  refine codeAny_forLoop_any (fun n s' => ∃ i σ' H', Inv X pins σ' H' s' ∧ tn i s'.heap ∧ (∀ b ∈ fp, H' b = none) ∧ W i n σ' H') ?_ m0 ⟨0, σ, H2, I2, st2, fun b hb => (f2 b hb).1, w0⟩
  rintro n s3 ⟨i, σ3, H3, I3, st3, fr3, w3⟩
  rcases turn i n σ3 H3 w3 with ⟨stop, qn⟩ | ⟨go, N, hN, step⟩
  · refine wpAny_passesOwn hp (thn (T.done X rfl rfl rfl hc i pins s3 σ3 H3 X.xe I3 (stat fr3) st3 stop) fun r s4 ⟨hr, I4⟩ => ?_)
    subst hr
    exact wpAny_execs_nil ⟨σ3, H3, I4, qn⟩
  · refine wpAny_passesOwn hp (thn (T.item X rfl rfl rfl hc i pins s3 σ3 H3 X.xe I3 (stat fr3) st3 go) fun r s4 ⟨u, hr, h4⟩ => ?_)
    subst hr
    refine wpAny_passesOwn hp (thn h4 fun _ s5 ⟨x, H5, I5, r5, y5, st5, fr5⟩ => ?_)
    have I5' := I5.pinned (stat fr5) (T.obj _ _ st5)
    refine wpAny_passesOwn hp (thn (hg _ s5 σ3 H5 x u _ I5' r5 (step x H5 y5)) fun _ s6 ⟨σ6, H6, I6, q6⟩ => ?_)
    refine wpAny_passesOwn hp (thn (hb _ s6 σ6 H6 _ I6 q6) fun f s7 q7 => ?_)
    have again : ∀ {σ7 : St} {H7 : Hp}, Inv X (pins ++ pinsAt fp s5.heap) σ7 H7 s7 → N σ7 H7 → ∃ m, m < n ∧ ∃ i σ' H', Inv X pins σ' H' s7 ∧ tn i s7.heap ∧ (∀ b ∈ fp, H' b = none) ∧ W i m σ' H' := fun {σ7 H7} I7 n7 => by
      obtain ⟨m', hm, w7⟩ := hN σ7 H7 n7
      refine ⟨m', hm, i + 1, σ7, H7, I7.unpinned, T.keep _ _ _ st5 fun b hb o e => (I7.pin (b, o) (List.mem_append_right _ (List.mem_append_right _ (mem_pinsAt hb e)))).1, fun b hb => ?_, w7⟩
      obtain ⟨o, e, d⟩ := T.obj _ _ st5 b hb
      exact (I7.pin (b, o) (List.mem_append_right _ (List.mem_append_right _ (mem_pinsAt hb e)))).2.1
    cases f with
    | next => obtain ⟨σ7, H7, I7, n7⟩ := q7; exact again I7 n7
    | cont => obtain ⟨σ7, H7, I7, n7⟩ := q7; exact again I7 n7
    | brk => obtain ⟨σ7, H7, I7, q7⟩ := q7; exact ⟨σ7, H7, I7.unpinned, q7⟩
    | ret v => obtain ⟨x7, σ7, H7, I7, r7, q7⟩ := q7; exact ⟨x7, σ7, H7, I7.unpinned, r7, q7⟩
end
theorem for_list {K : PySem.W.Frag} {a : Addr} {xs : List V} {g : TG} {tb : TS} {D : Ends} {σ : St} {H : Hp} (Pv : Nat → St → Hp → Prop) (h0 : Pv 0 σ H) (hl : ∀ i σ H, i ≤ xs.length → Pv i σ H → SqL K H a xs)
    (hs : ∀ i x σ H, xs[i]? = some x → Pv i σ H → g x σ H fun σ2 H2 => tb { D with nx := Pv (i + 1), ct := Pv (i + 1), bk := D.nx } σ2 H2) (hd : ∀ σ H, Pv xs.length σ H → D.nx σ H) :
    ∃ W : Nat → Nat → St → Hp → Prop, (∃ m, W 0 m σ H) ∧ ∀ i m σ H, W i m σ H →
      ((Itl K a).stop i H ∧ D.nx σ H) ∨ ((Itl K a).go i H ∧ ∃ N : St → Hp → Prop, (∀ σ' H', N σ' H' → ∃ m', m' < m ∧ W (i + 1) m' σ' H') ∧ ∀ x H', (Itl K a).yld i H x H' → g x σ H' fun σ2 H2 => tb { D with nx := N, ct := N, bk := D.nx } σ2 H2) := by
  refine ⟨fun i m σ H => m = xs.length - i ∧ i ≤ xs.length ∧ Pv i σ H, ⟨xs.length, by simp, Nat.zero_le _, h0⟩, ?_⟩
  rintro i m σ H ⟨rfl, hi, p⟩
  have q := hl i σ H hi p
  by_cases hlt : i < xs.length
  · refine .inr ⟨⟨xs, xs[i], q, by simp [hlt]⟩, Pv (i + 1), fun σ' H' p' => ⟨xs.length - (i + 1), by omega, rfl, hlt, p'⟩, fun x H' y => ?_⟩
    obtain ⟨e, y⟩ := y
    subst e
    exact hs i x σ _ (y xs q) p
  · have e : i = xs.length := by omega
    subst e
    exact .inl ⟨⟨xs, q, Nat.le_refl _⟩, hd σ H p⟩
theorem for_tup {K : PySem.W.Frag} {a : Addr} {xs : List V} {g : TG} {tb : TS} {D : Ends} {σ : St} {H : Hp} (Pv : Nat → St → Hp → Prop) (h0 : Pv 0 σ H) (hl : ∀ i σ H, i ≤ xs.length → Pv i σ H → SqT K H a xs)
    (hs : ∀ i x σ H, xs[i]? = some x → Pv i σ H → g x σ H fun σ2 H2 => tb { D with nx := Pv (i + 1), ct := Pv (i + 1), bk := D.nx } σ2 H2) (hd : ∀ σ H, Pv xs.length σ H → D.nx σ H) :
    ∃ W : Nat → Nat → St → Hp → Prop, (∃ m, W 0 m σ H) ∧ ∀ i m σ H, W i m σ H →
      ((Itt K a).stop i H ∧ D.nx σ H) ∨ ((Itt K a).go i H ∧ ∃ N : St → Hp → Prop, (∀ σ' H', N σ' H' → ∃ m', m' < m ∧ W (i + 1) m' σ' H') ∧ ∀ x H', (Itt K a).yld i H x H' → g x σ H' fun σ2 H2 => tb { D with nx := N, ct := N, bk := D.nx } σ2 H2) := by
  refine ⟨fun i m σ H => m = xs.length - i ∧ i ≤ xs.length ∧ Pv i σ H, ⟨xs.length, by simp, Nat.zero_le _, h0⟩, ?_⟩
  rintro i m σ H ⟨rfl, hi, p⟩
  have q := hl i σ H hi p
  by_cases hlt : i < xs.length
  · refine .inr ⟨⟨xs, xs[i], q, by simp [hlt]⟩, Pv (i + 1), fun σ' H' p' => ⟨xs.length - (i + 1), by omega, rfl, hlt, p'⟩, fun x H' y => ?_⟩
    obtain ⟨e, y⟩ := y
    subst e
    exact hs i x σ _ (y xs q) p
  · have e : i = xs.length := by omega
    subst e
    exact .inl ⟨⟨xs, q, Nat.le_refl _⟩, hd σ H p⟩
theorem for_range {lo : Int} {n : Nat} {g : TG} {tb : TS} {D : Ends} {σ : St} {H : Hp} (Pv : Nat → St → Hp → Prop) (h0 : Pv 0 σ H)
    (hs : ∀ i σ H, i < n → Pv i σ H → g (.int (lo + i)) σ H fun σ2 H2 => tb { D with nx := Pv (i + 1), ct := Pv (i + 1), bk := D.nx } σ2 H2) (hd : ∀ σ H, Pv n σ H → D.nx σ H) :
    ∃ W : Nat → Nat → St → Hp → Prop, (∃ m, W 0 m σ H) ∧ ∀ i m σ H, W i m σ H →
      ((Itr lo n).stop i H ∧ D.nx σ H) ∨ ((Itr lo n).go i H ∧ ∃ N : St → Hp → Prop, (∀ σ' H', N σ' H' → ∃ m', m' < m ∧ W (i + 1) m' σ' H') ∧ ∀ x H', (Itr lo n).yld i H x H' → g x σ H' fun σ2 H2 => tb { D with nx := N, ct := N, bk := D.nx } σ2 H2) := by
  refine ⟨fun i m σ H => m = n - i ∧ i ≤ n ∧ Pv i σ H, ⟨n, by simp, Nat.zero_le _, h0⟩, ?_⟩
  rintro i m σ H ⟨rfl, hi, p⟩
  by_cases hlt : i < n
  · refine .inr ⟨hlt, Pv (i + 1), fun σ' H' p' => ⟨n - (i + 1), by omega, rfl, hlt, p'⟩, fun x H' y => ?_⟩
    obtain ⟨e, y⟩ := y
    subst e y
    exact hs i σ _ hlt p
  · have e : i = n := by omega
    subst e
    exact .inl ⟨Nat.le_refl _, hd σ H p⟩
end L2
namespace L2
open PySem PySem.Spec PyProof.Rows
abbrev R2 := V → V → Hp → VK → Prop
def OpR (X : Cx) (f : Value → Value → Sem Value) (r : R2) : Prop :=
  ∀ (pins : List (Addr × Obj)) (s : Shared) (σ : St) (H : Hp) (x y : V) (v u : Value) (Q : VK), Inv X pins σ H s → RelV x v → RelV y u → r x y H Q →
    wpAny (model X.prog X.w) X.A (f v u) (EP X pins σ Q) X.xe s
def UnR (X : Cx) (f : Value → Sem Value) (r : V → Hp → VK → Prop) : Prop :=
  ∀ (pins : List (Addr × Obj)) (s : Shared) (σ : St) (H : Hp) (x : V) (v : Value) (Q : VK), Inv X pins σ H s → RelV x v → r x H Q →
    wpAny (model X.prog X.w) X.A (f v) (EP X pins σ Q) X.xe s
def CallR (X : Cx) (f : Value) (r : List V → Hp → VK → Prop) : Prop :=
  ∀ (pins : List (Addr × Obj)) (s : Shared) (σ : St) (H : Hp) (xs : List V) (us : List Value) (Q : VK), Inv X pins σ H s → Vals xs us → r xs H Q →
    wpAny (model X.prog X.w) X.A (call f us) (EP X pins σ Q) X.xe s
def tOp (r : R2) (ta tb : TE) : TE := fun σ H Q => ta σ H fun x H1 => tb σ H1 fun y H2 => r x y H2 Q
def tUn (r : V → Hp → VK → Prop) (ta : TE) : TE := fun σ H Q => ta σ H fun x H1 => r x H1 Q
def rI (C : Int → Int → Prop) (g : Int → Int → V) : R2 := fun x y H Q => ∃ i j, x = .int i ∧ y = .int j ∧ C i j ∧ Q (g i j) H
def rI0 (g : Int → Int → V) : R2 := fun x y H Q => ∃ i j, x = .int i ∧ y = .int j ∧ Q (g i j) H
def rU (g : Int → V) : V → Hp → VK → Prop := fun x H Q => ∃ i, x = .int i ∧ Q (g i) H
section
variable {X : Cx} {a b c : Expr} {ta tb tc : TE} {pos : Pos}
theorem binT (ha : PE X a ta) (hb : PE X b tb) {pins : List (Addr × Obj)} {s : Shared} {σ : St} {H : Hp} {R : V → V → Hp → Prop} (I : Inv X pins σ H s)
    (h : ta σ H fun x H1 => tb σ H1 fun y H2 => R x y H2) {Q : Value → Shared → Prop} {f : Value → Value → Sem Value}
    (hf : ∀ v u s2 x y H2, Inv X pins σ H2 s2 → RelV x v → RelV y u → R x y H2 → wpAny (model X.prog X.w) X.A (f v u) Q X.xe s2) :
    wpAny (model X.prog X.w) X.A (eval a X.env) (fun v s₁ => wpAny (model X.prog X.w) X.A (eval b X.env) (fun u s₂ => wpAny (model X.prog X.w) X.A (f v u) Q X.xe s₂) X.xe s₁) X.xe s := by
  refine thn (ha pins s σ H _ I h) fun v s1 ⟨x, H1, I1, r1, q1⟩ => ?_
  refine thn (hb pins s1 σ H1 _ I1 q1) fun u s2 ⟨y, H2, I2, r2, q2⟩ => ?_
  exact hf v u s2 x y H2 I2 r1 r2 q2
theorem pe_op {op : Operator} {r : R2} (ho : OpR X (binaryOp op) r) (ha : PE X a ta) (hb : PE X b tb) : PE X (.BinOp a op b pos) (tOp r ta tb) := by
  intro pins s σ H Q I h
  exact wpAny_BinOp (binT ha hb I h fun v u s2 x y H2 I2 rx ry q => ho pins s2 σ H2 x y v u Q I2 rx ry q)
theorem pe_un {op : UnaryOp} {r : V → Hp → VK → Prop} (ho : UnR X (unaryOp op) r) (ha : PE X a ta) : PE X (.UnaryOp op a pos) (tUn r ta) := by
  intro pins s σ H Q I h
  exact UnaryOp_ (thn (ha pins s σ H _ I h) fun v s1 ⟨x, H1, I1, r1, q1⟩ => ho pins s1 σ H1 x v Q I1 r1 q1)
theorem opI {f : Value → Value → Sem Value} {C : Int → Int → Prop} {g : Int → Int → Int}
    (rule : ∀ (i j : Int) (t u : Tok) (s : Shared) (Q : Value → Shared → Prop) (E : Value → Shared → Prop), C i j → Q (.int (g i j) s.toks) { s with toks := s.toks + 1 } → wpAny (model X.prog X.w) X.A (f (.int i t) (.int j u)) Q E s) :
    OpR X f (rI C fun i j => .int (g i j)) := by
  intro pins s σ H x y v u Q I rx ry h
  obtain ⟨i, j, rfl, rfl, hc, q⟩ := h
  obtain ⟨t, rfl⟩ := rx
  obtain ⟨t', rfl⟩ := ry
  exact rule i j t t' s _ _ hc ⟨.int (g i j), H, I.tok _, ⟨_, rfl⟩, q⟩
theorem opI0 {f : Value → Value → Sem Value} {g : Int → Int → Int}
    (rule : ∀ (i j : Int) (t u : Tok) (s : Shared) (Q : Value → Shared → Prop) (E : Value → Shared → Prop), Q (.int (g i j) s.toks) { s with toks := s.toks + 1 } → wpAny (model X.prog X.w) X.A (f (.int i t) (.int j u)) Q E s) :
    OpR X f (rI0 fun i j => .int (g i j)) := by
  intro pins s σ H x y v u Q I rx ry h
  obtain ⟨i, j, rfl, rfl, q⟩ := h
  obtain ⟨t, rfl⟩ := rx
  obtain ⟨t', rfl⟩ := ry
  exact rule i j t t' s _ _ ⟨.int (g i j), H, I.tok _, ⟨_, rfl⟩, q⟩
theorem opB0 {f : Value → Value → Sem Value} {g : Int → Int → Bool}
    (rule : ∀ (i j : Int) (t u : Tok) (s : Shared) (Q : Value → Shared → Prop) (E : Value → Shared → Prop), Q (.bool (g i j)) s → wpAny (model X.prog X.w) X.A (f (.int i t) (.int j u)) Q E s) :
    OpR X f (rI0 fun i j => .bl (g i j)) := by
  intro pins s σ H x y v u Q I rx ry h
  obtain ⟨i, j, rfl, rfl, q⟩ := h
  obtain ⟨t, rfl⟩ := rx
  obtain ⟨t', rfl⟩ := ry
  exact rule i j t t' s _ _ ⟨.bl (g i j), H, I, rfl, q⟩
def CPow (i j : Int) : Prop := 0 ≤ j ∧ j ≤ 1000000 ∧ i.natAbs < 2 ^ 64
theorem two_pow_nn (k : Nat) : (0 : Int) ≤ 2 ^ k := by
  rw [two_pow_cast]
  exact Int.natCast_nonneg _
theorem op_add : OpR X (binaryOp .Add) (rI0 fun i j => .int (i + j)) := opI0 fun _ _ _ _ _ _ _ q => add_int q
theorem op_sub : OpR X (binaryOp .Sub) (rI0 fun i j => .int (i - j)) := opI0 fun _ _ _ _ _ _ _ q => sub_int q
theorem op_modN : OpR X (binaryOp .Mod) (rI (fun _ j => j ≠ 0) fun i j => .int (i.fmod j)) := opI fun _ _ _ _ _ _ _ hc q => mod_int' hc q
theorem op_pow : OpR X (binaryOp .Pow) (rI CPow fun i j => .int (i ^ j.toNat)) := opI fun _ _ _ _ _ _ _ hc q => pow_int_small hc.1 hc.2.1 hc.2.2 q
theorem op_shl : OpR X (binaryOp .LShift) (rI CPow fun i j => .int (i * 2 ^ j.toNat)) := opI fun _ _ _ _ _ _ _ hc q => lshift_int_small hc.1 hc.2.1 hc.2.2 q
theorem op_shr : OpR X (binaryOp .RShift) (rI (fun _ j => 0 ≤ j) fun i j => .int (i / 2 ^ j.toNat)) := opI fun i j _ _ _ _ _ hc q =>
  rshift_int hc (by rw [Int.fdiv_eq_ediv_of_nonneg i (two_pow_nn _)]; exact q)
theorem op_and : OpR X (binaryOp .BitAnd) (rI0 fun i j => .int (Builtin.bitAnd i j)) := opI0 fun _ _ _ _ _ _ _ q => and_int q
theorem op_or : OpR X (binaryOp .BitOr) (rI0 fun i j => .int (Builtin.bitOr i j)) := opI0 fun _ _ _ _ _ _ _ q => or_int q
theorem unI {f : Value → Sem Value} {g : Int → Int}
    (rule : ∀ (i : Int) (t : Tok) (s : Shared) (Q : Value → Shared → Prop) (E : Value → Shared → Prop), Q (.int (g i) s.toks) { s with toks := s.toks + 1 } → wpAny (model X.prog X.w) X.A (f (.int i t)) Q E s) :
    UnR X f (rU fun i => .int (g i)) := by
  intro pins s σ H x v Q I rx h
  obtain ⟨i, rfl, q⟩ := h
  obtain ⟨t, rfl⟩ := rx
  exact rule i t s _ _ ⟨.int (g i), H, I.tok _, ⟨_, rfl⟩, q⟩
theorem un_inv : UnR X (unaryOp .Invert) (rU fun i => .int (Builtin.bitNot i)) := unI fun _ _ _ _ _ q => invert_int q
end
def scal : V → V → Bool
  | .non, .non => true | .non, .int _ => true | .int _, .non => true | .non, .bl _ => true | .bl _, .non => true | .non, .str _ => true | .str _, .non => true
  | .int _, .int _ => true | .bl _, .bl _ => true | .str _, .str _ => true | .byt _, .byt _ => true
  | .int _, .str _ => true | .str _, .int _ => true | .bl _, .str _ => true | .str _, .bl _ => true
  | _, _ => false
def rEq : R2 := fun x y H Q => scal x y = true ∧ Q (.bl (decide (x = y))) H
def rNe : R2 := fun x y H Q => scal x y = true ∧ Q (.bl (!decide (x = y))) H
theorem dec_int {i j : Int} : decide (V.int i = V.int j) = (i == j) := by
  rw [Bool.eq_iff_iff]
  simp
theorem dec_bl {i j : Bool} : decide (V.bl i = V.bl j) = (i == j) := by
  rw [Bool.eq_iff_iff]
  simp
theorem dec_str {i j : Str} : decide (V.str i = V.str j) = (i == j) := by
  rw [Bool.eq_iff_iff]
  simp
theorem dec_byt {i j : Array UInt8} : decide (V.byt i = V.byt j) = (i.toList == j.toList) := by
  rw [Bool.eq_iff_iff]
  cases i
  cases j
  simp
section
variable {X : Cx} {a b c : Expr} {ta tb tc : TE} {pos : Pos}
theorem fin_bl {pins : List (Addr × Obj)} {σ : St} {H : Hp} {s : Shared} {Q : VK} {k k' : Bool} (I : Inv X pins σ H s) (q : Q (.bl k) H) (e : k = k') : EP X pins σ Q (.bool k') s := by
  subst e
  exact ⟨.bl k, H, I, rfl, q⟩
theorem op_eq : OpR X (compareOp .Eq) rEq := by
  intro pins s σ H x y v u Q I rx ry h
  obtain ⟨hs, q⟩ := h
  cases x with
  | non =>
    cases rx
    cases y with
    | non => cases ry; exact PySem.EqNone.eq_none_none (fin_bl I q (by simp))
    | bl j => cases ry; exact PySem.EqNone.eq_none_bool (fin_bl I q (by simp))
    | int j => obtain ⟨t', rfl⟩ := ry; exact PySem.EqNone.eq_none_int (fin_bl I q (by simp))
    | str j => obtain ⟨t', rfl⟩ := ry; exact PySem.EqNone.eq_none_str (fin_bl I q (by simp))
    | _ => exact absurd (show false = true from hs) Bool.false_ne_true
  | bl i =>
    cases rx
    cases y with
    | non => cases ry; exact PySem.EqNone.eq_bool_none (fin_bl I q (by simp))
    | bl j => cases ry; exact eq_bool (fin_bl I q dec_bl)
    | str j => obtain ⟨t', rfl⟩ := ry; exact PySem.EqMixed.eq_bool_str (fin_bl I q (by simp))
    | _ => exact absurd (show false = true from hs) Bool.false_ne_true
  | int i =>
    obtain ⟨t, rfl⟩ := rx
    cases y with
    | non => cases ry; exact PySem.EqNone.eq_int_none (fin_bl I q (by simp))
    | int j => obtain ⟨t', rfl⟩ := ry; exact eq_int (fin_bl I q dec_int)
    | str j => obtain ⟨t', rfl⟩ := ry; exact PySem.EqMixed.eq_int_str (fin_bl I q (by simp))
    | _ => exact absurd (show false = true from hs) Bool.false_ne_true
  | str i =>
    obtain ⟨t, rfl⟩ := rx
    cases y with
    | non => cases ry; exact PySem.EqNone.eq_str_none (fin_bl I q (by simp))
    | bl j => cases ry; exact PySem.EqMixed.eq_str_bool (fin_bl I q (by simp))
    | int j => obtain ⟨t', rfl⟩ := ry; exact PySem.EqMixed.eq_str_int (fin_bl I q (by simp))
    | str j => obtain ⟨t', rfl⟩ := ry; exact eq_str (fin_bl I q dec_str)
    | _ => exact absurd (show false = true from hs) Bool.false_ne_true
  | byt i =>
    obtain ⟨t, rfl⟩ := rx
    cases y with
    | byt j => obtain ⟨t', rfl⟩ := ry; exact PySem.W.eq_bytes (fin_bl I q dec_byt)
    | _ => exact absurd (show false = true from hs) Bool.false_ne_true
  | _ => cases y <;> exact absurd (show false = true from hs) Bool.false_ne_true
theorem op_ne : OpR X (compareOp .NotEq) rNe := by
  intro pins s σ H x y v u Q I rx ry h
  obtain ⟨hs, q⟩ := h
  cases x with
  | non =>
    cases rx
    cases y with
    | non => cases ry; exact PySem.EqNone.ne_none_none (fin_bl I q (by simp))
    | bl j => cases ry; exact PySem.EqNone.ne_none_bool (fin_bl I q (by simp))
    | int j => obtain ⟨t', rfl⟩ := ry; exact PySem.EqNone.ne_none_int (fin_bl I q (by simp))
    | str j => obtain ⟨t', rfl⟩ := ry; exact PySem.EqNone.ne_none_str (fin_bl I q (by simp))
    | _ => exact absurd (show false = true from hs) Bool.false_ne_true
  | bl i =>
    cases rx
    cases y with
    | non => cases ry; exact PySem.EqNone.ne_bool_none (fin_bl I q (by simp))
    | bl j => cases ry; exact ne_bool (fin_bl I q (congrArg not dec_bl))
    | str j => obtain ⟨t', rfl⟩ := ry; exact PySem.EqMixed.ne_bool_str (fin_bl I q (by simp))
    | _ => exact absurd (show false = true from hs) Bool.false_ne_true
  | int i =>
    obtain ⟨t, rfl⟩ := rx
    cases y with
    | non => cases ry; exact PySem.EqNone.ne_int_none (fin_bl I q (by simp))
    | int j => obtain ⟨t', rfl⟩ := ry; exact ne_int (fin_bl I q (congrArg not dec_int))
    | str j => obtain ⟨t', rfl⟩ := ry; exact PySem.EqMixed.ne_int_str (fin_bl I q (by simp))
    | _ => exact absurd (show false = true from hs) Bool.false_ne_true
  | str i =>
    obtain ⟨t, rfl⟩ := rx
    cases y with
    | non => cases ry; exact PySem.EqNone.ne_str_none (fin_bl I q (by simp))
    | bl j => cases ry; exact PySem.EqMixed.ne_str_bool (fin_bl I q (by simp))
    | int j => obtain ⟨t', rfl⟩ := ry; exact PySem.EqMixed.ne_str_int (fin_bl I q (by simp))
    | str j => obtain ⟨t', rfl⟩ := ry; exact ne_str (fin_bl I q (congrArg not dec_str))
    | _ => exact absurd (show false = true from hs) Bool.false_ne_true
  | byt i =>
    obtain ⟨t, rfl⟩ := rx
    cases y with
    | byt j => obtain ⟨t', rfl⟩ := ry; exact PySem.W.ne_bytes (fin_bl I q (congrArg not dec_byt))
    | _ => exact absurd (show false = true from hs) Bool.false_ne_true
  | _ => cases y <;> exact absurd (show false = true from hs) Bool.false_ne_true
theorem op_lt : OpR X (compareOp .Lt) (rI0 fun i j => .bl (decide (i < j))) := opB0 fun _ _ _ _ _ _ _ q => lt_int q
theorem op_le : OpR X (compareOp .LtE) (rI0 fun i j => .bl (decide (i ≤ j))) := opB0 fun _ _ _ _ _ _ _ q => le_int q
theorem op_gt : OpR X (compareOp .Gt) (rI0 fun i j => .bl (decide (j < i))) := opB0 fun _ _ _ _ _ _ _ q => gt_int q
theorem op_isN : OpR X (compareOp .Is) (fun x y H Q => y = .non ∧ Q (.bl (decide (x = .non))) H) := by
  intro pins s σ H x y v u Q I rx ry h
  obtain ⟨rfl, q⟩ := h
  cases ry
  refine is_none_gen (fin_bl I q ?_)
  cases x <;> first
    | (cases rx; rfl)
    | (obtain ⟨t, rfl⟩ := rx; rfl)
theorem op_notN : OpR X (compareOp .IsNot) (fun x y H Q => y = .non ∧ Q (.bl (!decide (x = .non))) H) := by
  intro pins s σ H x y v u Q I rx ry h
  obtain ⟨rfl, q⟩ := h
  cases ry
  refine isnot_none_gen (fin_bl I q ?_)
  cases x <;> first
    | (cases rx; rfl)
    | (obtain ⟨t, rfl⟩ := rx; rfl)
theorem nomark (b : Expr) {op : CmpOp} (h : op ≠ .In := by decide) (h2 : op ≠ .NotIn := by decide) : behindInMarks op b = false := by
  have e1 : (op == CmpOp.In) = false := by cases op <;> first | rfl | exact absurd rfl h
  have e2 : (op == CmpOp.NotIn) = false := by cases op <;> first | rfl | exact absurd rfl h2
  cases b <;> simp [behindInMarks, e1, e2]
theorem pe_cmpR {op : CmpOp} {r : R2} (ho : OpR X (compareOp op) r) (ha : PE X a ta) (hb : PE X b tb) (hm : behindInMarks op b = false) : PE X (.Compare a [op] [b] pos) (tOp r ta tb) := by
  intro pins s σ H Q I h
  exact wpAny_Compare1 (binT ha hb I h fun v u s2 x y H2 I2 rx ry q => ho pins s2 σ H2 x y v u Q I2 rx ry q) hm
def tTest (t : TE) : TT := fun σ H Q => t σ H fun x H' => ∃ k, x = .bl k ∧ Q k H'
theorem pt_cmpR {op : CmpOp} {r : R2} (ho : OpR X (compareOp op) r) (ha : PE X a ta) (hb : PE X b tb) (hm : behindInMarks op b = false) : PT X (.Compare a [op] [b] pos) (tTest (tOp r ta tb)) := by
  intro pins s σ H Q I h
  refine wpAny_isTrue_Compare1 (thn (ha pins s σ H _ I h) fun v s1 ⟨x, H1, I1, r1, q1⟩ => thn (hb pins s1 σ H1 _ I1 q1) fun u s2 ⟨y, H2, I2, r2, q2⟩ =>
    thn (ho pins s2 σ H2 x y v u _ I2 r1 r2 q2) fun c s3 ⟨z, H3, I3, r3, k, e, q3⟩ => ?_) hm
  subst e
  cases r3
  exact wpAny_truthy_bool ⟨H3, I3, q3⟩
def tChain (r r' : R2) (ta tb tc : TE) : TE := fun σ H Q => ta σ H fun x H1 => tb σ H1 fun y H2 => r x y H2 fun z H3 => ∃ k, z = .bl k ∧
  (if k = true then tc σ H3 fun w' H4 => r' y w' H4 Q else Q (.bl false) H3)
theorem pe_chain {op op' : CmpOp} {r r' : R2} (ho : OpR X (compareOp op) r) (ho' : OpR X (compareOp op') r') (ha : PE X a ta) (hb : PE X b tb) (hc : PE X c tc)
    (hm : lastMarks [op, op'] [b, c] = false := by with_unfolding_all rfl) : PE X (.Compare a [op, op'] [b, c] pos) (tChain r r' ta tb tc) := by
  intro pins s σ H Q I h
  refine Compare_chain (thn (ha pins s σ H _ I h) fun v s1 ⟨x, H1, I1, r1, q1⟩ => chain_link (thn (hb pins s1 σ H1 _ I1 q1) fun u s2 ⟨y, H2, I2, r2, q2⟩ =>
    thn (ho pins s2 σ H2 x y v u _ I2 r1 r2 q2) fun d s3 ⟨z, H3, I3, r3, k, e, q3⟩ => ?_)) hm
  subst e
  cases r3
  refine wpAny_truthy_bool ?_
  cases k with
  | false => exact ite_ff ⟨.bl false, H3, I3, rfl, q3⟩
  | true => exact ite_tt (chain_last (thn (hc pins s3 σ H3 _ I3 q3) fun w' s4 ⟨z', H4, I4, r4, q4⟩ => ho' pins s4 σ H4 y z' u w' Q I4 r2 r4 q4))
theorem pt_chain {op op' : CmpOp} {r r' : R2} (ho : OpR X (compareOp op) r) (ho' : OpR X (compareOp op') r') (ha : PE X a ta) (hb : PE X b tb) (hc : PE X c tc)
    (hm : lastMarks [op, op'] [b, c] = false := by with_unfolding_all rfl) : PT X (.Compare a [op, op'] [b, c] pos) (tTest (tChain r r' ta tb tc)) := by
  intro pins s σ H Q I h
  refine isTrue_chain (thn (ha pins s σ H _ I h) fun v s1 ⟨x, H1, I1, r1, q1⟩ => test_link (thn (hb pins s1 σ H1 _ I1 q1) fun u s2 ⟨y, H2, I2, r2, q2⟩ =>
    thn (ho pins s2 σ H2 x y v u _ I2 r1 r2 q2) fun d s3 ⟨z, H3, I3, r3, k, e, q3⟩ => ?_)) hm
  subst e
  cases r3
  refine wpAny_truthy_bool ?_
  cases k with
  | false =>
    obtain ⟨k', e', q'⟩ := q3
    cases e'
    exact ite_ff ⟨H3, I3, q'⟩
  | true =>
    refine ite_tt (test_last (thn (hc pins s3 σ H3 _ I3 q3) fun w' s4 ⟨z', H4, I4, r4, q4⟩ => thn (ho' pins s4 σ H4 y z' u w' _ I4 r2 r4 q4) fun d' s5 ⟨z2, H5, I5, r5, k2, e2, q5⟩ => ?_))
    subst e2
    cases r5
    exact wpAny_truthy_bool ⟨H5, I5, q5⟩
theorem line63 : (sizeLine : Nat) < 2 ^ 63 := by rw [sizeLine_eq]; decide
theorem vals1 {x : V} {us : List Value} (r : Vals [x] us) : ∃ u, us = [u] ∧ RelV x u := by
  cases r with
  | cons r1 r2 => cases r2; exact ⟨_, rfl, r1⟩
theorem vals2 {x y : V} {us : List Value} (r : Vals [x, y] us) : ∃ u w', us = [u, w'] ∧ RelV x u ∧ RelV y w' := by
  cases r with
  | cons r1 r2 =>
    cases r2 with
    | cons r3 r4 => cases r4; exact ⟨_, _, rfl, r1, r3⟩
theorem call_max2 (hc : X.calm = true) : CallR X (.builtin "max") (fun xs H Q => ∃ i j, xs = [.int i, .int j] ∧ Q (.int (if j > i then j else i)) H) := by
  intro pins s σ H xs us Q I r h
  obtain ⟨i, j, rfl, q⟩ := h
  obtain ⟨u, w', rfl, ⟨t, rfl⟩, ⟨t', rfl⟩⟩ := vals2 r
  refine max_two_ints (I.ok.hd hc) fun h' tk k => ⟨_, H, I.kept k, ?_, q⟩
  by_cases hj : j > i
  · rw [if_pos hj, if_pos hj]; exact ⟨_, rfl⟩
  · rw [if_neg hj, if_neg hj]; exact ⟨_, rfl⟩
theorem call_min2 (hc : X.calm = true) : CallR X (.builtin "min") (fun xs H Q => ∃ i j, xs = [.int i, .int j] ∧ Q (.int (if j < i then j else i)) H) := by
  intro pins s σ H xs us Q I r h
  obtain ⟨i, j, rfl, q⟩ := h
  obtain ⟨u, w', rfl, ⟨t, rfl⟩, ⟨t', rfl⟩⟩ := vals2 r
  refine min_two_ints (I.ok.hd hc) fun h' tk k => ⟨_, H, I.kept k, ?_, q⟩
  by_cases hj : j < i
  · rw [if_pos hj, if_pos hj]; exact ⟨_, rfl⟩
  · rw [if_neg hj, if_neg hj]; exact ⟨_, rfl⟩
theorem call_int1 : CallR X (.type "int") (fun xs H Q => (∃ i, xs = [.int i] ∧ Q (.int i) H) ∨ ∃ k, xs = [.bl k] ∧ Q (.int (if k then 1 else 0)) H) := by
  intro pins s σ H xs us Q I r h
  rcases h with ⟨i, rfl, q⟩ | ⟨k, rfl, q⟩
  · obtain ⟨u, rfl, t, rfl⟩ := vals1 r
    exact call_int_int ⟨.int i, H, I, ⟨_, rfl⟩, q⟩
  · obtain ⟨u, rfl, r1⟩ := vals1 r
    cases r1
    exact call_int_bool ⟨.int (if k then 1 else 0), H, I.tok _, ⟨_, rfl⟩, q⟩
end
end L2
namespace L2
open PySem PySem.Spec PyProof.Rows
structure ObjM (h : Heap) (x dx C : Addr) (mA : Str → Option Value) : Prop where
  obj : h.get? x = some (PySem.W.instObj C dx)
  ns : h.Ns1 dx mA
  ne : dx ≠ x
theorem lookIn_ns {h : Heap} {dx : Addr} {mA : Str → Option Value} (n : h.Ns1 dx mA) : ∃ od, h.get? dx = some od ∧ ∀ name, PySem.W.lookIn name od = some (mA name) := by
  obtain ⟨o, es, ep, ho, hd, hk, _, hm⟩ := n
  refine ⟨o, ho, fun name => ?_⟩
  have e := hm name
  unfold nsFind findBy at e
  rw [← Array.find?_toList] at e
  unfold PySem.W.lookIn
  rw [hd]
  dsimp only
  split
  · rename_i y q
    rw [q] at e
    exact congrArg some e
  · rename_i q
    rw [q] at e
    have a : es.toList.any (·.refKey) = false := by
      rw [List.any_eq_false]
      intro y hy
      obtain ⟨z, t, hkey⟩ := hk y (Array.mem_toList_iff.mp hy)
      simp [DictEntry.refKey, hkey]
    have a' : ¬ es.toList.any (·.refKey) = true := by rw [a]; exact Bool.false_ne_true
    rw [if_neg a']
    exact congrArg some e
theorem ObjM.look {h : Heap} {x dx C : Addr} {mA : Str → Option Value} (I : ObjM h x dx C mA) : ∃ od, PySem.W.InstAt h x (PySem.W.instObj C dx) C (some od) ∧ ∀ name, PySem.W.lookIn name od = some (mA name) :=
  let ⟨od, ho, hl⟩ := lookIn_ns I.ns
  ⟨od, ⟨I.obj, rfl, rfl, ho⟩, hl⟩
section
variable {prog : Program} {w : World} {A : Around} {E : Value → Shared → Prop} {s : Shared} {K : PySem.W.Frag} {x dx C f : Addr} {mA : Str → Option Value} {name : Str} {v : Value}
theorem get_map {expr : Bool} {Q : Value → Shared → Prop} (X : K.In s.heap) (I : ObjM s.heap x dx C mA) (hg : PySem.W.plainGet K C name = true) (hh : PySem.W.hasDictIn K C = true)
    (ha : PySem.W.findIn K (.ref C) name = some none) (hv : mA name = some v) (hv' : PySem.W.handedIn v = true) (h : Q v { s with toks := s.toks + 1 }) :
    wpAny (model prog w) A (getAttr (.ref x) name expr) Q E s := by
  obtain ⟨od, J, hl⟩ := I.look
  exact PySem.W.get_value X J (PySem.W.plainGet_of hg).1 (PySem.W.findObj_own hh ha rfl (by rw [hl, hv])) hv' h
theorem get_meth {pl : Sem Bool} {Q : Value × List Value → Shared → Prop} (X : K.In s.heap) (I : ObjM s.heap x dx C mA) (hg : PySem.W.plainGet K C name = true)
    (hf : PySem.W.findIn K (.ref C) name = some (some (.ref f))) (ht : PySem.W.isFn K (.ref f) = true) (hv : mA name = none) (h : Q (.ref f, [.ref x]) s) :
    wpAny (model prog w) A (getMethod (.ref x) name pl) Q E s := by
  obtain ⟨od, J, hl⟩ := I.look
  exact PySem.W.method_fn X J (PySem.W.plainGet_of hg).1 (PySem.W.plainGet_of hg).2 hf (beq_iff_eq.mp ht) (by show (PySem.W.lookIn name od).map (·.isSome) = some false; rw [hl, hv]; rfl) h
theorem set_map {ns : List Str} {Q : Unit → Shared → Prop} (X : K.In s.heap) (I : ObjM s.heap x dx C mA)
    (hs : PySem.W.findIn K (.ref C) "__setattr__" = some (some (.builtin "object.__setattr__"))) (hp : PySem.W.plainOver K C = true) (ht : PySem.W.takerIn K C name = some none) (hh : PySem.W.hasDictIn K C = true)
    (hw : PySem.Within mA ns) (hsz : ns.length ≤ sizeLine)
    (h : ∀ h', ObjM h' x dx C (fun y => if y = name then some v else mA y) → Heap.SameBut dx s.heap h' → Q () { s with heap := h', toks := s.toks + 2 }) :
    wpAny (model prog w) A (setAttr (.ref x) name v) Q E s := by
  obtain ⟨od, J, hl⟩ := I.look
  refine PySem.W.set_plain X J hs (PySem.W.osa_open (s := { s with toks := s.toks + 1 }) (r := none) X J hp ht fun b => ?_)
  obtain ⟨cd, hc, hd'⟩ := PySem.W.any_some hh
  have hx : s.heap.get? x = some ⟨.ref C, some dx, .plain, #[]⟩ := I.obj
  refine wpAny_bind (wpAny_pure (wpAny_bind (wpAny_bind (wpAny_loadPart hx (wpAny_bind (PySem.W.Looks.here (s := { s with toks := s.toks + 1 }) (PySem.W.looks_clsIn X hc) ?_))))))
  rw [hd']
  refine wpAny_pure (a := some dx) (wpAny_bind (wpAny_pure (wpAny_bind ?_)))
  refine wpAny_nsSet1 (s := { s with toks := s.toks + 1 }) I.ns fun h' hn2 hs2 => ?_
  obtain ⟨oD, esD, epD, hoD, hdD, hcD⟩ := hn2.count (PySem.Within.cons name v hw)
  refine wpAny_bind (wpAny_lookBehind hoD (by rw [hdD]; exact pastItsLine_dict (Nat.le_trans hcD (by rw [List.length_cons]; omega))) ?_)
  exact wpAny_pure (h _ ⟨(hs2.2 _ (Ne.symm I.ne)).trans I.obj, hn2, I.ne⟩ hs2)
theorem make_map {R : Result → Shared → Prop} {vs : List Value} {kw : List (Str × Value)} (X : K.In s.heap) (hm : PySem.W.makesIn K C = true)
    (hi : PySem.W.findIn K (.ref C) "__init__" = some (some (.ref f))) (hf : PySem.W.typeIn K (.ref f) = some (.type "function"))
    (h : codeAny (model prog w) (A.under (.builtin "type.__call__" ⟨.ref C :: vs, kw⟩)) (.call (.ref f) ⟨.ref (s.heap.objs.size + 1) :: vs, kw⟩) (PySem.W.InitBack (s.heap.objs.size + 1) R)
      { s with heap := (s.heap.push PySem.W.emptyDict).push (PySem.W.instObj C s.heap.objs.size) }) :
    codeAny (model prog w) A (.call (.ref C) ⟨vs, kw⟩) R s := by
  obtain ⟨hh, g, d, t, os⟩ := s
  exact PySem.W.make_core (PySem.W.makes_of X hm) (PySem.W.looks_findIn X hi) (fun self => PySem.W.bind_fn X self hf) (.inl rfl) h
end
def putF (f : Str) (v : V) : List (Str × V) → List (Str × V)
  | [] => [(f, v)]
  | (g, x) :: r => if g = f then (g, v) :: r else (g, x) :: putF f v r
theorem lookup_putF (f g : Str) (v : V) : ∀ fs : List (Str × V), (putF f v fs).lookup g = if g = f then some v else fs.lookup g
  | [] => by
    show List.lookup g [(f, v)] = _
    by_cases h : g = f
    · have hb : (g == f) = true := beq_iff_eq.mpr h
      simp only [List.lookup, hb, if_pos h]
    · have hb : (g == f) = false := beq_eq_false_iff_ne.mpr h
      simp only [List.lookup, hb, if_neg h]
  | (k, x) :: r => by
    have ih := lookup_putF f g v r
    rw [show putF f v ((k, x) :: r) = (if k = f then (k, v) :: r else (k, x) :: putF f v r) from rfl]
    by_cases hk : k = f
    · rw [if_pos hk]
      by_cases h : g = k
      · have hb : (g == k) = true := beq_iff_eq.mpr h
        simp only [List.lookup, hb, if_pos (h.trans hk)]
      · have hb : (g == k) = false := beq_eq_false_iff_ne.mpr h
        simp only [List.lookup, hb, if_neg (fun e : g = f => h (e.trans hk.symm))]
    · rw [if_neg hk]
      by_cases h : g = k
      · have hb : (g == k) = true := beq_iff_eq.mpr h
        simp only [List.lookup, hb, if_neg (fun e : g = f => hk (h.symm.trans e))]
      · have hb : (g == k) = false := beq_eq_false_iff_ne.mpr h
        simp only [List.lookup, hb]
        exact ih
theorem keys_putF (f : Str) (v : V) : ∀ fs : List (Str × V), f ∈ (putF f v fs).map (·.1) ∧ ∀ g, g ∈ fs.map (·.1) → g ∈ (putF f v fs).map (·.1)
  | [] => ⟨by simp [putF], fun g h => by simp at h⟩
  | (k, x) :: r => by
    obtain ⟨i1, i2⟩ := keys_putF f v r
    rw [show putF f v ((k, x) :: r) = (if k = f then (k, v) :: r else (k, x) :: putF f v r) from rfl]
    by_cases hk : k = f
    · rw [if_pos hk]
      subst hk
      exact ⟨by simp, fun g h => by simpa using h⟩
    · rw [if_neg hk]
      refine ⟨?_, fun g h => ?_⟩
      · rw [List.map_cons]
        exact List.mem_cons_of_mem _ i1
      · rw [List.map_cons] at h ⊢
        rcases List.mem_cons.mp h with e | e
        · exact List.mem_cons.mpr (.inl e)
        · exact List.mem_cons_of_mem _ (i2 g e)
theorem length_putF (f : Str) (v : V) : ∀ fs : List (Str × V), (putF f v fs).length ≤ fs.length + 1
  | [] => by simp [putF]
  | (k, x) :: r => by
    have ih := length_putF f v r
    rw [show putF f v ((k, x) :: r) = (if k = f then (k, v) :: r else (k, x) :: putF f v r) from rfl]
    by_cases hk : k = f
    · rw [if_pos hk, List.length_cons, List.length_cons]; omega
    · rw [if_neg hk, List.length_cons, List.length_cons]; omega
theorem RelO.some_of {v : V} {o : Option Value} (r : RelO (some v) o) : ∃ u, o = some u ∧ RelV v u := by
  cases o with
  | none => exact (show False from r).elim
  | some u => exact ⟨u, rfl, r⟩
theorem RelO.none_of {o : Option Value} (r : RelO none o) : o = none := by
  cases o with
  | none => rfl
  | some u => exact (show False from r).elim
theorem handed_of {v : V} {u : Value} (r : RelV v u) : PySem.W.handedIn u = true := by
  cases v with
  | non => cases (show u = Value.none from r); rfl
  | bl b => cases (show u = Value.bool b from r); rfl
  | int i => obtain ⟨t, e⟩ := (show ∃ t, u = Value.int i t from r); cases e; rfl
  | str x => obtain ⟨t, e⟩ := (show ∃ t, u = Value.str x t from r); cases e; rfl
  | byt b => obtain ⟨t, e⟩ := (show ∃ t, u = Value.bytes b t from r); cases e; rfl
  | flt b => obtain ⟨t, e⟩ := (show ∃ t, u = Value.float b t from r); cases e; rfl
  | ref a => cases (show u = Value.ref a from r); rfl
  | ty n => cases (show u = Value.type n from r); rfl
section
variable {P : Program} {w : World} {H H' : Hp} {h h' : Heap} {a C dx : Addr} {fs fs' : List (Str × V)}
theorem ins_get (hok : HOk P w H h) (e : H a = some (.ins C dx fs)) : ∃ mA, ObjM h a dx C mA ∧ (∀ f, RelO (fs.lookup f) (mA f)) ∧ PySem.Within mA (fs.map (·.1)) ∧ fs.length ≤ 1000 ∧ H dx = some (.own a) := by
  obtain ⟨d, z, ne, ob, mA, n, r, q⟩ := (show ObjOk P w H h a (.ins C dx fs) from hok a _ e)
  exact ⟨mA, ⟨ob, n, ne⟩, r, q, z, d⟩
end
structure Cls (K : PySem.W.Frag) (C : Addr) : Prop where
  pg : PySem.W.plainGet K C Str.empty = true
  hd : PySem.W.hasDictIn K C = true
  po : PySem.W.plainOver K C = true
  sa : PySem.W.findIn K (.ref C) "__setattr__" = some (some (.builtin "object.__setattr__"))
theorem Cls.get {K : PySem.W.Frag} {C : Addr} (c : Cls K C) (f : Str) : PySem.W.plainGet K C f = true := c.pg
def NoAttr (K : PySem.W.Frag) (C : Addr) (f : Str) : Prop := PySem.W.findIn K (.ref C) f = some none
theorem NoAttr.taker {K : PySem.W.Frag} {C : Addr} {f : Str} (n : NoAttr K C f) : PySem.W.takerIn K C f = some none := by
  unfold PySem.W.takerIn
  rw [show PySem.W.findIn K (.ref C) f = some none from n]
  rfl
structure Meth (K : PySem.W.Frag) (C : Addr) (m : Str) (f : Addr) : Prop where
  at_ : PySem.W.findIn K (.ref C) m = some (some (.ref f))
  fn : PySem.W.isFn K (.ref f) = true
  kp : PySem.W.keepIn K (.ref f) = true
section
variable {X : Cx} {pins : List (Addr × Obj)} {σ : St} {H : Hp} {s : Shared} {a C dx : Addr} {fs : List (Str × V)} {f : Str} {v : V} {A : Around} {E : Value → Shared → Prop}
theorem getattr_ok {b : Bool} {Q : Value → Shared → Prop} (I : Inv X pins σ H s) (e : H a = some (.ins C dx fs)) (c : Cls X.K C) (n : NoAttr X.K C f) (l : fs.lookup f = some v)
    (h : ∀ u s', Inv X pins σ H s' → RelV v u → Q u s') : wpAny (model X.prog X.w) A (getAttr (.ref a) f b) Q E s := by
  obtain ⟨mA, O, r, _, _, _⟩ := ins_get I.hok e
  obtain ⟨u, hu, ru⟩ := RelO.some_of (v := v) (o := mA f) (by rw [← l]; exact r f)
  exact get_map I.kIn O (c.get f) c.hd n hu (handed_of ru) (h u _ (I.tok _) ru)
theorem getmeth_ok {m : Str} {g : Addr} {pl : Sem Bool} {Q : Value × List Value → Shared → Prop} (I : Inv X pins σ H s) (e : H a = some (.ins C dx fs)) (c : Cls X.K C) (k : Meth X.K C m g) (l : fs.lookup m = none)
    (h : Q (.ref g, [.ref a]) s) : wpAny (model X.prog X.w) A (getMethod (.ref a) m pl) Q E s := by
  obtain ⟨mA, O, r, _, _, _⟩ := ins_get I.hok e
  have hn : mA m = none := RelO.none_of (by rw [← l]; exact r m)
  exact get_meth I.kIn O (c.get m) k.at_ k.fn hn h
theorem setattr_ok {y : V} {u : Value} {Q : Unit → Shared → Prop} (I : Inv X pins σ H s) (e : H a = some (.ins C dx fs)) (c : Cls X.K C) (n : NoAttr X.K C f) (hl : fs.length < 1000) (ry : RelV y u)
    (h : ∀ s', Inv X pins σ (upd H a (.ins C dx (putF f y fs))) s' → Q () s') : wpAny (model X.prog X.w) A (setAttr (.ref a) f u) Q E s := by
  obtain ⟨mA, O, r, wi, _, ho⟩ := ins_get I.hok e
  have hz : (fs.map (·.1)).length ≤ sizeLine := by rw [List.length_map, sizeLine_eq]; omega
  refine set_map I.kIn O c.sa c.po n.taker c.hd wi hz fun h' O' sb => h _ ?_
  have hd : ∃ o, h'.get? dx = some o := let ⟨o, _, _, e', _⟩ := O'.ns; ⟨o, e'⟩
  refine I.write (x := a) (e := dx) (by rw [e]; exact True.intro) (.inr ho) (fun b q hb z => (sb.2 b hb).trans z) hd ?_
  refine ⟨by rw [upd_ne O.ne]; exact ho, ?_, O.ne, O'.obj, _, O'.ns, fun g => ?_, fun g hg => ?_⟩
  · have := length_putF f y fs; omega
  · show RelO ((putF f y fs).lookup g) (if g = f then some u else mA g)
    rw [lookup_putF]
    by_cases q : g = f
    · rw [if_pos q, if_pos q]; exact ry
    · rw [if_neg q, if_neg q]; exact r g
  · by_cases q : g = f
    · rw [q]; exact (keys_putF f y fs).1
    · refine (keys_putF f y fs).2 g (wi g fun z => hg ?_)
      show (if g = f then some u else mA g) = none
      rw [if_neg q]; exact z
theorem Inv.made (I : Inv X pins σ H s) : Inv X pins σ (upd (upd H s.heap.objs.size (.own (s.heap.objs.size + 1))) (s.heap.objs.size + 1) (.ins C s.heap.objs.size []))
    { s with heap := (s.heap.push PySem.W.emptyDict).push (PySem.W.instObj C s.heap.objs.size) } := by
  have e1 : (s.heap.push PySem.W.emptyDict).get? s.heap.objs.size = some PySem.W.emptyDict := Heap.get?_push_size s.heap rfl
  have e2 : ((s.heap.push PySem.W.emptyDict).push (PySem.W.instObj C s.heap.objs.size)).get? (s.heap.objs.size + 1) = some (PySem.W.instObj C s.heap.objs.size) := by
    have := Heap.get?_push_size (s.heap.push PySem.W.emptyDict) (o := PySem.W.instObj C s.heap.objs.size) rfl
    rwa [Heap.size_push] at this
  have e3 : (s.heap.push PySem.W.emptyDict).Ns s.heap.objs.size (fun _ => none) := ⟨PySem.W.emptyDict, #[], _, e1, rfl, (fun e he => absurd he (by simp)), fun _ => rfl⟩
  have I1 := I.laid (a := s.heap.objs.size) (o := .own (s.heap.objs.size + 1)) (h' := s.heap.push PySem.W.emptyDict) (t' := s.toks) (fun b u q => Heap.get?_push_of_some _ q) (Nat.le_refl _) ⟨_, e1⟩
  refine I1.laid (a := s.heap.objs.size + 1) (o := .ins C s.heap.objs.size []) (t' := s.toks) (fun b u q => Heap.get?_push_of_some _ q) (Nat.le_of_eq (Heap.size_push _ _)) ?_
  have ne : s.heap.objs.size ≠ s.heap.objs.size + 1 := Nat.ne_of_lt (Nat.lt_succ_self _)
  refine ⟨by rw [upd_ne ne, upd_same], Nat.zero_le _, ne, e2, fun _ => none, (Heap.Ns1.of_empty e3).at fun o q => Heap.get?_push_of_some _ q, fun _ => True.intro, fun y hy => absurd rfl hy⟩
theorem attr_of {prog : Program} {w : World} {env : Env} {e : Expr} {f : Str} {pos : Pos} {s : Shared} {Q : Value → Shared → Prop} (hb : attributeBase e f env (eval e env) = eval e env)
    (h : wpAny (model prog w) A (eval e env) (fun o s₁ => wpAny (model prog w) A (getAttr o f true) Q E s₁) E s) : wpAny (model prog w) A (eval (.Attribute e f pos) env) Q E s :=
  Attribute_any_ h (by rw [arm_eval_Attribute, hb])
end
def tFld (K : PySem.W.Frag) (ta : TE) (f : Str) : TE := fun σ H Q => ta σ H fun x H1 => ∃ a C dx fs v, x = .ref a ∧ H1 a = some (.ins C dx fs) ∧ Cls K C ∧ NoAttr K C f ∧ fs.lookup f = some v ∧ Q v H1
def sFld (K : PySem.W.Frag) (ta tv : TE) (f : Str) : TS := fun D σ H => tv σ H fun y H1 => ta σ H1 fun x H2 => ∃ a C dx fs, x = .ref a ∧ H2 a = some (.ins C dx fs) ∧ Cls K C ∧ NoAttr K C f ∧ fs.length < 1000 ∧
  D.nx σ (upd H2 a (.ins C dx (putF f y fs)))
section
variable {X : Cx} {o e value : Expr} {f : Str} {pos pos' tpos : Pos} {ta tv : TE}
theorem pe_fld (he : PE X e ta) (hb : attributeBase e f X.env (eval e X.env) = eval e X.env) : PE X (.Attribute e f pos) (tFld X.K ta f) := by
  intro pins s σ H Q I h
  refine attr_of hb (thn (he pins s σ H _ I h) fun u s1 ⟨x, H1, I1, rx, a, C, dx, fs, v, ex, ea, c, n, l, q⟩ => ?_)
  subst ex
  obtain rfl : u = Value.ref a := rx
  exact getattr_ok I1 ea c n l fun u' s2 I2 ru => ⟨v, H1, I2, ru, q⟩
theorem ps_fld (ha : PE X o ta) (hv : PE X value tv) (hs : swapsWith value (some (.Attribute o f pos')) pos.line X.env = pure false) : PS X (.Assign [.Attribute o f pos'] value pos) (sFld X.K ta tv f) := by
  intro pins s σ H D I h
  refine plainObj_wpAny_Assign_Attribute (thn (hv pins s σ H _ I h) fun u s1 ⟨y, H1, I1, ry, q⟩ => thn (ha pins s1 σ H1 _ I1 q) fun ov s2 ⟨x, H2, I2, rx, a, C, dx, fs, ex, ea, c, n, l, q2⟩ => ?_) hs
  subst ex
  obtain rfl : ov = Value.ref a := rx
  exact setattr_ok I2 ea c n l ry fun s3 I3 => ⟨σ, _, I3, q2⟩
end
section
variable {X : Cx} {pins : List (Addr × Obj)} {σ : St} {H : Hp} {s : Shared} {A : Around} {E : Value → Shared → Prop} {Q : Value → Shared → Prop} {c : Value} {b : Bool}
inductive TyOf (K : PySem.W.Frag) (H : Hp) : V → Value → Prop where
  | non : TyOf K H .non (.type "NoneType")
  | bl (x : Bool) : TyOf K H (.bl x) (.type "bool")
  | int (i : Int) : TyOf K H (.int i) (.type "int")
  | str (x : Str) : TyOf K H (.str x) (.type "str")
  | flt (x : UInt64) : TyOf K H (.flt x) (.type "float")
  | lst {a : Addr} {xs : List V} (e : H a = some (.lst xs)) : TyOf K H (.ref a) (.type "list")
  | frz {a : Addr} {o : Obj} {xs : List V} (e : H a = some (.frz o (.lst xs))) : TyOf K H (.ref a) (.type "list")
  | tup {a : Addr} {xs : List V} (e : H a = some (.tup xs)) : TyOf K H (.ref a) (.type "tuple")
  | dK {a : Addr} {kvs : List (Key × V)} (e : H a = some (.dK kvs)) : TyOf K H (.ref a) (.type "dict")
  | dT {a : Addr} {kvs : List (List Key × V)} (e : H a = some (.dT kvs)) : TyOf K H (.ref a) (.type "dict")
  | ins {a C dx : Addr} {fs : List (Str × V)} (e : H a = some (.ins C dx fs)) (cl : Cls K C) (ha : PySem.W.findIn K (.ref C) "__class__" = some (some (.builtin "object.__class__")))
      (hn : PySem.W.specialIn K (.builtin "object.__class__") "__get__" = some (some (.builtin "getset_descriptor.__get__"))) (htk : PySem.W.takesIn K (.builtin "object.__class__") = some true)
      (hm : PySem.W.mroIn K C (.type "object") = some true) : TyOf K H (.ref a) (.ref C)
theorem isinst_ok {x : V} {u t : Value} (I : Inv X pins σ H s) (rx : RelV x u) (ty : TyOf X.K H x t) (e : PySem.W.kitOne X.K t c = some b) (h : ∀ tk, Q (.bool b) { s with toks := tk }) :
    wpAny (model X.prog X.w) A (call (.builtin "isinstance") [u, c]) Q E s := by
  cases ty with
  | non => cases (show u = Value.none from rx); exact PySem.W.kia_one PySem.W.kitx_none I.kIn True.intro e (fun z => nomatch z) h
  | bl y => cases (show u = Value.bool y from rx); exact PySem.W.kia_one PySem.W.kitx_bool I.kIn True.intro e (fun z => nomatch z) h
  | int i => obtain ⟨t, q⟩ := (show ∃ t, u = Value.int i t from rx); cases q; exact PySem.W.kia_one PySem.W.kitx_int I.kIn True.intro e (fun z => nomatch z) h
  | str y => obtain ⟨t, q⟩ := (show ∃ t, u = Value.str y t from rx); cases q; exact PySem.W.kia_one PySem.W.kitx_str I.kIn True.intro e (fun z => nomatch z) h
  | flt y => obtain ⟨t, q⟩ := (show ∃ t, u = Value.float y t from rx); cases q; exact PySem.W.kia_one PySem.W.kitx_float I.kIn True.intro e (fun z => nomatch z) h
  | @lst a xs ea =>
    cases (show u = Value.ref a from rx)
    obtain ⟨_, _, n, _, h1⟩ := (show ObjOk X.prog X.w H s.heap a (.lst xs) from I.hok a _ ea)
    exact PySem.W.kia_one PySem.W.kitx_list I.kIn ⟨_, h1, rfl⟩ e (fun z => nomatch z) h
  | @frz a ob xs ea =>
    cases (show u = Value.ref a from rx)
    obtain ⟨_, _, _, n, _, h1⟩ := (show ObjOk X.prog X.w H s.heap a (.frz ob (.lst xs)) from I.hok a _ ea)
    exact PySem.W.kia_one PySem.W.kitx_list I.kIn ⟨_, h1, rfl⟩ e (fun z => nomatch z) h
  | @tup a xs ea =>
    cases (show u = Value.ref a from rx)
    obtain ⟨_, _, _, p⟩ := (show ObjOk X.prog X.w H s.heap a (.tup xs) from I.hok a _ ea)
    obtain ⟨o, h1, h2, _⟩ := p
    exact PySem.W.kia_one PySem.W.kitx_tuple I.kIn ⟨o, h1, h2⟩ e (fun z => nomatch z) h
  | @dK a kvs ea =>
    cases (show u = Value.ref a from rx)
    obtain ⟨_, _, vs, _, p⟩ := (show ObjOk X.prog X.w H s.heap a (.dK kvs) from I.hok a _ ea)
    obtain ⟨o, es, ep, h1, h2, _⟩ := p
    exact PySem.W.kia_one PySem.W.kitx_dict I.kIn ⟨o, h1, h2.1⟩ e (fun z => nomatch z) h
  | @dT a kvs ea =>
    cases (show u = Value.ref a from rx)
    obtain ⟨_, _, xs, _, o, es, ep, h1, h2, _⟩ := (show ObjOk X.prog X.w H s.heap a (.dT kvs) from I.hok a _ ea)
    exact PySem.W.kia_one PySem.W.kitx_dict I.kIn ⟨o, h1, h2.1⟩ e (fun z => nomatch z) h
  | @ins a C dx fs ea cl ha hn htk hm =>
    cases (show u = Value.ref a from rx)
    obtain ⟨mA, O, _⟩ := ins_get I.hok ea
    obtain ⟨od, J, _⟩ := O.look
    exact PySem.W.kia_one (PySem.W.kitx_own (cl.get _) cl.hd ha hn htk hm) I.kIn J e (fun z => nomatch z) h
end
end L2
namespace L2
open PySem PySem.Spec PyProof.Rows
structure Room (k : Nat) (A : Around) : Prop where
  hd : A.handled = none
  dp : A.depth + 3 * k + 5 < recursionLimit
  un : A.units + 16 * k + 200 < cLine
theorem Room.mono {j k : Nat} {A : Around} (r : Room k A) (h : j ≤ k) : Room j A := ⟨r.hd, by have := r.dp; omega, by have := r.un; omega⟩
theorem Room.deeper {k : Nat} {A : Around} (r : Room (k + 1) A) (env : Env) : Room k (A.deeper env) :=
  ⟨r.hd, by have := r.dp; show A.depth + 1 + 3 * k + 5 < _; omega, by have := r.un; show A.units + 3 + 16 * k + 200 < _; omega⟩
theorem make_depth {A : Around} {C : Addr} {us : List Value} {kw : List (Str × Value)} : (A.under (.builtin "type.__call__" ⟨.ref C :: us, kw⟩)).depth = A.depth + 1 := by
  first | rfl | simp [Around.under, Code.weight, Code.isCreation, Code.isGuard, Code.isCaller, Code.frames, Code.isFrame, guardIds]
theorem make_units {A : Around} {C : Addr} {us : List Value} {kw : List (Str × Value)} : (A.under (.builtin "type.__call__" ⟨.ref C :: us, kw⟩)).units = A.units + 1 := by
  first | rfl | simp [Around.under, Code.cUnits, Code.frames, Code.isFrame]
theorem Room.make {k : Nat} {A : Around} (r : Room (k + 1) A) (C : Addr) (us : List Value) (kw : List (Str × Value)) : Room k (A.under (.builtin "type.__call__" ⟨.ref C :: us, kw⟩)) :=
  ⟨r.hd, by have := r.dp; rw [make_depth]; omega, by have := r.un; rw [make_units]; omega⟩
theorem Room.depth {k : Nat} {A : Around} (r : Room k A) : A.depth < recursionLimit := by have := r.dp; omega
theorem Room.units {k : Nat} {A : Around} (r : Room k A) : A.units + 64 < cLine := by have := r.un; omega
def tNil : TA := fun _ H Q => Q [] H
def tCons (ta : TE) (tr : TA) : TA := fun σ H Q => ta σ H fun x H1 => tr σ H1 fun xs H2 => Q (x :: xs) H2
section
variable {X : Cx} {e : Expr} {es : List Expr} {te : TE} {t : TA} {pos : Pos}
theorem pa_nil : PA X [] tNil := fun _ _ _ _ H Q I h => Calls.spliced_nil ⟨[], H, I, .nil, h⟩
theorem pa_cons (ha : PE X e te) (hr : PA X es t) (hs : starEach (e :: es) X.env = (false, eval e X.env) :: starEach es X.env := by rfl) : PA X (e :: es) (tCons te t) := by
  intro pos pins s σ H Q I h
  rw [hs]
  show wpAny _ _ (spliced ((false, eval e X.env) :: backTo pos (starEach es X.env))) _ _ s
  refine Calls.spliced_cons (thn (ha pins s σ H _ I h) fun u s1 ⟨x, H1, I1, r1, q1⟩ => ?_)
  exact thn (hr pos pins s1 σ H1 _ I1 q1) fun us s2 ⟨xs, H2, I2, r2, q2⟩ => ⟨x :: xs, H2, I2, .cons r1 r2, q2⟩
def tTup (t : TA) : TE := fun σ H Q => t σ H fun xs H1 => xs.length ≤ sizeLine ∧ ∀ p, H1 p = none → Q (.ref p) (upd H1 p (.tup xs))
def tLst (t : TA) : TE := fun σ H Q => t σ H fun xs H1 => xs.length ≤ sizeLine ∧ ∀ p, H1 p = none → Q (.ref p) (upd H1 p (.lst xs))
theorem pe_tup {x1} (h : PA X es t) : PE X (.Tuple es x1 pos) (tTup t) := by
  intro pins s σ H Q I hq
  refine wpAny_Tuple_spliced (thn (h pos pins s σ H _ I hq) fun us s1 ⟨xs, H1, I1, r, z, q⟩ => ⟨by rw [← r.length]; exact z, ?_⟩)
  have hf : H1 s1.heap.objs.size = none := I1.hok.fresh (Nat.le_refl _)
  refine ⟨.ref s1.heap.objs.size, upd H1 s1.heap.objs.size (.tup xs), I1.laid (t' := s1.toks) (fun b u e => Heap.get?_push_of_some _ e) (Nat.le_refl _) ?_, rfl, q _ hf⟩
  exact ⟨z, us, r, ⟨_, Heap.get?_push_size _ rfl, rfl, _, rfl⟩⟩
theorem pe_lst (h : PA X es t) : PE X (.List es pos) (tLst t) := by
  intro pins s σ H Q I hq
  refine wpAny_List_spliced (thn (h pos pins s σ H _ I hq) fun us s1 ⟨xs, H1, I1, r, z, q⟩ => ⟨by rw [← r.length]; exact z, ?_⟩)
  have hf : H1 s1.heap.objs.size = none := I1.hok.fresh (Nat.le_refl _)
  refine ⟨.ref s1.heap.objs.size, upd H1 s1.heap.objs.size (.lst xs), I1.laid (t' := s1.toks) (fun b u e => Heap.get?_push_of_some _ e) (Nat.le_refl _) ?_, rfl, q _ hf⟩
  exact ⟨z, us, 0, r, Heap.get?_push_size _ rfl⟩
end
abbrev Sp := List V → Hp → VK → XK → Prop
abbrev CXT := List Env → Hp → Shared → XK → Value → Shared → Prop
structure Env0 (P : Program) (w : World) (K : PySem.W.Frag) (mg : Str → Option Value) (base : Heap) (A : Around) (outer : List Env) (s : Shared) (H : Hp) : Prop where
  frames : A.frames = some outer
  mod : Mod K mg base
  bs : ∀ b o, base.get? b = some o → s.heap.get? b = some o ∧ H b = none
  bsz : base.objs.size ≤ s.heap.objs.size
  funs : s.heap.FunFrames base outer
  frf : ∀ b ∈ frs outer, H b = none
  hok : HOk P w H s.heap
  bare : AllBare s.gens
def CE (outer : List Env) (P : Program) (w : World) (H : Hp) (s : Shared) (Q : VK) (u : Value) (s' : Shared) : Prop :=
  ∃ v H', s'.os = s.os ∧ AllBare s'.gens ∧ Un (frs outer) [] H H' s.heap s'.heap ∧ HOk P w H' s'.heap ∧ RelV v u ∧ Q v H'
def CR (CX : CXT) (outer : List Env) (P : Program) (w : World) (H : Hp) (s : Shared) (Q : VK) (E : XK) (r : Result) (s' : Shared) : Prop :=
  match r with
  | .ok (.ret u) => CE outer P w H s Q u s'
  | .ok _ => False
  | .error e => CX outer H s E e s'
structure FnOk (P : Program) (w : World) (K : PySem.W.Frag) (mg : Str → Option Value) (base : Heap) (CX : CXT) (k : Nat) (f : Addr) (fd : FuncData) (ps : List Str) (sp : Sp) : Prop where
  len : ∀ vs H Q E, sp vs H Q E → vs.length = ps.length
  run : ∀ (A : Around) (outer : List Env) (s : Shared) (H : Hp) (args : Args) (us : List Value) (vs : List V) (Q : VK) (E : XK), Room k A → Env0 P w K mg base A outer s H → BindsTo s fd args (ps.zip us) → Vals vs us → sp vs H Q E →
    codeAny (model P w) A (.call (.ref f) args) (CR CX outer P w H s Q E) s
theorem Env0.make {P : Program} {w : World} {K : PySem.W.Frag} {mg : Str → Option Value} {base : Heap} {A : Around} {outer : List Env} {s : Shared} {H : Hp} (e : Env0 P w K mg base A outer s H) (C : Addr) (us : List Value) (kw : List (Str × Value)) :
    Env0 P w K mg base (A.under (.builtin "type.__call__" ⟨.ref C :: us, kw⟩)) outer s H := ⟨by first | exact e.frames | (simpa [Around.under, Code.envs, Code.isFrame, pushEnvs] using e.frames), e.mod, e.bs, e.bsz, e.funs, e.frf, e.hok, e.bare⟩
section
variable {X : Cx} {pins : List (Addr × Obj)} {σ : St} {H : Hp} {s s' : Shared}
theorem Inv.env0 (I : Inv X pins σ H s) : Env0 X.prog X.w X.K X.mg X.base X.A X.stack s H :=
  ⟨I.ok.frames, I.ok.mod, I.bs, Nat.le_trans I.ok.bsz I.sz, I.stack, I.stkFree, I.hok, I.bare⟩
theorem Inv.after {Q : VK} {u : Value} (I : Inv X pins σ H s) (h : CE X.stack X.prog X.w H s Q u s') : EP X pins σ Q u s' := by
  obtain ⟨v, H', os, bare, un, hok, r, q⟩ := h
  obtain ⟨hh, g, d, t, os'⟩ := s'
  obtain rfl : os' = s.os := os
  exact ⟨v, H', I.call (h' := hh) (g' := g) (d' := d) (t' := t) (ch := []) un hok bare (fun b z => absurd z (by simp)), r, q⟩
end
def tCall (sp : Sp) (dvs : List V) (E : XK) (t : TA) : TE := fun σ H Q => t σ H fun vs H1 => sp (vs ++ dvs) H1 Q E
def tMeth (C : Addr) (m : Str) (sp : Sp) (dvs : List V) (E : XK) (ta : TE) (t : TA) : TE := fun σ H Q => ta σ H fun x H1 => ∃ a dx fs, x = .ref a ∧ H1 a = some (.ins C dx fs) ∧ fs.lookup m = none ∧
  t σ H1 fun vs H2 => sp (x :: (vs ++ dvs)) H2 Q E
def tMake (C : Addr) (sp : Sp) (dvs : List V) (E : XK) (t : TA) : TE := fun σ H Q => t σ H fun vs H1 => ∀ x dx, H1 x = none → H1 dx = none → dx ≠ x →
  sp (.ref x :: (vs ++ dvs)) (upd (upd H1 dx (.own x)) x (.ins C dx [])) (fun v H2 => v = .non ∧ Q (.ref x) H2) E
def Binds (K : PySem.W.Frag) (fd : FuncData) (ps : List Str) (ds : List Value) : Prop :=
  ∀ (s : Shared) (us : List Value), K.In s.heap → (us ++ ds).length = ps.length → BindsTo s fd ⟨us, []⟩ (ps.zip (us ++ ds))
theorem Binds.all {K : PySem.W.Frag} {fd : FuncData} {ps : List Str} (h : ∀ us : List Value, us.length = ps.length → bindArgs fd ⟨us, []⟩ = pure (ps.zip us)) : Binds K fd ps [] := fun s us _ hl => by
  rw [List.append_nil] at hl ⊢
  exact .of_eq (h us hl)
def Passes (CX : CXT) (X : Cx) (E : XK) : Prop := ∀ (pins : List (Addr × Obj)) (σ : St) (H : Hp) (s : Shared) (e : Value) (s' : Shared), Inv X pins σ H s → CX X.stack H s E e s' → X.xe e s'
section
variable {X : Cx} {CX : CXT} {k : Nat} {f C : Addr} {fd : FuncData} {ps : List Str} {sp : Sp} {dvs : List V} {ds : List Value} {E : XK} {x m : Str} {p pos apos : Pos} {e o : Expr} {es : List Expr} {ta : TE} {t : TA}
theorem run_fn {pins : List (Addr × Obj)} {σ : St} {H : Hp} {s : Shared} {Q : VK} {us : List Value} {vs : List V} (F : FnOk X.prog X.w X.K X.mg X.base CX k f fd ps sp) (hr : Room k X.A) (hb : Binds X.K fd ps ds) (hd : Vals dvs ds) (hx : Passes CX X E)
    (I : Inv X pins σ H s) (r : Vals vs us) (h : sp (vs ++ dvs) H Q E) : wpAny (model X.prog X.w) X.A (call (.ref f) us) (EP X pins σ Q) X.xe s := by
  have r2 : Vals (vs ++ dvs) (us ++ ds) := r.append hd
  have hl : (us ++ ds).length = ps.length := by rw [← r2.length]; exact F.len _ _ _ _ h
  refine wpAny_call (codeAny_mono (F.run X.A X.stack s H ⟨us, []⟩ (us ++ ds) (vs ++ dvs) Q E hr I.env0 (hb s us I.kIn hl) r2 h) fun r s' hq => ?_)
  cases r with
  | error e => exact hx pins σ H s e s' I hq
  | ok fl =>
    cases fl with
    | ret u => exact I.after hq
    | next => exact False.elim hq
    | brk => exact False.elim hq
    | cont => exact False.elim hq
theorem pe_call (F : FnOk X.prog X.w X.K X.mg X.base CX k f fd ps sp) (hr : Room k X.A) (hg : Gl X x) (hm : X.mg x = some (.ref f)) (hk : PySem.W.keepIn X.K (.ref f) = true) (hb : Binds X.K fd ps ds) (hd : Vals dvs ds) (hx : Passes CX X E)
    (ha : PA X (e :: es) t) (hdb : (x == ("__debug__" : Str)) = false := by decide) (he : starEach (e :: es) X.env = (false, eval e X.env) :: starEach es X.env := by rfl) (hpl : (backTo pos (starEach es X.env)).any (·.1) = false := by rfl) :
    PE X (.Call (.Name x p) (e :: es) [] pos) (tCall sp dvs E t) := by
  intro pins s σ H Q I h
  refine wpAny_Call_Name_kw (ld_glob I hg hm ?_ hdb)
  refine PySem.W.callWith_K (h₀ := X.base) I.ok.mod.kin hk (thn (ha pos pins s σ H _ I h) fun us s1 ⟨vs, H1, I1, r, q⟩ => ⟨I1.kIn, ?_⟩) he hpl
  exact run_fn F hr hb hd hx I1 r q
theorem pe_meth {pl : Sem Bool} (he : PE X o ta) (c : Cls X.K C) (hm : Meth X.K C m f) (F : FnOk X.prog X.w X.K X.mg X.base CX k f fd ps sp) (hr : Room k X.A) (hb : Binds X.K fd ps ds) (hd : Vals dvs ds) (hx : Passes CX X E) (ha : PA X (e :: es) t)
    (hst : starEach (e :: es) X.env = (false, eval e X.env) :: starEach es X.env := by rfl) (hpl : (backTo pos (starEach es X.env)).any (·.1) = false := by rfl)
    (ht : eval (.Call (.Attribute o m apos) (e :: es) [] pos) X.env = (do
      let ov ← eval o X.env
      standAt apos.atName
      let (f, first) ← holding [ov] (getMethod ov m pl)
      callWith pos f first (backTo pos (starEach (e :: es) X.env)) (backToKw pos (keywordEach [] X.env))) := by rfl) :
    PE X (.Call (.Attribute o m apos) (e :: es) [] pos) (tMeth C m sp dvs E ta t) := by
  intro pins s σ H Q I h
  refine PySem.W.methodCall_KW (pl := pl) (thn (he pins s σ H _ I h) fun u s1 ⟨x, H1, I1, rx, a, dx, fs, ex, ea, l, q⟩ => ?_) ht
  subst ex
  obtain rfl : u = Value.ref a := rx
  refine getmeth_ok I1 ea c hm l ?_
  refine PySem.W.callWith_K (first := [.ref a]) (h₀ := X.base) I.ok.mod.kin hm.kp (thn (ha pos pins s1 σ H1 _ I1 q) fun us s2 ⟨vs, H2, I2, r, q2⟩ => ⟨I2.kIn, ?_⟩) hst hpl
  exact run_fn (us := .ref a :: us) (vs := .ref a :: vs) F hr hb hd hx I2 (.cons rfl r) q2
structure Mk (K : PySem.W.Frag) (C f : Addr) : Prop where
  makes : PySem.W.makesIn K C = true
  init : PySem.W.findIn K (.ref C) "__init__" = some (some (.ref f))
  fn : PySem.W.isFn K (.ref f) = true
  kp : PySem.W.keepIn K (.ref C) = true
theorem run_make {pins : List (Addr × Obj)} {σ : St} {H : Hp} {s : Shared} {Q : VK} {us : List Value} {vs : List V} (M : Mk X.K C f) (F : FnOk X.prog X.w X.K X.mg X.base CX k f fd ps sp) (hr : Room (k + 1) X.A) (hb : Binds X.K fd ps ds) (hd : Vals dvs ds)
    (hx : Passes CX X E) (I : Inv X pins σ H s) (r : Vals vs us)
    (h : ∀ x dx, H x = none → H dx = none → dx ≠ x → sp (.ref x :: (vs ++ dvs)) (upd (upd H dx (.own x)) x (.ins C dx [])) (fun v H2 => v = .non ∧ Q (.ref x) H2) E) :
    wpAny (model X.prog X.w) X.A (call (.ref C) us) (EP X pins σ Q) X.xe s := by
  have hq := h (s.heap.objs.size + 1) s.heap.objs.size (I.hok.fresh (Nat.le_succ _)) (I.hok.fresh (Nat.le_refl _)) (Nat.ne_of_lt (Nat.lt_succ_self _))
  have I2 := Inv.made (C := C) I
  have r2 : Vals (V.ref (s.heap.objs.size + 1) :: (vs ++ dvs)) (Value.ref (s.heap.objs.size + 1) :: (us ++ ds)) := .cons rfl (r.append hd)
  have hl : (Value.ref (s.heap.objs.size + 1) :: us ++ ds).length = ps.length := by
    have e := r2.length
    rw [F.len _ _ _ _ hq] at e
    exact e.symm
  refine wpAny_call (make_map (f := f) I.kIn M.makes M.init (beq_iff_eq.mp M.fn) (codeAny_mono (F.run _ X.stack _ _ ⟨Value.ref (s.heap.objs.size + 1) :: us, []⟩ (Value.ref (s.heap.objs.size + 1) :: (us ++ ds)) _ _ E (hr.make C us [])
    (I2.env0.make C us []) (hb _ (Value.ref (s.heap.objs.size + 1) :: us) I2.kIn hl) r2 hq) fun r s' hq' => ?_))
  cases r with
  | error e => exact hx pins σ _ _ e s' I2 hq'
  | ok fl =>
    cases fl with
    | ret u =>
      obtain ⟨v, H', I3, rv, ev, q3⟩ := I2.after hq'
      subst ev
      exact ⟨rv, ⟨V.ref (s.heap.objs.size + 1), H', I3, rfl, q3⟩⟩
    | next => exact False.elim hq'
    | brk => exact False.elim hq'
    | cont => exact False.elim hq'
theorem pe_make (M : Mk X.K C f) (F : FnOk X.prog X.w X.K X.mg X.base CX k f fd ps sp) (hr : Room (k + 1) X.A) (hg : Gl X x) (hm : X.mg x = some (.ref C)) (hb : Binds X.K fd ps ds) (hd : Vals dvs ds) (hx : Passes CX X E)
    (ha : PA X (e :: es) t) (hdb : (x == ("__debug__" : Str)) = false := by decide) (he : starEach (e :: es) X.env = (false, eval e X.env) :: starEach es X.env := by rfl) (hpl : (backTo pos (starEach es X.env)).any (·.1) = false := by rfl) :
    PE X (.Call (.Name x p) (e :: es) [] pos) (tMake C sp dvs E t) := by
  intro pins s σ H Q I h
  refine wpAny_Call_Name_kw (ld_glob I hg hm ?_ hdb)
  refine PySem.W.callWith_K (h₀ := X.base) I.ok.mod.kin M.kp (thn (ha pos pins s σ H _ I h) fun us s1 ⟨vs, H1, I1, r, q⟩ => ⟨I1.kIn, ?_⟩) he hpl
  exact run_make M F hr hb hd hx I1 r q
end
section
variable {X : Cx} {CX : CXT} {k : Nat} {f C : Addr} {fd : FuncData} {ps ks : List Str} {sp : Sp} {E : XK} {x m : Str} {p pos apos kpos : Pos} {e o : Expr} {es : List Expr} {kws : List Keyword} {te ta : TE} {t tk : TA} {nm : Option Str}
variable {g : List Value → List Value → List Value} {gV : List V → List V → List V}
end
structure FnScope (N P : List Str) (sc : Scope) : Prop where
  kind : sc.kind = .function
  co : sc.isCoroutine = false
  gen : sc.isGenerator = false
  nd : N.Nodup
  pre : N.take P.length = P
  par : ∀ x ∈ P, sc.names.lookup x = some .local ∨ sc.names.lookup x = some .cell
  nofree : ∀ y ∈ sc.names, y.2 ≠ .free
theorem bindL_out {kindOf : Str → Option NameKind} {x : Str} : ∀ {binds : List (Str × Value)} {m : Str → Option Value}, (∀ v, (x, v) ∉ binds) → bindL kindOf binds m x = m x
  | [], _, _ => rfl
  | (n, v) :: r, m, h => by
    unfold bindL
    rw [bindL_out fun w hw => h w (List.mem_cons_of_mem _ hw)]
    split
    · have : x ≠ n := by rintro rfl; exact h v List.mem_cons_self
      simp [this]
    · rfl
theorem bindC_out {kindOf : Str → Option NameKind} {x : Str} : ∀ {binds : List (Str × Value)} {m : Str → Option Value}, (∀ v, (x, v) ∉ binds) → bindC kindOf binds m x = m x
  | [], _, _ => rfl
  | (n, v) :: r, m, h => by
    unfold bindC
    rw [bindC_out fun w hw => h w (List.mem_cons_of_mem _ hw)]
    split
    · rfl
    · have : x ≠ n := by rintro rfl; exact h v List.mem_cons_self
      simp [this]
theorem bindL_get {kindOf : Str → Option NameKind} {x : Str} {v : Value} : ∀ {P : List Str} {vs : List Value} {i : Nat} {m : Str → Option Value}, P.Nodup → P[i]? = some x → vs[i]? = some v → kindOf x = some .local →
    bindL kindOf (P.zip vs) m x = some v
  | [], _, _, _, _, h, _, _ => by simp at h
  | _ :: _, [], _, _, _, _, h, _ => by simp at h
  | p :: P, w :: vs, 0, m, nd, h1, h2, hk => by
    simp at h1 h2; subst h1; subst h2
    show bindL kindOf ((p, w) :: P.zip vs) m p = _
    unfold bindL
    rw [bindL_out fun v hv => (List.nodup_cons.mp nd).1 (List.of_mem_zip hv).1, if_pos hk]
    simp
  | p :: P, w :: vs, i + 1, m, nd, h1, h2, hk => by
    show bindL kindOf ((p, w) :: P.zip vs) m x = _
    unfold bindL
    exact bindL_get (i := i) (List.nodup_cons.mp nd).2 (by simpa using h1) (by simpa using h2) hk
theorem bindC_get {kindOf : Str → Option NameKind} {x : Str} {v : Value} : ∀ {P : List Str} {vs : List Value} {i : Nat} {m : Str → Option Value}, P.Nodup → P[i]? = some x → vs[i]? = some v → kindOf x ≠ some .local →
    bindC kindOf (P.zip vs) m x = some v
  | [], _, _, _, _, h, _, _ => by simp at h
  | _ :: _, [], _, _, _, _, h, _ => by simp at h
  | p :: P, w :: vs, 0, m, nd, h1, h2, hk => by
    simp at h1 h2; subst h1; subst h2
    show bindC kindOf ((p, w) :: P.zip vs) m p = _
    unfold bindC
    rw [bindC_out fun v hv => (List.nodup_cons.mp nd).1 (List.of_mem_zip hv).1, if_neg hk]
    simp
  | p :: P, w :: vs, i + 1, m, nd, h1, h2, hk => by
    show bindC kindOf ((p, w) :: P.zip vs) m x = _
    unfold bindC
    exact bindC_get (i := i) (List.nodup_cons.mp nd).2 (by simpa using h1) (by simpa using h2) hk
def start (N : List Str) (vs : List V) : St := vs.map some ++ List.replicate (N.length - vs.length) none
def cxOf (CX : CXT) (P : Program) (w : World) (K : PySem.W.Frag) (mg : Str → Option Value) (base : Heap) (N : List Str) (qual : Str) (scope : Scope) (f : Addr) (cd : Value) (A : Around) (outer : List Env) (s : Shared) (H : Hp) (E : XK) : Cx where
  prog := P
  w := w
  K := K
  mg := mg
  base := base
  A := A.deeper (envOfC qual scope s.heap.objs.size f cd)
  N := N
  s₀ := s
  H₀ := H
  env := envOfC qual scope s.heap.objs.size f cd
  outer := outer
  stack := envOfC qual scope s.heap.objs.size f cd :: outer
  ex := []
  calm := true
  fn := fun _ => true
  pn := []
  xe := fun e s' => wpAny (model P w) (A.deeper (envOfC qual scope s.heap.objs.size f cd)) (leaving (envOfC qual scope s.heap.objs.size f cd) e) (fun _ s'' => CX outer H s E e s'') (fun e' s'' => CX outer H s E e' s'') s'
theorem cell_has {sc : Scope} {n : Nat} {x : Str} (h : sc.names.lookup x = some .cell) : ∃ c, (cellsFrom n sc.names []).lookup x = some c := by
  have q := PySem.W.cellsFrom_some sc.names n [] (.inl h)
  exact Option.isSome_iff_exists.mp q
theorem inv_start {CX : CXT} {P : Program} {w : World} {K : PySem.W.Frag} {mg : Str → Option Value} {base : Heap} {N ps : List Str} {qual : Str} {scope : Scope} {f : Addr} {cd : Value} {A : Around} {outer : List Env} {s s1 : Shared} {H : Hp} {E : XK} {us : List Value} {vs : List V}
    (S : FnScope N ps scope) (hd : A.handled = none) (e0 : Env0 P w K mg base A outer s H) (hl : vs.length = ps.length) (r : Vals vs us)
    (x : InCallC s s.heap.objs.size (bindL (envOfC qual scope s.heap.objs.size f cd).kindOf (ps.zip us) fun _ => none) (cellsFrom (s.heap.objs.size + 1) scope.names []) (bindC (envOfC qual scope s.heap.objs.size f cd).kindOf (ps.zip us) fun _ => none) s1) :
    Inv (cxOf CX P w K mg base N qual scope f cd A outer s H E) [] (start N vs) H s1 := by
  have hpl : ps.length ≤ N.length := by have := congrArg List.length S.pre; rw [List.length_take] at this; omega
  obtain ⟨h1, tk, rfl, hk⟩ := x.done
  have noA : ∀ b : Addr, b ∉ (cxOf CX P w K mg base N qual scope f cd A outer s H E).ex := fun b z => absurd (show b ∈ ([] : List Addr) from z) (by simp)
  refine ⟨⟨e0.mod, S.kind, rfl, rfl, Nat.le_refl _, fun y z c h1 h2 => ?_, fun y hy => ?_, fun y c _ h => ?_, fun _ => hd, Around.frames_deeper e0.frames, .inr ⟨rfl, rfl⟩, fun b z => absurd z (noA b), e0.bs, e0.bsz, fun b _ _ => noA b, fun b z => absurd z (noA b), e0.funs, e0.frf⟩,
    rfl, e0.bare, Un.kept hk, ⟨_, x.toInCall.ns, fun i y v h1 h2 h3 => ?_⟩, fun y c h => ⟨_, x.cell y c h⟩, e0.hok.fresh (Nat.le_refl _), fun y c h => ?_, fun p hp => absurd (show p ∈ ([] : List (Addr × Obj)) from hp) (by simp), e0.hok.kept hk, ?_⟩
  · exact name_of_addr x.apart (PySem.mem_of_lookup h1) (PySem.mem_of_lookup h2)
  · have hy : scope.names.lookup y = some .cell ∨ scope.names.lookup y = some .free := hy
    rcases hy with hy | hy
    · exact cell_has hy
    · exact absurd rfl (S.nofree _ (PySem.mem_of_lookup hy))
  · exact Nat.le_of_lt (x.above y c (PySem.mem_of_lookup h))
  · have hi : i < vs.length := by
      unfold start at h2
      by_cases hi : i < vs.length
      · exact hi
      · rw [List.getElem?_append_right (by simpa using hi)] at h2
        rw [List.getElem?_replicate] at h2
        split at h2 <;> cases h2
    have ha : vs[i]? = some v := by
      unfold start at h2
      rw [List.getElem?_append_left (by simpa using hi), List.getElem?_map] at h2
      cases e : vs[i]? with
      | none => rw [e] at h2; cases h2
      | some a => rw [e] at h2; cases h2; rfl
    obtain ⟨u, hu, rv⟩ := r.get ha
    have hp : ps[i]? = some y := by
      rw [← S.pre, List.getElem?_take_of_lt (by omega)]; exact h1
    have ndP : ps.Nodup := by rw [← S.pre]; exact S.nd.sublist (List.take_sublist _ _)
    refine ⟨u, rv, ?_⟩
    rcases S.par y (List.mem_of_getElem? hp) with k | k
    · exact .inl ⟨k, bindL_get ndP hp hu k⟩
    · obtain ⟨c, e⟩ := cell_has (n := s.heap.objs.size + 1) k
      refine .inr ⟨.inl k, c, e, ?_⟩
      have q := x.cell y c e
      rw [bindC_get ndP hp hu (by show scope.names.lookup y ≠ _; rw [k]; decide)] at q
      exact q
  · exact e0.hok.fresh (Nat.le_of_lt (x.above y c (PySem.mem_of_lookup h)))
  · unfold start
    show _ = N.length
    rw [List.length_append, List.length_map, List.length_replicate]
    omega
theorem fn_of {CX : CXT} {P : Program} {w : World} {K : PySem.W.Frag} {mg : Str → Option Value} {base : Heap} {k : Nat} {f : Addr} {name qual : Str} {params : Arguments} {body : List Stmt} {scope : Scope} {dV kV doc pm cdv ct oc : Value} {an od : Option Addr}
    {osl : Array (Option Value)} {N ps : List Str} {sp : Sp} (lk : K.lookup f = some ⟨oc, od, .func (PySem.W.fnOf name qual params body scope dV kV doc pm an cdv ct), osl⟩) (hcd : PySem.W.codeIn K cdv qual = true) (S : FnScope N ps scope)
    (len : ∀ vs H Q E, sp vs H Q E → vs.length = ps.length)
    (hbody : ∀ (A : Around) (outer : List Env) (s : Shared) (H : Hp) (vs : List V) (Q : VK) (E : XK), Room k (A.deeper (envOfC qual scope s.heap.objs.size f cdv)) → sp vs H Q E →
      ∃ t, PSs (cxOf CX P w K mg base N qual scope f cdv A outer s H E) body t ∧ t { nx := fun _ H' => Q .non H', rt := Q } (start N vs) H) :
    FnOk P w K mg base CX (k + 1) f (PySem.W.fnOf name qual params body scope dV kV doc pm an cdv ct) ps sp := by
  refine ⟨len, fun A outer s H args us vs Q E hr e0 hb r hsp => ?_⟩
  have hl := len _ _ _ _ hsp
  have KX : K.In s.heap := e0.mod.kin.keeps fun b o e => (e0.bs b o e).1
  have lim : s.heap.NoLimit := e0.mod.nolimit.keeps fun b o e => (e0.bs b o e).1
  have hkind : ∀ y ∈ ps.zip us, scope.names.lookup y.1 = some .local ∨ (scope.names.lookup y.1 = some .cell ∧ ((cellsFrom (s.heap.objs.size + 1) scope.names []).lookup y.1).isSome = true) := fun ⟨n, v⟩ hy => by
    rcases S.par n (List.of_mem_zip hy).1 with q | q
    · exact .inl q
    · exact .inr ⟨q, PySem.W.cellsFrom_some _ _ _ (.inl q)⟩
  refine codeAny_call_function hr.depth (KX _ _ lk) rfl S.co S.gen rfl (PySem.W.codeRec_of KX hcd) (hb _ _ _ _ ?_)
  refine wpAny_newFunctionEnv_cells S.kind hkind fun env he s1 x => ?_
  subst he
  refine ⟨lim.keeps x.toInCall.keep, codeAny_func ?_⟩
  obtain ⟨t, ht, hq⟩ := hbody A outer s H vs Q E (hr.deeper _) hsp
  have I : Inv (cxOf CX P w K mg base N qual scope f cdv A outer s H E) [] (start N vs) H s1 := inv_start S hr.hd e0 hl r x
  refine wpAny_mono (ht [] s1 (start N vs) H _ I hq) (fun fl s' hs => ?_) fun e s' hs => hs
  have fin : ∀ {σ' : St} {H' : Hp} {v : V} {u : Value}, Inv (cxOf CX P w K mg base N qual scope f cdv A outer s H E) [] σ' H' s' → RelV v u → Q v H' → CE outer P w H s Q u s' :=
    fun {σ' H' v u} J rv q => ⟨v, H', J.os, J.bare, J.base, J.hok, rv, q⟩
  cases fl with
  | ret u =>
    obtain ⟨v, σ', H', J, rv, q⟩ := hs
    exact fin J rv q
  | next =>
    obtain ⟨σ', H', J, q⟩ := hs
    exact fin (v := V.non) (u := Value.none) J rfl q
  | brk =>
    obtain ⟨_, _, _, q⟩ := hs
    exact False.elim q
  | cont =>
    obtain ⟨_, _, _, q⟩ := hs
    exact False.elim q
end L2
namespace L2
open PySem PySem.Spec PyProof.Rows
section
variable {X : Cx} {x : Str} {p pos : Pos} {e : Expr} {es : List Expr} {t : TA} {id T : String} {r : List V → Hp → VK → Prop}
def tCB (r : List V → Hp → VK → Prop) (t : TA) : TE := fun σ H Q => t σ H fun vs H1 => r vs H1 Q
theorem pe_callB (hc : CallR X (.builtin id) r) (hg : Gl X x) (hm : X.mg x = none) (hv : bootBuiltins x = some (.builtin id)) (ha : PA X (e :: es) t) (hn : x ≠ "__name__" := by decide) (hdb : (x == ("__debug__" : Str)) = false := by decide)
    (he : starEach (e :: es) X.env = (false, eval e X.env) :: starEach es X.env := by rfl) (hpl : (backTo pos (starEach es X.env)).any (·.1) = false := by rfl) : PE X (.Call (.Name x p) (e :: es) [] pos) (tCB r t) := by
  intro pins s σ H Q I h
  refine wpAny_Call_Name_kw (ld_blt I hg hm hv ?_ hn hdb)
  exact PyProof.Rows.callWith_builtin1 (thn (ha pos pins s σ H _ I h) fun us s1 ⟨vs, H1, I1, r1, q1⟩ => hc pins s1 σ H1 vs us Q I1 r1 q1) he hpl
theorem pe_callTy (hc : CallR X (.type T) r) (hg : Gl X x) (hm : X.mg x = none) (hv : bootBuiltins x = some (.type T)) (ha : PA X (e :: es) t) (hn : x ≠ "__name__" := by decide) (hdb : (x == ("__debug__" : Str)) = false := by decide)
    (he : starEach (e :: es) X.env = (false, eval e X.env) :: starEach es X.env := by rfl) (hpl : (backTo pos (starEach es X.env)).any (·.1) = false := by rfl) : PE X (.Call (.Name x p) (e :: es) [] pos) (tCB r t) := by
  intro pins s σ H Q I h
  refine wpAny_Call_Name_kw (ld_blt I hg hm hv ?_ hn hdb)
  exact PyProof.Rows.callWith_type1 (thn (ha pos pins s σ H _ I h) fun us s1 ⟨vs, H1, I1, r1, q1⟩ => hc pins s1 σ H1 vs us Q I1 r1 q1) he hpl
end
end L2
namespace HT
open PySem PyProof.Rows
def lexLt : List Int → List Int → Bool
  | [], [] => false
  | [], _ :: _ => true
  | _ :: _, [] => false
  | x :: xs, y :: ys => if x = y then lexLt xs ys else decide (x < y)
theorem lexLt_cons (x y : Int) (xs ys : List Int) : lexLt (x :: xs) (y :: ys) = if x = y then lexLt xs ys else decide (x < y) := rfl
theorem lexLt_nil_nil : lexLt [] [] = false := rfl
theorem lexLt_nil_cons (y : Int) (ys : List Int) : lexLt [] (y :: ys) = true := rfl
theorem lexLt_cons_nil (x : Int) (xs : List Int) : lexLt (x :: xs) [] = false := rfl
theorem eqAt_int (A : Around) (s : Shared) (a : Int) (t : Tok) (c : Int) (u : Tok) : ∃ e, SeqAt.EqAt A s (.int a t) (.int c u) e ∧ (e = true ↔ a = c) :=
  ⟨(a == c), SeqAt.EqAt.int_int a t c u, by simp⟩
theorem rcLt_int (A : Around) (s : Shared) (a : Int) (t : Tok) (c : Int) (u : Tok) (prog : Program) (w : World) (E : Value → Shared → Prop) (Q : Value → Shared → Prop) (h : Q (.bool (decide (a < c))) s) :
    wpAny (model prog w) A (richCompare .Lt (.int a t) (.int c u)) Q E s :=
  (PyProof.Rows.lt_int h : wpAny (model prog w) A (compareOp .Lt (.int a t) (.int c u)) Q E s)
section
open PySem.SeqAt
open PySem.AutoSeq1 (wpAny_loadPart')
open PySem.MeetsSeq PySem.MeetsSeq2 PySem.MeetsSeq3
theorem tuple_lt_ints (l b : Addr) (items items2 : Array Value) (n n2 : Nat) (dd dd2 : Option Addr) (sl sl2 : Array (Option Value)) (ns ms : List Int) (hi : IntsAre items.toList ns) (hj : IntsAre items2.toList ms) :
    Meets (Builtin.«tuple.__lt__» ⟨[.ref l, .ref b], []⟩)
      (fun _ R s => s.heap.get? l = some { cls := .type "tuple", dict := dd, data := .seq items n, slots := sl } ∧ s.heap.get? b = some { cls := .type "tuple", dict := dd2, data := .seq items2 n2, slots := sl2 } ∧
        R (.ok (.ret (.bool (lexLt ns ms)))) s) :=
  .of_wp fun prog w A R s h => by
    obtain ⟨hp, g, d, tk, os⟩ := s; obtain ⟨hl, hb, h⟩ := h
    have f2 := AutoSeq1.sub_tuple_tuple
    have z1 : items.size = ns.length := by rw [← hi.length]; simp
    have z2 : items2.size = ms.length := by rw [← hj.length]; simp
    wp_walk using wpAny_loadPart' hl, wpAny_loadPart' hb, wpAny_forIn_list _ (fun rest b s' => b.1 = none ∧ s' = ⟨hp, g, d, tk, os⟩ ∧ ∃ (vs ws : List Value) (ns' ms' : List Int), rest = vs.zip ws ∧
      IntsAre vs ns' ∧ IntsAre ws ms' ∧ ns'.length + items2.size = ms'.length + items.size ∧ R (.ok (.ret (.bool (lexLt ns' ms')))) ⟨hp, g, d, tk, os⟩) _
    case turn =>
      rintro ⟨y, x⟩ rest b s' ⟨hb', rfl, vs, ws, ns', ms', hz, hvi, hwi, hlen, hR⟩
      cases hvi with
      | nil => rw [List.zip_nil_left] at hz; cases hz
      | cons a t hvi' =>
        cases hwi with
        | nil => rw [List.zip_nil_right] at hz; cases hz
        | cons c u hwi' =>
          rw [List.zip_cons_cons] at hz
          injection hz with hyx hrest
          injection hyx with hy hx
          subst hy hx
          rw [lexLt_cons] at hR
          simp only [List.length_cons] at hlen
          obtain ⟨e, he, hiff⟩ := eqAt_int A.in1 ⟨hp, g, d, tk, os⟩ a t c u
          refine wpAny_bind (he prog w _ _ ?_)
          cases e with
          | true =>
            rw [if_pos (hiff.mp rfl)] at hR
            wp_walk
            exact ⟨rfl, rfl, _, _, _, _, hrest, hvi', hwi', by omega, hR⟩
          | false =>
            rw [if_neg (fun q => absurd (hiff.mpr q) Bool.false_ne_true)] at hR
            have hri := rcLt_int A.in1 ⟨hp, g, d, tk, os⟩ a t c u prog w
            wp_walk using hri
            exact ⟨_, rfl, by simpa using hR⟩
    case fin =>
      rintro ⟨b1, b2⟩ s' ⟨hb', rfl, vs, ws, ns', ms', hz, hvi, hwi, hlen, hR⟩
      simp only at hb'
      subst hb'
      have hv : lexLt ns' ms' = decide (items.size < items2.size) := by
        cases hvi with
        | nil =>
          cases hwi with
          | nil =>
            simp only [List.length_nil] at hlen
            rw [lexLt_nil_nil]
            exact (decide_eq_false (by omega)).symm
          | cons c u hw =>
            simp only [List.length_nil, List.length_cons] at hlen
            rw [lexLt_nil_cons]
            exact (decide_eq_true (by omega)).symm
        | cons a t hv =>
          cases hwi with
          | nil =>
            simp only [List.length_nil, List.length_cons] at hlen
            rw [lexLt_cons_nil]
            exact (decide_eq_false (by omega)).symm
          | cons c u hw =>
            rw [List.zip_cons_cons] at hz
            cases hz
      rw [hv] at hR
      wp_walk
      exact ⟨_, rfl, by simpa [Builtin.Tuple.tupleCompareSizes] using hR⟩
    case h =>
      exact ⟨rfl, rfl, items.toList, items2.toList, ns, ms, rfl, hi, hj, by omega, h⟩
end
section
variable {prog : Program} {w : World} {A : Around} {E : Value → Shared → Prop} {s : Shared}
theorem lt_tupInts {l b : Addr} {items items2 : Array Value} {ns ms : List Int} {Q : Value → Shared → Prop} (hl : IsTup s.heap l items) (hb : IsTup s.heap b items2) (hi : IntsAre items.toList ns) (hj : IntsAre items2.toList ms)
    (hu : A.units < cLine) (h : Q (.bool (lexLt ns ms)) s) : wpAny (model prog w) A (compareOp .Lt (.ref l) (.ref b)) Q E s := by
  obtain ⟨⟨cls, dd, data, sl⟩, ho, hc, n, hd⟩ := id hl
  obtain ⟨⟨cls2, dd2, data2, sl2⟩, ho2, hc2, n2, hd2⟩ := id hb
  simp only at hc hd hc2 hd2
  subst hc hd hc2 hd2
  exact richCompare_meets_room (op := .Lt) ⟨_, ho, rfl⟩ ⟨_, ho2, rfl⟩ PySem.F.slot_tuple_lt PySem.F.entry_tuple_lt (PySem.F.args_tuple_lt_2 _ _) (tuple_lt_ints l b items items2 n n2 dd dd2 sl sl2 ns ms hi hj)
    ⟨ho, ho2, show Value.bool (lexLt ns ms) ≠ Value.notImplemented ∧ Q (.bool (lexLt ns ms)) s from ⟨(fun x => nomatch x), h⟩⟩ hu
def sIx (n d : Nat) : Option Int → Nat
  | none => d
  | some v => if v < 0 then (v + (n : Int)).toNat else min v.toNat n
theorem sIx_none (n d : Nat) : sIx n d none = d := rfl
theorem sIx_nat (n d k : Nat) : sIx n d (some (k : Int)) = min k n := by
  show (if (k : Int) < 0 then ((k : Int) + (n : Int)).toNat else min (k : Int).toNat n) = min k n
  rw [if_neg (by omega), Int.toNat_natCast]
end
end HT
namespace L2
open PySem PySem.Spec PyProof.Rows
abbrev TO := St → Hp → (Option Int → Hp → Prop) → Prop
def PO (X : Cx) (e : Option Expr) (t : TO) : Prop :=
  ∀ (pins : List (Addr × Obj)) (s : Shared) (σ : St) (H : Hp) (Q : Option Int → Hp → Prop), Inv X pins σ H s → t σ H Q →
    wpAny (model X.prog X.w) X.A (evalPart e X.env) (fun u s' => ∃ o H', Inv X pins σ H' s' ∧ IsPart u o ∧ Q o H') X.xe s
def tNoPart : TO := fun _ H Q => Q none H
def tPart (t : TE) : TO := fun σ H Q => t σ H fun x H1 => ∃ i, x = .int i ∧ Q (some i) H1
theorem intsAre_of {ns : List Int} : ∀ {us : List Value}, Vals (ns.map V.int) us → IntsAre us ns := by
  induction ns with
  | nil => intro us r; rw [List.map_nil] at r; cases r; exact .nil
  | cons n ns ih =>
    intro us r
    rw [List.map_cons] at r
    cases r with
    | cons r1 r2 =>
      obtain ⟨t, e⟩ := r1
      subst e
      exact .cons n t (ih r2)
section
variable {X : Cx} {e : Expr} {te : TE} {lo hi : Option Expr} {tl th : TO} {pos p2 : Pos}
theorem po_none : PO X none tNoPart := by
  intro pins s σ H Q I h
  rw [evalPart_none]
  exact wpAny_pure ⟨none, H, I, .none, h⟩
theorem po_some (h : PE X e te) : PO X (some e) (tPart te) := by
  intro pins s σ H Q I hw
  rw [evalPart_some]
  refine thn (h pins s σ H _ I hw) fun u s1 ⟨x, H1, I1, r1, q1⟩ => ?_
  obtain ⟨i, rfl, q⟩ := q1
  obtain ⟨t, rfl⟩ := r1
  exact ⟨some i, H1, I1, .int i t, q⟩
def SlR (X : Cx) (r : V → Option Int → Option Int → Hp → VK → Prop) : Prop :=
  ∀ (pins : List (Addr × Obj)) (s : Shared) (σ : St) (H : Hp) (x : V) (v vl vu : Value) (lo hi : Option Int) (sl : Addr) (Q : VK), Inv X pins σ H s → RelV x v → s.heap.IsSliceOf sl vl vu .none → IsPart vl lo → IsPart vu hi → r x lo hi H Q →
    ∃ T id, typeLookup (.type T) "__getitem__" = pure (some (.builtin id)) ∧ s.TypeIs v T ∧ wpAny (model X.prog X.w) X.A (getItem v (.ref sl)) (EP X pins σ Q) X.xe s
def tSl (r : V → Option Int → Option Int → Hp → VK → Prop) (te : TE) (tl th : TO) : TE := fun σ H Q => te σ H fun x H1 => tl σ H1 fun l H2 => th σ H2 fun u H3 => r x l u H3 Q
theorem pe_slice {r : V → Option Int → Option Int → Hp → VK → Prop} (hr : SlR X r) (he : PE X e te) (hl : PO X lo tl) (hu : PO X hi th) : PE X (.Subscript e (.Slice lo hi none p2) pos) (tSl r te tl th) := by
  intro pins s σ H Q I h
  refine Subscript_ (thn (he pins s σ H _ I h) fun v s1 ⟨x, H1, I1, r1, q1⟩ => ?_)
  refine wpAny_Slice (thn (hl pins s1 σ H1 _ I1 q1) fun vl s2 ⟨l, H2, I2, pl, q2⟩ => thn (hu pins s2 σ H2 _ I2 q2) fun vu s3 ⟨u, H3, I3, pu, q3⟩ => ?_)
  rw [evalPart_none]
  refine wpAny_pure ?_
  have I4 : Inv X pins σ H3 { s3 with heap := s3.heap.push { cls := .type "slice", data := .fields #[vl, vu, .none] } } := I3.kept (t' := s3.toks) fun b ob q => Heap.get?_push_of_some _ q
  obtain ⟨T, id, hT, ht, hg⟩ := hr pins { s3 with heap := s3.heap.push { cls := .type "slice", data := .fields #[vl, vu, .none] } } σ H3 x v vl vu l u s3.heap.objs.size Q I4 r1 (Heap.IsSliceOf.new ..) pl pu q3
  show wpAny (model X.prog X.w) X.A (subscriptTail e (.Slice lo hi none p2) v (.ref s3.heap.objs.size)) (EP X pins σ Q) X.xe { s3 with heap := s3.heap.push { cls := .type "slice", data := .fields #[vl, vu, .none] } }
  exact tail_any (ops := [.ref s3.heap.objs.size, v]) ht hT hg (by with_unfolding_all rfl)
def cutV (xs : List V) (lo hi : Option Int) : List V := (xs.drop (HT.sIx xs.length 0 lo)).take (HT.sIx xs.length xs.length hi - HT.sIx xs.length 0 lo)
theorem cutV_length (xs : List V) (lo hi : Option Int) : (cutV xs lo hi).length ≤ xs.length := by
  unfold cutV
  rw [List.length_take, List.length_drop]
  omega
end
end L2
namespace L2
open PySem PySem.Spec PyProof.Rows
def ixN (n : Nat) (i : Int) : Option Nat := if 0 ≤ i then (if i < n then some i.toNat else none) else if -(n : Int) ≤ i then some (i + n).toNat else none
def atI {α : Type} (xs : List α) (i : Int) : Option α := (ixN xs.length i).bind fun j => xs[j]?
theorem ixN_seq {n : Nat} {i : Int} {j : Nat} (h : ixN n i = some j) : seqIndex? i n = some j ∧ j < n ∧ -(n : Int) ≤ i ∧ i < n := by
  unfold ixN at h
  by_cases h0 : 0 ≤ i
  · rw [if_pos h0] at h
    by_cases h1 : i < n
    · rw [if_pos h1] at h
      have e : i.toNat = j := Option.some.inj h
      exact ⟨by rw [seqIndex_of h0 h1, e], by omega, by omega, h1⟩
    · rw [if_neg h1] at h; cases h
  · rw [if_neg h0] at h
    by_cases h1 : -(n : Int) ≤ i
    · rw [if_pos h1] at h
      have e : (i + n).toNat = j := Option.some.inj h
      exact ⟨by rw [seqIndex_neg (by omega) h1, e], by omega, h1, by omega⟩
    · rw [if_neg h1] at h; cases h
theorem atI_get {α : Type} {xs : List α} {i : Int} {v : α} (h : atI xs i = some v) : ∃ j, seqIndex? i xs.length = some j ∧ xs[j]? = some v ∧ j < xs.length ∧ -(xs.length : Int) ≤ i ∧ i < xs.length := by
  unfold atI at h
  cases e : ixN xs.length i with
  | none => rw [e] at h; cases h
  | some j =>
    rw [e] at h
    obtain ⟨h1, h2, h3, h4⟩ := ixN_seq e
    exact ⟨j, h1, h, h2, h3, h4⟩
theorem atI_nat {α : Type} {xs : List α} {j : Nat} {v : α} (h : xs[j]? = some v) : atI xs (j : Int) = some v := by
  have hj : j < xs.length := (List.getElem?_eq_some_iff.mp h).1
  have e : ixN xs.length (j : Int) = some j := by
    unfold ixN
    rw [if_pos (by omega), if_pos (by omega)]; simp
  unfold atI; rw [e]; exact h
def PlainIx (b : Expr) : Prop := ∀ o i, subscripted b false o i = operate [o, i] (getItem o i)
def IxR (X : Cx) (r : R2) : Prop :=
  ∀ (value slice : Expr) (pins : List (Addr × Obj)) (s : Shared) (σ : St) (H : Hp) (x y : V) (v u : Value) (Q : VK), Inv X pins σ H s → RelV x v → RelV y u → r x y H Q →
    subscripted slice false v u = operate [v, u] (getItem v u) → wpAny (model X.prog X.w) X.A (subscriptTail value slice v u) (EP X pins σ Q) X.xe s
def MtR (X : Cx) (id : String) (r : V → List V → Hp → VK → Prop) : Prop :=
  ∀ (pins : List (Addr × Obj)) (s : Shared) (σ : St) (H : Hp) (x : V) (xs : List V) (v : Value) (us : List Value) (Q : VK), Inv X pins σ H s → RelV x v → Vals xs us → r x xs H Q →
    wpAny (model X.prog X.w) X.A (call (.builtin id) (v :: us)) (EP X pins σ Q) X.xe s
section
variable {X : Cx} {a b : Expr} {ta tb : TE} {pos : Pos}
theorem pe_ix {r : R2} (hr : IxR X r) (ha : PE X a ta) (hb : PE X b tb) (hs : PlainIx b) : PE X (.Subscript a b pos) (tOp r ta tb) := by
  intro pins s σ H Q I h
  exact Subscript_ (binT ha hb I h fun v u s2 x y H2 I2 rx ry q => hr a b pins s2 σ H2 x y v u Q I2 rx ry q (hs _ _))
def rIxL (K : PySem.W.Frag) : R2 := fun x y H Q => ∃ p xs i v, x = .ref p ∧ y = .int i ∧ SqL K H p xs ∧ atI xs i = some v ∧ Q v H
def rIxT (K : PySem.W.Frag) : R2 := fun x y H Q => ∃ p xs i v, x = .ref p ∧ y = .int i ∧ SqT K H p xs ∧ atI xs i = some v ∧ Q v H
theorem ix_list : IxR X (rIxL X.K) := by
  intro value slice pins s σ H x y v u Q I rx ry h hs
  obtain ⟨p, xs, i, z, rfl, rfl, hq, he, q⟩ := h
  cases rx
  obtain ⟨t, rfl⟩ := ry
  obtain ⟨its, r, pl, hz⟩ := I.list hq
  obtain ⟨j, h1, h2, h3, h4, h5⟩ := atI_get he
  obtain ⟨w, ew, rw'⟩ := r.get h2
  have hl := r.length
  have hn := line63
  have fin : EP X pins σ Q w s := ⟨z, H, I, rw', q⟩
  by_cases h0 : 0 ≤ i
  · have hj : i.toNat = j := by
      rw [seqIndex_of h0 h5] at h1
      exact Option.some.inj h1
    exact item_listR pl.isList h0 (by omega) (by rw [hj]; simpa using ew) fin hs
  · have hj : (i + (its.toArray.size : Int)).toNat = j := by
      rw [seqIndex_neg (by omega) h4] at h1
      rw [List.size_toArray, ← hl]
      exact Option.some.inj h1
    exact subscriptTail_builtinR (x := w) pl.isList.typeIs slot_list_getitem.lookup
      (wpAny_getItem_list_neg (Q := fun r s' => r = w ∧ EP X pins σ Q r s') pl.isList (by omega) (by rw [List.size_toArray] <;> omega) (by omega) (by rw [hj]; simpa using ew) ⟨rfl, fin⟩) hs
theorem ix_tup : IxR X (rIxT X.K) := by
  intro value slice pins s σ H x y v u Q I rx ry h hs
  obtain ⟨p, xs, i, z, rfl, rfl, hq, he, q⟩ := h
  cases rx
  obtain ⟨t, rfl⟩ := ry
  obtain ⟨its, r, pl, hz⟩ := I.tuple hq
  obtain ⟨j, h1, h2, h3, h4, h5⟩ := atI_get he
  obtain ⟨w, ew, rw'⟩ := r.get h2
  have hl := r.length
  have hn := line63
  have fin : EP X pins σ Q w s := ⟨z, H, I, rw', q⟩
  exact subscriptTail_builtinR (x := w) pl.typeIs slot_tuple_getitem.lookup
    (getItem_tuple (j := j) (Q := fun r s' => r = w ∧ EP X pins σ Q r s') pl (by omega) (by omega) (by rw [List.size_toArray, ← hl]; exact h1) (by simpa using ew) ⟨rfl, fin⟩) hs
theorem mapSeq_set (its : List Value) (n j : Nat) (u : Value) : Obj.mapSeq (·.setIfInBounds j u) { cls := .type "list", data := .seq its.toArray n } = { cls := .type "list", data := .seq (its.set j u).toArray n } := by
  simp [Obj.mapSeq]
theorem Inv.lst {pins : List (Addr × Obj)} {σ : St} {H : Hp} {s : Shared} {p : Addr} {xs : List V} (I : Inv X pins σ H s) (h : H p = some (.lst xs)) :
    ∃ (its : List Value) (n : Nat), Vals xs its ∧ s.heap.get? p = some { cls := .type "list", data := .seq its.toArray n } ∧ xs.length ≤ sizeLine := by
  obtain ⟨z, its, n, r, e⟩ := I.hok p _ h
  exact ⟨its, n, r, e, z⟩
theorem Inv.lstUpd {pins : List (Addr × Obj)} {σ : St} {H : Hp} {s : Shared} {p : Addr} {xs ys : List V} {its its' : List Value} {n n' : Nat} {f : Obj → Obj} (I : Inv X pins σ H s) (h : H p = some (.lst xs))
    (ho : s.heap.get? p = some { cls := .type "list", data := .seq its.toArray n }) (hf : f { cls := .type "list", data := .seq its.toArray n } = { cls := .type "list", data := .seq its'.toArray n' }) (r : Vals ys its') (hz : ys.length ≤ sizeLine) (t : Nat) :
    Inv X pins σ (upd H p (.lst ys)) { s with heap := s.heap.update p f, toks := t } := by
  have e : (s.heap.update p f).get? p = some { cls := .type "list", data := .seq its'.toArray n' } := by
    rw [Heap.get?_update_self f ho (by rw [hf] <;> rfl), hf]
  refine I.write (x := p) (e := p) (by rw [h]; trivial) (.inl rfl) (fun b u hb q => (Heap.get?_update_other _ _ (Ne.symm hb)).trans q) ⟨_, e⟩ ?_
  exact ⟨hz, its', n', r, e⟩
def rSetL : V → V → V → Hp → (Hp → Prop) → Prop := fun o i v H Q => ∃ p xs k j, o = .ref p ∧ i = .int k ∧ H p = some (.lst xs) ∧ ixN xs.length k = some j ∧ Q (upd H p (.lst (xs.set j v)))
theorem set_list : PSet X rSetL := by
  intro pins s σ H o i v ov iv u Q I ro ri rv h
  obtain ⟨p, xs, k, j, rfl, rfl, hp, hj, q⟩ := h
  cases ro
  obtain ⟨t, rfl⟩ := ri
  obtain ⟨its, n, r, ho, hz⟩ := I.lst hp
  obtain ⟨h1, h2, h3, h4⟩ := ixN_seq hj
  have hl := r.length
  have hn := line63
  have I' : Inv X pins σ (upd H p (.lst (xs.set j v))) { s with heap := s.heap.update p (Obj.mapSeq (·.setIfInBounds j u)) } :=
    I.lstUpd hp ho (mapSeq_set its n j u) (r.set rv j) (by rw [List.length_set]; exact hz) s.toks
  by_cases h0 : 0 ≤ k
  · have hk : k.toNat = j := by
      rw [seqIndex_of h0 h4] at h1
      exact Option.some.inj h1
    exact PySem.W.ki_setAt ho h0 (by omega) (by rw [List.size_toArray, ← hl]; exact h4) (by rw [hk]; exact ⟨_, I', q⟩)
  · have hk : (k + (its.toArray.size : Int)).toNat = j := by
      rw [seqIndex_neg (by omega) h3] at h1
      rw [List.size_toArray, ← hl]
      exact Option.some.inj h1
    exact PySem.W.ki_setBack ho (by omega) (by rw [List.size_toArray, ← hl]; exact h3) (by omega) (by rw [hk]; exact ⟨_, I', q⟩)
theorem slice_bounds (lo hi : Option Int) (n : Nat) : (sliceBounds lo hi none n).1 = ((HT.sIx n 0 lo : Nat) : Int) ∧ (sliceBounds lo hi none n).2.1 = ((HT.sIx n n hi : Nat) : Int) ∧ (sliceBounds lo hi none n).2.2 = 1 := by
  refine ⟨?_, ?_, rfl⟩
  · cases lo with
    | none => simp [sliceBounds, HT.sIx]
    | some i =>
      simp only [sliceBounds, HT.sIx, Option.getD_none, show (1 : Int) > 0 by decide, if_true]
      by_cases h : i < 0
      · simp only [h, if_true] <;> omega
      · simp only [h, if_false] <;> omega
  · cases hi with
    | none => simp [sliceBounds, HT.sIx]
    | some i =>
      simp only [sliceBounds, HT.sIx, Option.getD_none, show (1 : Int) > 0 by decide, if_true]
      by_cases h : i < 0
      · simp only [h, if_true] <;> omega
      · simp only [h, if_false] <;> omega
theorem slicePick_cut (its : List Value) (lo hi : Option Int) : slicePick its.toArray lo hi none = ((its.drop (HT.sIx its.length 0 lo)).take (HT.sIx its.length its.length hi - HT.sIx its.length 0 lo)).toArray := by
  obtain ⟨h1, h2, h3⟩ := slice_bounds lo hi its.toArray.size
  unfold slicePick
  rw [h1, h2, h3]
  simp only [sliceRange_one, pick_run, List.size_toArray] <;> rfl
def rSlL (K : PySem.W.Frag) : V → Option Int → Option Int → Hp → VK → Prop := fun x lo hi H Q => ∃ a xs, x = .ref a ∧ SqL K H a xs ∧ ∀ p, H p = none → Q (.ref p) (upd H p (.lst (cutV xs lo hi)))
theorem sl_list : SlR X (rSlL X.K) := by
  intro pins s σ H x v vl vu lo hi sl Q I rx hs pl pu h
  obtain ⟨a, xs, rfl, hx, q⟩ := h
  cases rx
  obtain ⟨its, r, ht, hz⟩ := I.list hx
  have hlen := r.length
  refine ⟨"list", _, slot_list_getitem.lookup, ht.isList.typeIs, ?_⟩
  refine wpAny_getItem_list_slice ht.isList hs pl pu .none (by simp) ?_ (by rw [List.size_toArray] <;> omega)
  rw [slicePick_cut, ← hlen]
  refine ⟨.ref s.heap.objs.size, _, I.laid (t' := s.toks) (o := .lst (cutV xs lo hi)) (fun b ob q => Heap.get?_push_of_some _ q) (Nat.le_refl _) ?_, rfl, q _ (I.hok.fresh (Nat.le_refl _))⟩
  exact ⟨Nat.le_trans (cutV_length xs lo hi) hz, _, 0, (r.drop (HT.sIx xs.length 0 lo)).take (HT.sIx xs.length xs.length hi - HT.sIx xs.length 0 lo), Heap.get?_push_size _ rfl⟩
def flatV : V → Bool
  | .non => true
  | .bl _ => true
  | .int _ => true
  | .str _ => true
  | _ => false
def eqV : V → V → Bool
  | .non, .non => true
  | .bl a, .bl b => a == b
  | .bl a, .int b => (if a then 1 else 0) == b
  | .int a, .bl b => a == (if b then 1 else 0)
  | .int a, .int b => a == b
  | .str a, .str b => a == b
  | _, _ => false
theorem eqAt_V {A : Around} {s : Shared} {y x : V} {u v : Value} (ry : RelV y u) (rx : RelV x v) (fy : flatV y = true) (fx : flatV x = true) : SeqAt.EqAt A s u v (eqV y x) := by
  cases y with
  | non =>
    cases ry
    cases x with
    | non => cases rx; exact SeqAt.EqAt.same _
    | bl b => cases rx; exact SeqAt.EqAt.none_bool b
    | int b => obtain ⟨t, rfl⟩ := rx; exact SeqAt.EqAt.none_int b t
    | str b => obtain ⟨t, rfl⟩ := rx; exact SeqAt.EqAt.none_str b t
    | _ => exact absurd (show false = true from fx) Bool.false_ne_true
  | bl a =>
    cases ry
    cases x with
    | non => cases rx; exact SeqAt.EqAt.bool_none a
    | bl b => cases rx; exact SeqAt.EqAt.bool_bool a b
    | int b => obtain ⟨t, rfl⟩ := rx; exact SeqAt.EqAt.bool_int a b t
    | str b => obtain ⟨t, rfl⟩ := rx; exact SeqAt.EqAt.bool_str a b t
    | _ => exact absurd (show false = true from fx) Bool.false_ne_true
  | int a =>
    obtain ⟨t', rfl⟩ := ry
    cases x with
    | non => cases rx; exact SeqAt.EqAt.int_none a t'
    | bl b => cases rx; exact SeqAt.EqAt.int_bool a t' b
    | int b => obtain ⟨t, rfl⟩ := rx; exact SeqAt.EqAt.int_int a t' b t
    | str b => obtain ⟨t, rfl⟩ := rx; exact SeqAt.EqAt.int_str a t' b t
    | _ => exact absurd (show false = true from fx) Bool.false_ne_true
  | str a =>
    obtain ⟨t', rfl⟩ := ry
    cases x with
    | non => cases rx; exact SeqAt.EqAt.str_none a t'
    | bl b => cases rx; exact SeqAt.EqAt.str_bool a t' b
    | int b => obtain ⟨t, rfl⟩ := rx; exact SeqAt.EqAt.str_int a t' b t
    | str b => obtain ⟨t, rfl⟩ := rx; exact SeqAt.EqAt.str_str a t' b t
    | _ => exact absurd (show false = true from fx) Bool.false_ne_true
  | _ => exact absurd (show false = true from fy) Bool.false_ne_true
def eqU (x : V) (u : Value) : Bool := match u with
  | .none => eqV .non x
  | .bool b => eqV (.bl b) x
  | .int i _ => eqV (.int i) x
  | .str z _ => eqV (.str z) x
  | _ => false
theorem eqU_of {x y : V} {u : Value} (r : RelV y u) (f : flatV y = true) : eqU x u = eqV y x := by
  cases y with
  | non => cases r; rfl
  | bl b => cases r; rfl
  | int i => obtain ⟨t, rfl⟩ := r; rfl
  | str z => obtain ⟨t, rfl⟩ := r; rfl
  | _ => exact absurd (show false = true from f) Bool.false_ne_true
theorem any_eqU {x : V} : ∀ {xs : List V} {us : List Value}, Vals xs us → xs.all flatV = true → us.any (eqU x) = xs.any fun y => eqV y x
  | _, _, .nil, _ => rfl
  | y :: xs, u :: us, .cons r t, f => by
    rw [List.all_cons, Bool.and_eq_true] at f
    rw [List.any_cons, List.any_cons, eqU_of r f.1, any_eqU t f.2]
theorem mem_eqAt {A : Around} {s : Shared} {x : V} {v : Value} (rx : RelV x v) (fx : flatV x = true) : ∀ {xs : List V} {us : List Value}, Vals xs us → xs.all flatV = true → ∀ u ∈ us, SeqAt.EqAt A s u v (eqU x u)
  | _, _, .nil, _ => fun u hu => by cases hu
  | y :: xs, u :: us, .cons r t, f => fun u' hu => by
    rw [List.all_cons, Bool.and_eq_true] at f
    rcases List.mem_cons.mp hu with rfl | hu
    · rw [eqU_of r f.1]; exact eqAt_V r rx f.1 fx
    · exact mem_eqAt rx fx t f.2 u' hu
def inV (x : V) (xs : List V) : Bool := xs.any fun y => eqV y x
def rIn (K : PySem.W.Frag) (neg : Bool) : R2 := fun x y H Q => ∃ p xs, y = .ref p ∧ (SqL K H p xs ∨ SqT K H p xs) ∧ flatV x = true ∧ xs.all flatV = true ∧ Q (.bl (if neg then !inV x xs else inV x xs)) H
theorem op_in_seq : OpR X (compareOp .In) (rIn X.K false) := by
  intro pins s σ H x y v u Q I rx ry h
  obtain ⟨p, xs, rfl, hq, fx, fs, q⟩ := h
  cases ry
  rcases hq with hq | hq
  · obtain ⟨its, r, pl, hz⟩ := I.list hq
    refine SeqAt.in_listAt (eqU x) pl.isList (fun w hw => mem_eqAt rx fx r fs w (by simpa using hw)) ⟨.bl _, H, I, rfl, ?_⟩
    rw [show its.toArray.any (eqU x) = its.any (eqU x) by simp, any_eqU r fs]
    exact q
  · obtain ⟨its, r, pl, hz⟩ := I.tuple hq
    refine SeqAt.in_tupleAt (eqU x) pl (fun w hw => mem_eqAt rx fx r fs w (by simpa using hw)) ⟨.bl _, H, I, rfl, ?_⟩
    rw [show its.toArray.any (eqU x) = its.any (eqU x) by simp, any_eqU r fs]
    exact q
theorem op_notIn_seq : OpR X (compareOp .NotIn) (rIn X.K true) := by
  intro pins s σ H x y v u Q I rx ry h
  obtain ⟨p, xs, rfl, hq, fx, fs, q⟩ := h
  cases ry
  rcases hq with hq | hq
  · obtain ⟨its, r, pl, hz⟩ := I.list hq
    refine SeqAt.notIn_listAt (eqU x) pl.isList (fun w hw => mem_eqAt rx fx r fs w (by simpa using hw)) ⟨.bl _, H, I, rfl, ?_⟩
    rw [show its.toArray.any (eqU x) = its.any (eqU x) by simp, any_eqU r fs]
    exact q
  · obtain ⟨its, r, pl, hz⟩ := I.tuple hq
    refine SeqAt.notIn_tupleAt (eqU x) pl (fun w hw => mem_eqAt rx fx r fs w (by simpa using hw)) ⟨.bl _, H, I, rfl, ?_⟩
    rw [show its.toArray.any (eqU x) = its.any (eqU x) by simp, any_eqU r fs]
    exact q
theorem call_len_seq : CallR X (.builtin "len") (fun xs H Q => ∃ p ys, xs = [.ref p] ∧ (SqL X.K H p ys ∨ SqT X.K H p ys) ∧ Q (.int ys.length) H) := by
  intro pins s σ H xs us Q I r h
  obtain ⟨p, ys, rfl, hq, q⟩ := h
  obtain ⟨u, rfl, rx⟩ := vals1 r
  cases rx
  have hn := line63
  rcases hq with hq | hq
  · obtain ⟨its, r', pl, hz⟩ := I.list hq
    have hlen := r'.length
    exact Calls.call_len_list pl.isList (by simp only [List.size_toArray] <;> omega) ⟨.int ys.length, H, I.tok _, ⟨s.toks + 1, by rw [List.size_toArray, hlen]⟩, q⟩
  · obtain ⟨its, r', pl, hz⟩ := I.tuple hq
    have hlen := r'.length
    exact len_tuple pl (by simp only [List.size_toArray] <;> omega) ⟨.int ys.length, H, I.tok _, ⟨s.toks + 1, by rw [List.size_toArray, hlen]⟩, q⟩
theorem call_list_of : CallR X (.type "list") (fun xs H Q => ∃ p ys, xs = [.ref p] ∧ (SqL X.K H p ys ∨ SqT X.K H p ys) ∧ ∀ l, H l = none → Q (.ref l) (upd H l (.lst ys))) := by
  intro pins s σ H xs us Q I r h
  obtain ⟨p, ys, rfl, hq, q⟩ := h
  obtain ⟨u, rfl, rx⟩ := vals1 r
  cases rx
  have fin : ∀ (its : List Value), Vals ys its → ys.length ≤ sizeLine → ∀ (h' : Heap) (c' : Nat), (∀ b o', s.heap.get? b = some o' → h'.get? b = some o') →
      h'.get? s.heap.objs.size = some { cls := .type "list", dict := none, data := .seq its.toArray c', slots := #[] } → EP X pins σ Q (.ref s.heap.objs.size) { s with heap := h' } := fun its r' hz h' c' kp e =>
    ⟨.ref s.heap.objs.size, _, I.laid (t' := s.toks) kp (Nat.le_refl _) (show ObjOk X.prog X.w _ h' _ (.lst ys) from ⟨hz, its, c', r', e⟩), rfl, q _ (I.hok.fresh (Nat.le_refl _))⟩
  rcases hq with hq | hq
  · obtain ⟨its, r', pl, hz⟩ := I.list hq
    have hlen := r'.length
    obtain ⟨o, ho, hc, n, hd⟩ := pl.isList
    exact call_list_seq p (.inl rfl) ho hc hd (fun h' c' kp e => fin its r' hz h' c' kp e) (by simp only [List.size_toArray] <;> omega)
  · obtain ⟨its, r', pl, hz⟩ := I.tuple hq
    have hlen := r'.length
    obtain ⟨o, ho, hc, n, hd⟩ := pl
    exact call_list_seq p (.inr rfl) ho hc hd (fun h' c' kp e => fin its r' hz h' c' kp e) (by simp only [List.size_toArray] <;> omega)
theorem call_tuple_of : CallR X (.type "tuple") (fun xs H Q => ∃ p ys, xs = [.ref p] ∧ ((SqL X.K H p ys ∧ ∀ l, H l = none → Q (.ref l) (upd H l (.tup ys))) ∨ (SqT X.K H p ys ∧ Q (.ref p) H))) := by
  intro pins s σ H xs us Q I r h
  obtain ⟨p, ys, rfl, h⟩ := h
  obtain ⟨u, rfl, rx⟩ := vals1 r
  cases rx
  rcases h with ⟨hq, q⟩ | ⟨hq, q⟩
  · obtain ⟨its, r', pl, hz⟩ := I.list hq
    have hlen := r'.length
    refine call_tuple_list pl.isList (fun h' kp => ?_) (by simp only [List.size_toArray] <;> omega)
    have I1 : Inv X pins σ H { s with heap := h' } := I.kept (t' := s.toks) kp
    have I2 : Inv X pins σ (upd H h'.objs.size (.tup ys)) { s with heap := h'.push { cls := .type "tuple", data := .seq its.toArray } } :=
      I1.laid (t' := s.toks) (fun b o e => Heap.get?_push_of_some _ e) (Nat.le_refl _) (show ObjOk X.prog X.w _ _ _ (.tup ys) from ⟨hz, its, r', IsTup.new _ _⟩)
    exact ⟨.ref h'.objs.size, _, I2, rfl, q _ (I1.hok.fresh (Nat.le_refl _))⟩
  · obtain ⟨its, r', pl, hz⟩ := I.tuple hq
    exact call_tuple_same pl ⟨.ref p, H, I, rfl, q⟩
def tyV (K : PySem.W.Frag) (T : String) (x : V) (H : Hp) : Prop := match x with
  | .str _ => T = "str"
  | .int _ => T = "int"
  | .ref p => (T = "list" ∧ ∃ xs, SqL K H p xs) ∨ (T = "tuple" ∧ ∃ o, K.lookup p = some o ∧ o.cls = .type "tuple" ∧ o.dict = none) ∨
      (T = "dict" ∧ ((∃ kvs, H p = some (.dK kvs)) ∨ ∃ kvs, H p = some (.dT kvs))) ∨ (T = "set" ∧ ∃ S n, H p = some (.set S n))
  | _ => False
theorem tyV_is {pins : List (Addr × Obj)} {σ : St} {H : Hp} {s : Shared} {T : String} {x : V} {v : Value} (I : Inv X pins σ H s) (r : RelV x v) (ty : tyV X.K T x H) :
    s.TypeIs v T ∧ ∀ a, v = .ref a → ∃ ob, s.heap.get? a = some ob ∧ ob.dict = none := by
  cases x with
  | str z =>
    obtain ⟨t, rfl⟩ := r
    cases (show T = "str" from ty)
    exact ⟨typeIs_str s z t, fun _ e => nomatch e⟩
  | int i =>
    obtain ⟨t, rfl⟩ := r
    cases (show T = "int" from ty)
    exact ⟨typeIs_int s i t, fun _ e => nomatch e⟩
  | ref p =>
    cases r
    rcases ty with ⟨rfl, xs, hq⟩ | ⟨rfl, o, hk, hc, hd⟩ | ⟨rfl, hk⟩ | ⟨rfl, S, n, hk⟩
    · obtain ⟨its, _, pl, _⟩ := I.list hq
      refine ⟨pl.isList.typeIs, fun a e => ?_⟩
      cases e
      obtain ⟨o, n, e, c, hd, _⟩ := pl
      exact ⟨o, e, hd⟩
    · refine ⟨⟨o, I.kIn p o hk, hc⟩, fun a e => ?_⟩
      cases e
      exact ⟨o, I.kIn _ o hk, hd⟩
    · have z : ∃ o, s.heap.get? p = some o ∧ o.ExactDict := by
        rcases hk with ⟨kvs, hk⟩ | ⟨kvs, hk⟩
        · obtain ⟨_, _, _, _, o, _, _, e, ex, _⟩ := I.hok p _ hk
          exact ⟨o, e, ex⟩
        · obtain ⟨_, _, _, _, o, _, _, e, ex, _⟩ := I.hok p _ hk
          exact ⟨o, e, ex⟩
      obtain ⟨o, e, ex⟩ := z
      refine ⟨⟨o, e, ex.1⟩, fun a e2 => ?_⟩
      cases e2
      exact ⟨o, e, ex.2.1⟩
    · obtain ⟨o, _, _, _, e, ex, _⟩ := I.hok p _ hk
      refine ⟨⟨o, e, ex.1⟩, fun a e2 => ?_⟩
      cases e2
      exact ⟨o, e, ex.2.1⟩
  | _ => exact False.elim ty
def tBM0 (K : PySem.W.Frag) (T : String) (r : V → List V → Hp → VK → Prop) (to : TE) : TE := fun σ H Q => to σ H fun x H1 => tyV K T x H1 ∧ r x [] H1 Q
def tBM (K : PySem.W.Frag) (T : String) (r : V → List V → Hp → VK → Prop) (to : TE) (t : TA) : TE := fun σ H Q => to σ H fun x H1 => tyV K T x H1 ∧ t σ H1 fun xs H2 => r x xs H2 Q
variable {o e : Expr} {es : List Expr} {to : TE} {t : TA} {name : Str} {apos cpos : Pos} {T id : String} {r : V → List V → Hp → VK → Prop}
theorem pe_bm0 (pa : PlainAttrs T) (slot : Slot T name id) (hty : typeOf (.builtin id) = pure (.type "method_descriptor")) (hm : MtR X id r) (ho : PE X o to)
    (hbase : attributeBase o name X.env (eval o X.env) = eval o X.env := by rfl) (hline : (apos.endLine == cpos.line) = true := by rfl) : PE X (.Call (.Attribute o name apos) [] [] cpos) (tBM0 X.K T r to) := by
  intro pins s σ H Q I h
  refine wpAny_Call_method0_late hbase hline (thn (ho pins s σ H _ I h) fun v s1 ⟨x, H1, I1, r1, ty, q1⟩ => ?_)
  obtain ⟨h1, h2⟩ := tyV_is I1 r1 ty
  exact ⟨T, id, pa, slot, hty, h1, h2, Calls.callWith_builtin rfl (PySem.evalArgs_none (hm pins s1 σ H1 x [] v [] Q I1 r1 .nil q1))⟩
theorem pe_bm (pa : PlainAttrs T) (slot : Slot T name id) (hty : typeOf (.builtin id) = pure (.type "method_descriptor")) (hm : MtR X id r) (ho : PE X o to) (ha : PA X (e :: es) t)
    (hbase : attributeBase o name X.env (eval o X.env) = eval o X.env := by rfl)
    (hfew : ((backTo cpos (starEach (e :: es) X.env)).all (fun x => !x.1) && (backToKw cpos (keywordEach [] X.env)).all (fun x => x.1.isSome)
      && decide ((e :: es).length + ([] : List Keyword).length + (if ([] : List Keyword).isEmpty then 0 else 1) < 30)) = true := by rfl)
    (hline : (apos.endLine == cpos.line) = true := by rfl) (hs : starEach (e :: es) X.env = (false, eval e X.env) :: starEach es X.env := by rfl) (hplain : (backTo cpos (starEach es X.env)).any (·.1) = false := by rfl) :
    PE X (.Call (.Attribute o name apos) (e :: es) [] cpos) (tBM X.K T r to t) := by
  intro pins s σ H Q I h
  refine wpAny_Call_method_late hbase hfew hline rfl (thn (ho pins s σ H _ I h) fun v s1 ⟨x, H1, I1, r1, ty, q1⟩ => ?_)
  obtain ⟨h1, h2⟩ := tyV_is I1 r1 ty
  refine ⟨T, id, pa, slot, hty, h1, h2, ?_⟩
  have hA := ha cpos pins s1 σ H1 _ I1 q1
  rw [hs] at hA ⊢
  refine Calls.callWith_builtin (by show (false || (backTo cpos (starEach es X.env)).any (·.1)) = false; rw [hplain] <;> rfl) (Calls.evalArgs_plain ?_)
  exact thn hA fun us s2 ⟨vs, H2, I2, r2, q2⟩ => hm pins s2 σ H2 x vs v us Q I2 r1 r2 q2
end
end L2
namespace L2
open PySem PySem.Spec PyProof.Rows
def MtM (X : Cx) (id : String) (r : V → List V → Hp → VK → Prop) : Prop :=
  ∀ (pins : List (Addr × Obj)) (s : Shared) (σ : St) (H : Hp) (x : V) (xs : List V) (v : Value) (us : List Value) (Q : VK), Inv X pins σ H s → RelV x v → Vals xs us → r x xs H Q →
    wpAny (model X.prog X.w) X.A (call (.builtin id) (v :: us)) (EP X pins σ Q) X.xe s
theorem Vals.one : ∀ {x : V} {us : List Value}, Vals [x] us → ∃ u, us = [u] ∧ RelV x u
  | _, _, .cons r .nil => ⟨_, rfl, r⟩
theorem Vals.eraseIdx : ∀ {xs : List V} {us : List Value} (i : Nat), Vals xs us → Vals (xs.eraseIdx i) (us.eraseIdx i)
  | _, _, _, .nil => .nil
  | _, _, 0, .cons _ t => t
  | _, _, i + 1, .cons r t => .cons r (Vals.eraseIdx i t)
theorem len_erase {α : Type} : ∀ (l : List α) (i : Nat), (l.eraseIdx i).length ≤ l.length
  | [], _ => Nat.le_refl _
  | _ :: _, 0 => Nat.le_succ _
  | _ :: r, i + 1 => Nat.succ_le_succ (len_erase r i)
section
variable {X : Cx} {pins : List (Addr × Obj)} {σ : St} {H : Hp} {s : Shared} {l b : Addr} {xs ys zs : List V}
theorem Inv.lset {its its' : List Value} {n : Nat} {f : Array Value → Array Value} {t' : Nat} (I : Inv X pins σ H s) (hH : H l = some (.lst xs))
    (e : s.heap.get? l = some { cls := .type "list", data := .seq its.toArray n }) (hf : f its.toArray = its'.toArray) (hv : Vals ys its') (hz : ys.length ≤ sizeLine) :
    Inv X pins σ (upd H l (.lst ys)) { s with heap := s.heap.update l (Obj.mapSeq f), toks := t' } := by
  have q := PySem.IsL.update e f
  rw [hf] at q
  refine I.write (x := l) (e := l) (by rw [hH]; exact trivial) (.inl rfl) (fun b' u hb hu => (Heap.get?_update_other s.heap (Obj.mapSeq f) (Ne.symm hb)).trans hu) ⟨_, q⟩ ?_
  exact ⟨hz, its', _, hv, q⟩
theorem Inv.lstM (I : Inv X pins σ H s) (hH : H l = some (.lst xs)) : xs.length ≤ sizeLine ∧ ∃ (its : List Value) (n : Nat), Vals xs its ∧ xs.length = its.length ∧ s.heap.get? l = some { cls := .type "list", data := .seq its.toArray n } := by
  obtain ⟨z, its, n, r, e⟩ := I.hok l _ hH
  exact ⟨z, its, n, r, r.length, e⟩
theorem notLongL {n : Nat} (h : n ≤ sizeLine) : Builtin.List.listTooLong n = false := by
  unfold Builtin.List.listTooLong
  exact decide_eq_false (by omega)
end
section
variable {X : Cx}
def rAppend : V → List V → Hp → VK → Prop := fun x vs H Q => ∃ l xs y, x = .ref l ∧ vs = [y] ∧ H l = some (.lst xs) ∧ xs.length < sizeLine ∧ Q .non (upd H l (.lst (xs ++ [y])))
theorem mt_append : MtM X "list.append" rAppend := by
  intro pins s σ H x vs v us Q I rx rv h
  obtain ⟨l, xs, y, rfl, rfl, hH, hz, q⟩ := h
  cases rx
  obtain ⟨u, rfl, ru⟩ := rv.one
  obtain ⟨z, its, n, r, hl, e⟩ := I.lstM hH
  refine call_meets F.slot_list_append ⟨_, e, rfl⟩ F.entry_list_append (F.args_list_append_2 _ _) (PySem.list_append l its.toArray n u (by rw [List.size_toArray]; omega)) ⟨e, ?_⟩
  refine ⟨.non, _, I.lset (its' := its ++ [u]) hH e (by simp) (r.append (.cons ru .nil)) ?_, rfl, q⟩
  rw [List.length_append, List.length_singleton]
  omega
def rExtend : V → List V → Hp → VK → Prop := fun x vs H Q => ∃ l b xs zs, x = .ref l ∧ vs = [.ref b] ∧ H l = some (.lst xs) ∧ H b = some (.lst zs) ∧ xs.length + zs.length ≤ sizeLine ∧ Q .non (upd H l (.lst (xs ++ zs)))
theorem mt_extend : MtM X "list.extend" rExtend := by
  intro pins s σ H x vs v us Q I rx rv h
  obtain ⟨l, b, xs, zs, rfl, rfl, hH, hB, hz, q⟩ := h
  cases rx
  obtain ⟨u, rfl, ru⟩ := rv.one
  cases ru
  obtain ⟨z, its, n, r, hl, e⟩ := I.lstM hH
  obtain ⟨z2, its2, n2, r2, hl2, e2⟩ := I.lstM hB
  have hsz : its.toArray.size + its2.toArray.size ≤ sizeLine := by rw [List.size_toArray, List.size_toArray]; omega
  have hlong : ¬ (!its.toArray.isEmpty && Builtin.List.listTooLong (its.toArray.size + its2.toArray.size)) = true := by
    rw [notLongL hsz, Bool.and_false]
    exact Bool.false_ne_true
  refine call_meets F.slot_list_extend ⟨_, e, rfl⟩ F.entry_list_extend (F.args_list_extend_2 _ _)
    (AutoSeq1.list_extend_list_list_0 l its.toArray n b its2.toArray n2 hlong (by rw [List.size_toArray]; omega) (by omega)) ⟨e, e2, ?_⟩
  refine ⟨.non, _, I.lset (its' := its ++ its2) hH e (by simp) (r.append r2) ?_, rfl, q⟩
  rw [List.length_append]
  omega
def rPopAt : V → List V → Hp → VK → Prop := fun x vs H Q => ∃ l xs i k y, x = .ref l ∧ vs = [.int i] ∧ H l = some (.lst xs) ∧ -(2 ^ 63) ≤ i ∧ i < 2 ^ 63 ∧ seqIndex? i xs.length = some k ∧ xs[k]? = some y ∧ Q y (upd H l (.lst (xs.eraseIdx k)))
theorem mt_popAt : MtM X "list.pop" rPopAt := by
  intro pins s σ H x vs v us Q I rx rv h
  obtain ⟨l, xs, i, k, y, rfl, rfl, hH, h1, h2, hk, hy, q⟩ := h
  cases rx
  obtain ⟨u, rfl, ru⟩ := rv.one
  obtain ⟨t, rfl⟩ := ru
  obtain ⟨z, its, n, r, hl, e⟩ := I.lstM hH
  obtain ⟨w, hw, rw'⟩ := r.get hy
  refine call_meets F.slot_list_pop ⟨_, e, rfl⟩ F.entry_list_pop (F.args_list_pop_2 _ _)
    (MeetsSeq.list_pop_at l its.toArray n i t k w (fitsIndex_both h1 h2) (by rw [List.size_toArray, ← hl]; exact hk) (by rw [← Array.getElem?_toList]; exact hw) (by rw [List.size_toArray]; omega)) ⟨e, ?_⟩
  refine ⟨y, _, I.lset (its' := its.eraseIdx k) hH e ?_ (r.eraseIdx k) ?_, rw', q⟩
  · show its.toArray.eraseIdxIfInBounds k = (its.eraseIdx k).toArray
    rw [List.eraseIdxIfInBounds_toArray]
  · have := len_erase xs k
    omega
end
section
variable {prog : Program} {w : World} {A : Around} {E : Value → Shared → Prop} {s : Shared}
set_option maxRecDepth 100000 in
end
section
variable {X : Cx}
end
end L2
namespace Att
open PySem PySem.W PySem.Calls PyProof.Rows
theorem ints_of_wellAll {P : Params} {h : Heap} : ∀ (ns : List Int) (vs : List Value), WellAll P h vs (ns.map WData.int) → IntsAre vs ns := by
  intro ns
  induction ns with
  | nil =>
    intro vs w
    rw [List.map_nil] at w
    cases w
    exact .nil
  | cons n ns ih =>
    intro vs w
    rw [List.map_cons] at w
    cases w with
    | cons a b =>
      cases a
      exact .cons _ _ (ih _ b)
theorem script_of {l : OpenLaw} {n : Nat} (hn : l.most = some n) {P : Params} {h : Heap} {args : List WData} {vals : List Value}
    (hpre : l.row.toRowW.claim.pre args = true) (hwl : WellAll P h vals args) :
    ∃ a vs ns, vals = [Value.ref a] ∧ args = [WData.list (ns.map WData.int)] ∧ h.get? a = some { cls := .type "list", data := .seq vs.toArray } ∧ IntsAre vs ns ∧ ns.length ≤ n := by
  have hsh : WShape.hasAll [] args [.list .int] = true := (pre_splitW hpre).1
  have hc : l.pre.holds [] { args := args } = true := (pre_splitW hpre).2
  obtain ⟨d, r, rfl, h1, h2⟩ := hasAllW_cons hsh
  obtain rfl := hasAllW_nil h2
  obtain ⟨xs, rfl, h3⟩ := hasW_list h1
  obtain ⟨ns, rfl⟩ := items_int h3
  have hlen : ns.length ≤ n := by
    unfold OpenLaw.pre at hc
    have h4 : (WTm.not (.lt (.lit (.int (n : Int))) (.len (.arg 0)))).holds [] { args := [.list (ns.map .int)] } = true := by
      have h4 := (holds_andW hc).1
      rw [hn] at h4
      exact h4
    have h5 := condW_of h4 (w_not (w_lt w_lit (w_len_list (w_arg rfl))))
    rw [List.length_map] at h5
    refine Nat.le_of_not_lt fun q => ?_
    have q' : (n : Int) < ((ns.length : Nat) : Int) := by omega
    first
      | (rw [decide_eq_true q'] at h5; exact absurd h5 (by decide))
      | (simp at h5; omega)
  cases hwl with
  | cons w1 w2 =>
    cases w2
    cases w1 with
    | list ho hall => exact ⟨_, _, ns, rfl, rfl, ho, ints_of_wellAll ns _ hall, hlen⟩
theorem post_true (l : OpenLaw) (args : List WData) : l.row.toRowW.claim.post args (.bool true) args = true :=
  postW_of (r := l.row.toRowW) (X := (true == true))
    (show WShape.has [] (.bool true) .bool = true by first | rfl | decide | simp [WShape.has, WShape.arms, WShape.armsAll])
    (show (WTm.eq .res (.lit (.bool true))).value [] { args := args, res := some (.bool true), after := args } = some (.bool (true == true)) from w_eq_bool (w_res rfl) w_lit) rfl
theorem attach_call {l : OpenLaw} {n : Nat} {q : Program} {loose : List Str} {XP : (Str → Option Value) → Heap → Prop} {YP : World → Heap → Prop} {d : DefRec}
    (hn : l.most = some n) (hdf : d.params.defaults = [])
    (call : ∀ (w : World) (s₀ s₁ : Shared) (mg mb : Str → Option Value) (fa : Addr) (o : Obj) (pm cd doc : Value) (a : Addr) (vs : List Value) (ns : List Int),
      Ground q loose [] XP w s₀ mg mb s₁.heap → YP w s₁.heap →
      s₁.heap.get? fa = some o → o.data = .func (docDef d.name d.params d.body d.scope pm cd doc) → s₁.heap.CodeRec cd d.name → mg d.name = some (.ref fa) →
      s₁.heap.get? a = some { cls := .type "list", data := .seq vs.toArray } → IntsAre vs ns → ns.length ≤ n → s₁.gens = #[] →
      codeAny (model l.prog w) callerA (.call (.ref fa) ⟨[.ref a], []⟩) (fun r s' => r = .ok (.ret (.bool true)) ∧ OldK s₁.heap s'.heap ∧ s'.os = s₁.os ∧ AllBare s'.gens) s₁) :
    WalkO q loose XP YP l.row.toRowW d [] (fun f vs => PySem.call f vs) := by
  intro w s₀ s₁ mg mb G Y fa o pm cd doc dV kV ho hd hcd hD hmg hg args vals as hpre hlay hrd hwl hlo
  obtain rfl : dV = .none := Dflts.none hD hdf
  obtain rfl : kV = .none := Dflts.noKw hD
  obtain ⟨a, vs, ns, rfl, rfl, hobj, hints, hlen⟩ := script_of hn hpre hwl
  refine enter_call (codeAny_mono (call w s₀ s₁ mg mb fa o pm cd doc a vs ns G Y ho (fd_plain hd) hcd hmg hobj hints hlen hg) fun r s' hq => ?_)
  obtain ⟨rfl, h2, h3, h4⟩ := hq
  exact ⟨.inl ⟨.bool true, .bool true, [], rfl, fun _ => rfl, .bool true, post_true l _, fun _ => ⟨List.Pairwise.nil, fun _ hm => (nomatch hm)⟩⟩, h2, h3, h4⟩
section
variable {prog : Program} {w : World} {A : Around} {E : Value → Shared → Prop} {s : Shared} {K : Frag}
end
end Att
namespace L2
open PySem PySem.Spec PyProof.Rows
theorem vals_ints : ∀ {vs : List Value} {ns : List Int}, IntsAre vs ns → Vals (ns.map V.int) vs
  | _, _, .nil => .nil
  | _, _, .cons n t h => .cons ⟨t, rfl⟩ (vals_ints h)
end L2
namespace L2
open PySem PySem.Spec PyProof.Rows
end L2
namespace L2
open PySem PySem.Spec PyProof.Rows
def inClass (s : Stmt) (j : Nat) : Stmt := match s with
  | .ClassDef _ _ _ body _ _ _ _ _ _ _ => body.getD j (.Pass ⟨0, 0, 0, 0⟩)
  | _ => .Pass ⟨0, 0, 0, 0⟩
def defArgs (s : Stmt) : Arguments := match s with
  | .FunctionDef _ a _ _ _ _ _ _ _ _ => a
  | _ => { posonlyargs := [], args := [], vararg := none, kwonlyargs := [], kw_defaults := [], kwarg := none, defaults := [] }
def defBody (s : Stmt) : List Stmt := match s with
  | .FunctionDef _ _ b _ _ _ _ _ _ _ => b
  | _ => []
def defScope (s : Stmt) : Scope := match s with
  | .FunctionDef _ _ _ _ _ _ sc _ _ _ => sc
  | _ => { kind := .function, names := [], isGenerator := false, isCoroutine := false }
abbrev CX0 : CXT := fun _ _ _ _ _ _ => False
abbrev E0 : XK := fun _ _ _ => False
theorem pass0 {X : Cx} : Passes CX0 X E0 := fun _ _ _ _ _ _ _ h => h.elim
structure Fun (K : PySem.W.Frag) (x qual : Str) (st : Stmt) (f : Addr) (fd : FuncData) : Prop where
  ex : ∃ (oc : Value) (od : Option Addr) (kV doc pm : Value) (an : Option Addr) (cdv ct : Value) (osl : Array (Option Value)),
    fd = PySem.W.fnOf x qual (defArgs st) (defBody st) (defScope st) .none kV doc pm an cdv ct ∧ K.lookup f = some ⟨oc, od, .func fd, osl⟩ ∧ PySem.W.codeIn K cdv qual = true
  kp : PySem.W.keepIn K (.ref f) = true
section
variable {P : Program} {w : World} {K : PySem.W.Frag} {mg : Str → Option Value} {base : Heap}
theorem Fun.ok {x qual : Str} {st : Stmt} {f : Addr} {fd : FuncData} {N ps : List Str} {k : Nat} {sp : Sp} (F : Fun K x qual st f fd) (S : FnScope N ps (defScope st)) (len : ∀ vs H Q E, sp vs H Q E → vs.length = ps.length)
    (hbody : ∀ (cdv : Value) (A : Around) (outer : List Env) (s : Shared) (H : Hp) (vs : List V) (Q : VK) (E : XK), Room k (A.deeper (envOfC qual (defScope st) s.heap.objs.size f cdv)) → sp vs H Q E →
      ∃ t, PSs (cxOf CX0 P w K mg base N qual (defScope st) f cdv A outer s H E).nox (defBody st) t ∧ t { nx := fun _ H' => Q .non H', rt := Q } (start N vs) H) : FnOk P w K mg base CX0 (k + 1) f fd ps sp := by
  obtain ⟨oc, od, kV, doc, pm, an, cdv, ct, osl, rfl, lk, hcd⟩ := F.ex
  refine fn_of lk hcd S len fun A outer s H vs Q E hr hsp => ?_
  obtain ⟨t, h, q⟩ := hbody cdv A outer s H vs Q E hr hsp
  exact ⟨t, h.nox, q⟩
theorem Fun.binds {x qual : Str} {st : Stmt} {f : Addr} {fd : FuncData} {ps : List Str} (F : Fun K x qual st f fd)
    (h : ∀ (kV doc pm : Value) (an : Option Addr) (cdv ct : Value) (us : List Value), us.length = ps.length → bindArgs (PySem.W.fnOf x qual (defArgs st) (defBody st) (defScope st) .none kV doc pm an cdv ct) ⟨us, []⟩ = pure (ps.zip us)) : Binds K fd ps [] := by
  obtain ⟨oc, od, kV, doc, pm, an, cdv, ct, osl, rfl, lk, hcd⟩ := F.ex
  exact .all (h kV doc pm an cdv ct)
theorem fun_mk {x qual : Str} {st : Stmt} {f : Addr} {oc : Value} {od an : Option Addr} {osl : Array (Option Value)} {kV doc pm cdv ct : Value} (l : K.lookup f = some ⟨oc, od, .func (PySem.W.fnOf x qual (defArgs st) (defBody st) (defScope st) .none kV doc pm an cdv ct), osl⟩)
    (c : PySem.W.codeIn K cdv qual = true) (k : PySem.W.keepIn K (.ref f) = true) : Fun K x qual st f (PySem.W.fnOf x qual (defArgs st) (defBody st) (defScope st) .none kV doc pm an cdv ct) := ⟨⟨oc, od, kV, doc, pm, an, cdv, ct, osl, rfl, l, c⟩, k⟩
end
theorem small1000 {n : Nat} (h : n ≤ 1000) : n < sizeLine := Nat.lt_of_le_of_lt h (by decide)
section
variable {X : Cx}
theorem pv (i : Nat) {x : Str} {pos : Pos} (hN : X.N[i]? = some x := by rfl) (hv : Vis X.env.scope x := by first | exact Or.inl rfl | exact Or.inr (Or.inl rfl) | exact Or.inr (Or.inr rfl)) (hd : (x == ("__debug__" : Str)) = false := by decide)
    (hcd : (x == ("__classdict__" : Str)) = false := by decide) : PE X (.Name x pos) (tVar i) := pe_var hN hv hd hcd
end
theorem iteF {A B : Prop} (h : B) : if false = true then A else B := by
  rw [if_neg Bool.false_ne_true]
  exact h
theorem iteT {A B : Prop} (h : A) : if true = true then A else B := by
  rw [if_pos rfl]
  exact h
theorem ite2 {c A B : Prop} [Decidable c] (h1 : c → A) (h2 : ¬ c → B) : if c then A else B := by
  by_cases h : c
  · rw [if_pos h]
    exact h1 h
  · rw [if_neg h]
    exact h2 h
def Same (H H' : Hp) : Prop := ∀ b o, H b = some o → H' b = some o
theorem Same.trans {H H1 H2 : Hp} (a : Same H H1) (b : Same H1 H2) : Same H H2 := fun c o h => b c o (a c o h)
theorem Same.seq {K : PySem.W.Frag} {H H' : Hp} {a : Addr} {xs : List V} (e : Same H H') (h : SqL K H a xs) : SqL K H' a xs := by
  rcases h with (h | ⟨o, h⟩) | h
  · exact .inl (.inl (e _ _ h))
  · exact .inl (.inr ⟨o, e _ _ h⟩)
  · exact .inr h
end L2
namespace L2
open PySem PySem.Spec PyProof.Rows
section
variable {κ : Type} [DecidableEq κ]
def valV (kvs : List (κ × V)) (k : κ) : Option V := (kvs.find? fun kv => decide (kv.1 = k)).map (·.2)
def putK (kvs : List (κ × V)) (k : κ) (v : V) : List (κ × V) :=
  if (kvs.any fun kv => decide (kv.1 = k)) = true then kvs.map (fun kv => if kv.1 = k then (kv.1, v) else kv) else kvs ++ [(k, v)]
theorem valV_pos {p : κ × V} {r : List (κ × V)} {k : κ} (e : p.1 = k) : valV (p :: r) k = some p.2 := by simp [valV, List.find?_cons, e]
theorem valV_neg {p : κ × V} {r : List (κ × V)} {k : κ} (e : ¬ p.1 = k) : valV (p :: r) k = valV r k := by simp [valV, List.find?_cons, e]
theorem valV_any (k : κ) : ∀ kvs : List (κ × V), (kvs.any fun kv => decide (kv.1 = k)) = (valV kvs k).isSome
  | [] => rfl
  | p :: r => by
    rw [List.any_cons]
    by_cases e : p.1 = k
    · simp only [valV_pos e, decide_eq_true e, Bool.true_or, Option.isSome_some]
    · rw [valV_neg e, decide_eq_false e, Bool.false_or]; exact valV_any k r
theorem length_putK (kvs : List (κ × V)) (k : κ) (v : V) : (putK kvs k v).length ≤ kvs.length + 1 := by
  unfold putK
  split
  · rw [List.length_map]; omega
  · rw [List.length_append, List.length_cons, List.length_nil]; omega
theorem RelO.isSome_eq {o : Option V} {u : Option Value} (r : RelO o u) : o.isSome = u.isSome := by
  cases o with
  | none => cases u with
    | none => rfl
    | some _ => exact (show False from r).elim
  | some _ => cases u with
    | none => exact (show False from r).elim
    | some _ => rfl
theorem RelO.getD {o : Option V} {u : Option Value} {d : V} {d' : Value} (r : RelO o u) (rd : RelV d d') : RelV (o.getD d) (u.getD d') := by
  cases o with
  | none => cases u with
    | none => exact rd
    | some _ => exact (show False from r).elim
  | some _ => cases u with
    | none => exact (show False from r).elim
    | some _ => exact r
theorem KV.val {kvs : List (κ × V)} {vs : List (κ × Value)} (r : KV kvs vs) (k : κ) : RelO (valV kvs k) (valueAt vs k) := by
  unfold KV at r
  induction r with
  | nil => exact True.intro
  | @cons p q ps qs h t ih =>
    obtain ⟨h1, h2⟩ := h
    by_cases e : p.1 = k
    · have e' : q.1 = k := h1.symm.trans e
      have b : valueAt (q :: qs) k = some q.2 := by simp [valueAt, List.find?_cons, e']
      rw [valV_pos e, b]; exact h2
    · have e' : ¬ q.1 = k := fun z => e (h1.trans z)
      have b : valueAt (q :: qs) k = valueAt qs k := by simp [valueAt, List.find?_cons, e']
      rw [valV_neg e, b]; exact ih
theorem KV.any {kvs : List (κ × V)} {vs : List (κ × Value)} (r : KV kvs vs) (k : κ) : (kvs.any fun kv => decide (kv.1 = k)) = vs.any fun kv => decide (kv.1 = k) := by
  unfold KV at r
  induction r with
  | nil => rfl
  | cons h t ih => rw [List.any_cons, List.any_cons, ih, h.1]
theorem KV.repl {kvs : List (κ × V)} {vs : List (κ × Value)} (r : KV kvs vs) (k : κ) {y : V} {u : Value} (ry : RelV y u) :
    KV (kvs.map fun kv => if kv.1 = k then (kv.1, y) else kv) (vs.map fun kv => if kv.1 = k then (kv.1, u) else kv) := by
  unfold KV at r ⊢
  induction r with
  | nil => exact .nil
  | @cons p q ps qs h t ih =>
    rw [List.map_cons, List.map_cons]
    refine .cons ?_ ih
    obtain ⟨h1, h2⟩ := h
    by_cases e : p.1 = k
    · rw [if_pos e, if_pos (h1.symm.trans e)]; exact ⟨h1, ry⟩
    · rw [if_neg e, if_neg (fun z => e (h1.trans z))]; exact ⟨h1, h2⟩
theorem KV.put {kvs : List (κ × V)} {vs : List (κ × Value)} (r : KV kvs vs) (k : κ) {y : V} {u : Value} (ry : RelV y u) : KV (putK kvs k y) (stored vs k u) := by
  unfold putK stored
  rw [r.any k]
  by_cases e : (vs.any fun kv => decide (kv.1 = k)) = true
  · rw [if_pos e, if_pos e]; exact r.repl k ry
  · rw [if_neg e, if_neg e]; exact Paired.snoc r ⟨rfl, ry⟩
theorem KV.length {kvs : List (κ × V)} {vs : List (κ × Value)} (r : KV kvs vs) : kvs.length = vs.length := Paired.length r
end
theorem kV_is {P : Program} {w : World} {k : Key} {u : Value} (r : RelV (kV k) u) : (mixKind P w).is k u = true := by
  cases k with
  | inl i => obtain ⟨t, e⟩ := (show ∃ t, u = Value.int i t from r); subst e; exact mixKind_int P w i t
  | inr x => obtain ⟨t, e⟩ := (show ∃ t, u = Value.str x t from r); subst e; exact mixKind_str P w x t
theorem items_are {P : Program} {w : World} : ∀ {ks : List Key} {us : List Value}, Vals (ks.map kV) us → ItemsAre (mixKind P w) ks us
  | [], _, r => by rw [List.map_nil] at r; cases r; exact .nil
  | k :: ks, _, r => by
    rw [List.map_cons] at r
    cases r with
    | cons h t => exact .cons (kV_is h) (items_are t)
abbrev KT (H : Hp) : List (List Key × V) → List (List Key × Addr × Value) → Prop := Paired fun p q => p.1 = q.1 ∧ H q.2.1 = some (.tup (p.1.map kV)) ∧ RelV p.2 q.2.2
theorem KT.val {H : Hp} {kvs : List (List Key × V)} {xs : List (List Key × Addr × Value)} (r : KT H kvs xs) (k : List Key) : RelO (valV kvs k) ((atKey xs k).map (·.2)) := by
  induction r with
  | nil => exact True.intro
  | @cons p q ps qs h t ih =>
    obtain ⟨h1, _, h2⟩ := h
    by_cases e : p.1 = k
    · have e' : q.1 = k := h1.symm.trans e
      have b : atKey (q :: qs) k = some q.2 := by simp [atKey, List.find?_cons, e']
      rw [valV_pos e, b]; exact h2
    · have e' : ¬ q.1 = k := fun z => e (h1.trans z)
      have b : atKey (q :: qs) k = atKey qs k := by simp [atKey, List.find?_cons, e']
      rw [valV_neg e, b]; exact ih
theorem KT.repl {H : Hp} {kvs : List (List Key × V)} {xs : List (List Key × Addr × Value)} (r : KT H kvs xs) (k : List Key) {y : V} {u : Value} (ry : RelV y u) :
    KT H (kvs.map fun kv => if kv.1 = k then (kv.1, y) else kv) (xs.map (putAt k u)) := by
  induction r with
  | nil => exact .nil
  | @cons p q ps qs h t ih =>
    rw [List.map_cons, List.map_cons]
    refine .cons ?_ ih
    obtain ⟨h1, h2, h3⟩ := h
    unfold putAt
    by_cases e : p.1 = k
    · rw [if_pos e, if_pos (h1.symm.trans e)]; exact ⟨h1, h2, ry⟩
    · rw [if_neg e, if_neg (fun z => e (h1.trans z))]; exact ⟨h1, h2, h3⟩
theorem KT.put {H : Hp} {kvs : List (List Key × V)} {xs : List (List Key × Addr × Value)} (r : KT H kvs xs) (k : List Key) {b : Addr} {y : V} {u : Value} (hb : H b = some (.tup (k.map kV))) (ry : RelV y u) :
    KT H (putK kvs k y) (storedH xs k b u) := by
  have e : (kvs.any fun kv => decide (kv.1 = k)) = (atKey xs k).isSome := by
    rw [valV_any, (r.val k).isSome_eq, Option.isSome_map]
  unfold putK storedH
  rw [e]
  by_cases q : (atKey xs k).isSome = true
  · rw [if_pos q, if_pos q]; exact r.repl k ry
  · rw [if_neg q, if_neg q]; exact Paired.snoc r ⟨rfl, hb, ry⟩
theorem KT.keeps {H H' : Hp} {kvs : List (List Key × V)} {xs : List (List Key × Addr × Value)} (r : KT H kvs xs) (ht : ∀ b ys, H b = some (.tup ys) → H' b = some (.tup ys)) : KT H' kvs xs :=
  Paired.mapP r fun _ _ z => ⟨z.1, ht _ _ z.2.1, z.2.2⟩
section
variable {P : Program} {w : World} {H : Hp} {h : Heap} {a : Addr}
theorem rd_of {u : HO} (ok : HOk P w H h) (e : Rd H a u) : ObjOk P w H h a u := e.ok ok
theorem dk_rd {kvs : List (Key × V)} (ok : HOk P w H h) (e : Rd H a (.dK kvs)) : kvs.length ≤ sizeLine ∧ (a == sysModules) = false ∧ ∃ vs, KV kvs vs ∧ h.DictOf (mixKind P w) a vs :=
  show ObjOk P w H h a (.dK kvs) from rd_of ok e
theorem dk_of {kvs : List (Key × V)} (ok : HOk P w H h) (e : H a = some (.dK kvs)) : kvs.length ≤ sizeLine ∧ (a == sysModules) = false ∧ ∃ vs, KV kvs vs ∧ h.DictOf (mixKind P w) a vs := dk_rd ok (.inl e)
theorem key_of {ks : List Key} (ok : HOk P w H h) (e : H a = some (.tup (ks.map kV))) : (tupleKind (mixKind P w)).is h ks a := by
  obtain ⟨_, its, r, o, h1, h2, n, h3⟩ := (show ObjOk P w H h a (.tup (ks.map kV)) from ok a _ e)
  exact ⟨o, its.toArray, n, h1, h2, h3, by simpa using items_are r⟩
theorem dt_rd {kvs : List (List Key × V)} (ok : HOk P w H h) (e : Rd H a (.dT kvs)) : kvs.length ≤ sizeLine ∧ (a == sysModules) = false ∧
    ∃ xs, KT H kvs xs ∧ h.DictOfH (tupleKind (mixKind P w)) a xs := by
  obtain ⟨z, y, xs, r, o, es, ep, h1, h2, h3, h4, h5⟩ := (show ObjOk P w H h a (.dT kvs) from rd_of ok e)
  refine ⟨z, y, xs, r, o, es, ep, h1, h2, h3, h4, fun x hx => ?_, h5⟩
  have all : ∀ {l : List (List Key × V)} {m : List (List Key × Addr × Value)}, KT H l m → ∀ x ∈ m, (tupleKind (mixKind P w)).is h x.1 x.2.1 := by
    intro l m q
    induction q with
    | nil => intro x hx; exact nomatch hx
    | @cons p q ps qs hq t ih =>
      intro x hx
      rcases List.mem_cons.mp hx with e | hx
      · subst e
        exact key_of ok (by rw [← hq.1]; exact hq.2.1)
      · exact ih x hx
  exact all r x hx
theorem dt_of {kvs : List (List Key × V)} (ok : HOk P w H h) (e : H a = some (.dT kvs)) : kvs.length ≤ sizeLine ∧ (a == sysModules) = false ∧
    ∃ xs, KT H kvs xs ∧ h.DictOfH (tupleKind (mixKind P w)) a xs := dt_rd ok (.inl e)
end
def DGet (H : Hp) (a : Addr) (y : V) (r : Option V) : Prop :=
  (∃ kvs k, Rd H a (.dK kvs) ∧ y = kV k ∧ r = valV kvs k) ∨ ∃ kvs k b, Rd H a (.dT kvs) ∧ y = .ref b ∧ H b = some (.tup (k.map kV)) ∧ r = valV kvs k
def DPut (H : Hp) (a : Addr) (y v : V) (H' : Hp) : Prop :=
  (∃ kvs k, H a = some (.dK kvs) ∧ y = kV k ∧ kvs.length < sizeLine ∧ H' = upd H a (.dK (putK kvs k v))) ∨
  ∃ kvs k b, H a = some (.dT kvs) ∧ y = .ref b ∧ H b = some (.tup (k.map kV)) ∧ kvs.length < sizeLine ∧ H' = upd H a (.dT (putK kvs k v))
theorem DGet.t {H : Hp} {a b : Addr} {kvs : List (List Key × V)} {k : List Key} (e : H a = some (.dT kvs)) (eb : H b = some (.tup (k.map kV))) : DGet H a (.ref b) (valV kvs k) := .inr ⟨kvs, k, b, .inl e, rfl, eb, rfl⟩
theorem DPut.t {H : Hp} {a b : Addr} {kvs : List (List Key × V)} {k : List Key} {v : V} (e : H a = some (.dT kvs)) (eb : H b = some (.tup (k.map kV))) (hl : kvs.length < sizeLine) :
    DPut H a (.ref b) v (upd H a (.dT (putK kvs k v))) := .inr ⟨kvs, k, b, e, rfl, eb, hl, rfl⟩
section
variable {X : Cx} {pins : List (Addr × Obj)} {σ : St} {H : Hp} {s : Shared} {a : Addr} {y v : V} {u r : Value} {o : Option V} {A : Around} {E : Value → Shared → Prop}
theorem Inv.big (I : Inv X pins σ H s) : sysModules < s.heap.objs.size := by
  have h : mainGlobals < s.heap.objs.size := (I.mod.glob.keeps I.bk).lt
  exact Nat.lt_trans (by decide) h
theorem d_getItem {Q : Value → Shared → Prop} (hu : A.units + 1 < cLine) (I : Inv X pins σ H s) (g : DGet H a y (some v)) (ry : RelV y u) (h : ∀ w' s', Inv X pins σ H s' → RelV v w' → Q w' s') :
    wpAny (model X.prog X.w) A (getItem (.ref a) u) Q E s := by
  rcases g with ⟨kvs, k, e, ey, l⟩ | ⟨kvs, k, b, e, ey, eb, l⟩
  · subst ey
    obtain ⟨z, hd, vs, rel, dd⟩ := dk_rd I.hok e
    obtain ⟨w', hw, rw'⟩ := RelO.some_of (v := v) (o := valueAt vs k) (by rw [l]; exact rel.val k)
    exact wpAny_getItem_of (kV_is ry) dd.mapOf hw (h w' _ (I.tok _) rw')
  · subst ey
    cases (show u = Value.ref b from ry)
    obtain ⟨z, hd, xs, rel, dd⟩ := dt_rd I.hok e
    obtain ⟨w', hw, rw'⟩ := RelO.some_of (v := v) (o := (atKey xs k).map (·.2)) (by rw [l]; exact rel.val k)
    obtain ⟨p, hp, hp2⟩ := Option.map_eq_some_iff.mp hw
    refine wpAny_getItem_heap (tupleKind_room_in1 hu) (key_of I.hok eb) dd hp ?_
    rw [hp2]
    exact h w' _ (I.tok _) rw'
theorem d_write {h' : Heap} {t' : Nat} {ob : HO} (I : Inv X pins σ H s) (mu : Mut (H a)) (hs : Heap.SameBut a s.heap h') (he : ∃ q, h'.get? a = some q) (new : ObjOk X.prog X.w (upd H a ob) h' a ob) :
    Inv X pins σ (upd H a ob) { s with heap := h', toks := t' } :=
  I.write (x := a) (e := a) mu (.inl rfl) (fun b q hb z => (hs.2 b hb).trans z) he new
theorem dk_new {P : Program} {w : World} {H' : Hp} {h' : Heap} {kvs : List (Key × V)} {vs : List (Key × Value)} (z : kvs.length ≤ sizeLine) (hd : (a == sysModules) = false) (rel : KV kvs vs) (dd : h'.DictOf (mixKind P w) a vs) :
    ObjOk P w H' h' a (.dK kvs) := ⟨z, hd, vs, rel, dd⟩
theorem d_setItem {H' : Hp} {Q : Unit → Shared → Prop} (hu : A.units + 1 < cLine) (I : Inv X pins σ H s) (g : DPut H a y v H') (ry : RelV y u) (rv : RelV v r) (h : ∀ s', Inv X pins σ H' s' → Q () s') :
    wpAny (model X.prog X.w) A (setItem (.ref a) u r) Q E s := by
  rcases g with ⟨kvs, k, e, ey, l, eH⟩ | ⟨kvs, k, b, e, ey, eb, l, eH⟩
  · subst ey eH
    obtain ⟨z, hd, vs, rel, dd⟩ := dk_of I.hok e
    have hz : vs.length ≤ sizeLine := by rw [← rel.length]; exact z
    have hl : (putK kvs k v).length ≤ sizeLine := by have := length_putK kvs k v; omega
    refine wpAny_setItem_pairs (hsz := hz) (kV_is ry) dd fun h' dd' hs => h _ ?_
    have he : ∃ q, h'.get? a = some q := let ⟨q, _, _, hq, _⟩ := dd'; ⟨q, hq⟩
    exact d_write I (by rw [e]; exact True.intro) hs he (dk_new hl hd (rel.put k rv) dd')
  · subst ey eH
    cases (show u = Value.ref b from ry)
    obtain ⟨z, hd, xs, rel, dd⟩ := dt_of I.hok e
    have hz : xs.length ≤ sizeLine := by rw [← Paired.length rel]; exact z
    have hl : (putK kvs k v).length ≤ sizeLine := by have := length_putK kvs k v; omega
    refine wpAny_setItem_heap (hsz := hz) (tupleKind_room_in1 hu) (key_of I.hok eb) dd fun h' dd' hs => h _ ?_
    obtain ⟨q, es, ep, hq, h2, h3, h4, _, h5⟩ := dd'
    refine d_write I (by rw [e]; exact True.intro) hs ⟨q, hq⟩ ⟨hl, hd, _, (rel.put k eb rv).keeps fun c ys ec => ?_, q, es, ep, hq, h2, h3, h4, h5⟩
    rw [upd_ne (ne_of ec e (fun z => nomatch z))]
    exact ec
end
section
variable {X : Cx} {pins : List (Addr × Obj)} {σ : St} {H : Hp} {s : Shared} {a : Addr} {kvs : List (Key × V)} {k : Key} {u : Value} {A : Around} {E : Value → Shared → Prop}
end
def NoSl (i : Expr) : Prop := ∀ ov iv, subscripted i false ov iv = operate [ov, iv] (getItem ov iv)
theorem subD_of {prog : Program} {w : World} {A : Around} {E : Value → Shared → Prop} {s : Shared} {env : Env} {value slice : Expr} {pos : Pos} {T id : String} {Q : Value → Shared → Prop}
    (hl : typeLookup (.type T) "__getitem__" = pure (some (.builtin id))) (hs : NoSl slice)
    (h : wpAny (model prog w) A (eval value env) (fun o s₁ => wpAny (model prog w) A (eval slice env) (fun i s₂ => s₂.TypeIs o T ∧ wpAny (model prog w) A (getItem o i) Q E s₂) E s₁) E s) :
    wpAny (model prog w) A (eval (.Subscript value slice pos) env) Q E s := by
  refine Subscript_ (wpAny_mono h (fun o s₁ h₁ => wpAny_mono h₁ (fun i s₂ h₂ => ?_) fun _ _ x => x) fun _ _ x => x)
  obtain ⟨hT, h₂⟩ := h₂
  unfold subscriptTail
  refine wpAny_bind ?_
  rw [getitemInPython_of_ne hT.not_modules]
  refine wpAny_bind (wpAny_specialOf hT hl ?_)
  have fin : wpAny (model prog w) A (subscripted slice false o i) (fun r s₃ => wpAny (model prog w) A (letTemporaryGo value o r >>= fun _ => pure r) Q E s₃) E s₂ := by
    rw [hs o i]
    exact wpAny_operating (wpAny_mono h₂ (fun r s₃ h₃ => wpAny_bind (wpAny_letTemporaryGo (wpAny_pure h₃))) fun _ _ x => x)
  first
    | exact wpAny_pure (wpAny_bind fin)
    | exact wpAny_bind (wpAny_pure (wpAny_bind fin))
    | exact wpAny_bind fin
theorem dict_typeIs {X : Cx} {pins : List (Addr × Obj)} {σ : St} {H : Hp} {s : Shared} {a : Addr} {y : V} {o : Option V} (I : Inv X pins σ H s) (g : DGet H a y o) : s.TypeIs (.ref a) "dict" := by
  rcases g with ⟨kvs, k, e, _, _⟩ | ⟨kvs, k, b, e, _, _, _⟩
  · obtain ⟨_, _, vs, _, dd⟩ := dk_rd I.hok e
    exact dd.typeIs
  · obtain ⟨_, _, xs, _, dd⟩ := dt_rd I.hok e
    exact dd.typeIs
def tDGet (td ty : TE) : TE := fun σ H Q => td σ H fun x H1 => ty σ H1 fun y H2 => ∃ a v, x = .ref a ∧ DGet H2 a y (some v) ∧ Q v H2
def sDPut (td ty tv : TE) : TS := fun D σ H => tv σ H fun v H1 => td σ H1 fun x H2 => ty σ H2 fun y H3 => ∃ a H4, x = .ref a ∧ DPut H3 a y v H4 ∧ D.nx σ H4
section
variable {X : Cx} {o i e value : Expr} {pos pos' tpos : Pos} {td ty tv : TE}
theorem pe_dget (hu : X.A.units + 1 < cLine) (ho : PE X o td) (hi : PE X i ty) (hs : NoSl i) : PE X (.Subscript o i pos) (tDGet td ty) := by
  intro pins s σ H Q I h
  refine subD_of PySem.F.slot_dict_getitem.lookup hs (thn (ho pins s σ H _ I h) fun u s1 ⟨x, H1, I1, rx, q1⟩ => thn (hi pins s1 σ H1 _ I1 q1) fun iv s2 ⟨y, H2, I2, ry, a, v, ex, g, q2⟩ => ?_)
  subst ex
  obtain rfl : u = Value.ref a := rx
  exact ⟨dict_typeIs I2 g, d_getItem hu I2 g ry fun w' s3 I3 rw' => ⟨v, H2, I3, rw', q2⟩⟩
theorem ps_dput (hu : X.A.units + 1 < cLine) (ho : PE X o td) (hi : PE X i ty) (hv : PE X value tv) (hs : swapsWith value (some (.Subscript o i pos')) pos.line X.env = pure false) :
    PS X (.Assign [.Subscript o i pos'] value pos) (sDPut td ty tv) := by
  intro pins s σ H D I h
  refine wpAny_Assign_Subscript (thn (hv pins s σ H _ I h) fun r s1 ⟨v, H1, I1, rv, q1⟩ => thn (ho pins s1 σ H1 _ I1 q1) fun u s2 ⟨x, H2, I2, rx, q2⟩ => thn (hi pins s2 σ H2 _ I2 q2) fun iv s3 ⟨y, H3, I3, ry, a, H4, ex, g, q3⟩ => ?_) hs
  subst ex
  obtain rfl : u = Value.ref a := rx
  exact d_setItem hu I3 g ry rv fun s4 I4 => ⟨σ, H4, I4, q3⟩
end
theorem dt_empty {P : Program} {w : World} {H : Hp} (h : Heap) (hb : sysModules < h.objs.size) : ObjOk P w H (h.push { cls := .type "dict", data := .dict #[] }) h.objs.size (.dT []) :=
  ⟨Nat.zero_le _, beq_eq_false_iff_ne.mpr (Ne.symm (Nat.ne_of_lt hb)), [], .nil, _, #[], 0, Heap.get?_push_size _ rfl, ⟨rfl, rfl, rfl⟩, rfl, rfl, List.nodup_nil⟩
def tDNewT : TE := fun _ H Q => ∀ p, H p = none → Q (.ref p) (upd H p (.dT []))
section
variable {X : Cx} {pos : Pos}
theorem pe_dnewT : PE X (.Dict [] [] pos) tDNewT := fun pins s σ H Q I h =>
  wpAny_Dict_empty ⟨.ref s.heap.objs.size, _, I.laid (a := s.heap.objs.size) (o := .dT []) (t' := s.toks) (fun _ _ q => Heap.get?_push_of_some _ q) (Nat.le_refl _) (dt_empty s.heap I.big), rfl, h _ (I.hok.fresh (Nat.le_refl _))⟩
end
structure M2 (X : Cx) (o : Expr) (m : Str) (apos : Pos) (e f : Expr) (cpos : Pos) : Prop where
  base : attributeBase o m X.env (eval o X.env) = eval o X.env
  few : ((backTo cpos (starEach [e, f] X.env)).all (fun x => !x.1) && (backToKw cpos (keywordEach [] X.env)).all (fun x => x.1.isSome)
    && decide (([e, f] : List Expr).length + ([] : List Keyword).length + (if ([] : List Keyword).isEmpty then 0 else 1) < 30)) = true
  line : (apos.endLine == cpos.line) = true
  trees : backTo cpos (starEach [e, f] X.env) = [(false, eval e X.env), (false, eval f X.env)]
def IsD (H : Hp) (a : Addr) : Prop := (∃ kvs, Rd H a (.dK kvs)) ∨ ∃ kvs, Rd H a (.dT kvs)
theorem isD_at {X : Cx} {pins : List (Addr × Obj)} {σ : St} {H : Hp} {s : Shared} {a : Addr} (I : Inv X pins σ H s) (d : IsD H a) :
    s.TypeIs (.ref a) "dict" ∧ (∀ b, Value.ref a = .ref b → ∃ ob, s.heap.get? b = some ob ∧ ob.dict = none) ∧ (a == sysModules) = false := by
  rcases d with ⟨kvs, e⟩ | ⟨kvs, e⟩
  · obtain ⟨_, hd, vs, _, dd⟩ := dk_rd I.hok e
    refine ⟨dd.typeIs, fun b q => ?_, hd⟩
    cases q
    obtain ⟨ob, _, _, h1, h2, _⟩ := dd
    exact ⟨ob, h1, h2.2.1⟩
  · obtain ⟨_, hd, xs, _, dd⟩ := dt_rd I.hok e
    refine ⟨dd.typeIs, fun b q => ?_, hd⟩
    cases q
    obtain ⟨ob, _, _, h1, h2, _⟩ := dd
    exact ⟨ob, h1, h2.2.1⟩
section
variable {X : Cx} {pins : List (Addr × Obj)} {σ : St} {H : Hp} {s : Shared} {a : Addr} {y d : V} {u r : Value} {o : Option V} {A : Around} {E : Value → Shared → Prop}
theorem d_get2 {Q : Value → Shared → Prop} (hu : A.units + 1 < cLine) (I : Inv X pins σ H s) (g : DGet H a y o) (ry : RelV y u) (rd : RelV d r) (h : ∀ w' s', Inv X pins σ H s' → RelV (o.getD d) w' → Q w' s') :
    wpAny (model X.prog X.w) A (call (.builtin "dict.get") [.ref a, u, r]) Q E s := by
  rcases g with ⟨kvs, k, e, ey, l⟩ | ⟨kvs, k, b, e, ey, eb, l⟩
  · subst ey
    obtain ⟨z, hd, vs, rel, dd⟩ := dk_rd I.hok e
    refine call_meetsIn PySem.F.slot_dict_get dd.typeIs PySem.F.entry_dict_get (PySem.F.args_dict_get_3 _ _ _) (meets_dict_get_default (mixKind X.prog X.w) a (kV_is ry) hd r) ⟨_, dd.mapOf, h _ _ (I.tok _) ?_⟩
    rw [l]
    exact (rel.val k).getD rd
  · subst ey
    cases (show u = Value.ref b from ry)
    obtain ⟨z, hd, xs, rel, dd⟩ := dt_rd I.hok e
    refine call_meetsIn PySem.F.slot_dict_get dd.typeIs PySem.F.entry_dict_get (PySem.F.args_dict_get_3 _ _ _) (meetsH_dict_get_default (tupleKind (mixKind X.prog X.w)) a b hd r) ⟨tupleKind_room_in1 hu, k, xs, key_of I.hok eb, dd, h _ _ (I.tok _) ?_⟩
    rw [l]
    exact (rel.val k).getD rd
end
def tDGet2 (td ty tx : TE) : TE := fun σ H Q => td σ H fun x H1 => ∃ a, x = .ref a ∧ IsD H1 a ∧ ty σ H1 fun y H2 => tx σ H2 fun z H3 => ∃ o, DGet H3 a y o ∧ Q (o.getD z) H3
section
variable {X : Cx} {o e f : Expr} {apos cpos : Pos} {td ty tx : TE}
theorem pe_dget2 (hu : X.A.units + 1 < cLine) (ho : PE X o td) (he : PE X e ty) (hf : PE X f tx) (m : M2 X o "get" apos e f cpos) : PE X (.Call (.Attribute o "get" apos) [e, f] [] cpos) (tDGet2 td ty tx) := by
  intro pins s σ H Q I h
  refine wpAny_Call_method m.base m.few m.line PySem.F.plainAttrs_dict PySem.F.slot_dict_get PySem.F.type_dict_get (thn (ho pins s σ H _ I h) fun u s1 ⟨x, H1, I1, rx, a, ex, d, q1⟩ => ?_)
  subst ex
  obtain rfl : u = Value.ref a := rx
  obtain ⟨t1, t2, _⟩ := isD_at I1 d
  refine ⟨t1, t2, ?_⟩
  rw [m.trees]
  refine Calls.callWith_builtin rfl (Calls.evalArgs_plain (Calls.spliced_cons (thn (he pins s1 σ H1 _ I1 q1) fun iv s2 ⟨y, H2, I2, ry, q2⟩ =>
    Calls.spliced_cons (thn (hf pins s2 σ H2 _ I2 q2) fun fv s3 ⟨z, H3, I3, rz, ov, g, q3⟩ => Calls.spliced_nil ?_))))
  exact d_get2 hu I3 g ry rz fun w' s4 I4 rw' => ⟨_, H3, I4, rw', q3⟩
end
section
variable {X : Cx} {pins : List (Addr × Obj)} {σ : St} {H : Hp} {s : Shared} {a : Addr} {kvs : List (Key × V)} {A : Around} {E : Value → Shared → Prop}
end
section
variable {X : Cx} {pins : List (Addr × Obj)} {σ : St} {H : Hp} {s : Shared} {a : Addr} {y : V} {u : Value} {A : Around} {E : Value → Shared → Prop}
end
end L2
namespace L2
open PySem PySem.Spec PyProof.Rows
section
variable {κ : Type} [DecidableEq κ]
theorem valV_not {kvs : List (κ × V)} {k : κ} (h : valV kvs k = none) : ¬ k ∈ kvs.map (·.1) := by
  intro m
  obtain ⟨p, hp, e⟩ := List.mem_map.mp m
  have q : (kvs.any fun kv => decide (kv.1 = k)) = true := List.any_eq_true.mpr ⟨p, hp, decide_eq_true e⟩
  rw [valV_any, h] at q
  exact absurd q (by simp)
end
end L2
namespace L2
open PySem PySem.Spec PyProof.Rows
def Sz (n : Nat) (x : Int) : Prop := x.natAbs < 2 ^ n
section
variable {m n : Nat} {x y : Int}
theorem Sz.bits (h : Sz n x) : Builtin.Int.intBits x ≤ n := intBits_le_iff.mpr h
theorem Sz.of_bits (h : Builtin.Int.intBits x ≤ n) : Sz n x := intBits_le_iff.mp h
theorem Sz.mono (h : Sz m x) (l : m ≤ n) : Sz n x := .of_bits (Nat.le_trans h.bits l)
theorem Sz.mul (h : Sz m x) (k : Sz n y) : Sz (m + n) (x * y) := .of_bits (intBits_mul_le h.bits k.bits)
theorem Sz.add (h : Sz m x) (k : Sz n y) : Sz (max m n + 1) (x + y) := .of_bits (intBits_add_le h.bits k.bits)
theorem szd (n : Nat) {x : Int} (h : decide (x.natAbs < 2 ^ n) = true := by decide +kernel) : Sz n x := (show x.natAbs < 2 ^ n from of_decide_eq_true h)
theorem sz_of (h : -(2 ^ n : Nat) < x) (k : x < (2 ^ n : Nat)) : Sz n x := by
  unfold Sz
  generalize 2 ^ n = p at h k ⊢
  omega
end
def CMulB (i j : Int) : Prop := ∃ m n, Sz m i ∧ Sz n j ∧ m + n ≤ 134217728
def CDivB (_ j : Int) : Prop := j ≠ 0 ∧ Sz 9000 j
section
variable {X : Cx}
theorem op_mulB : OpR X (binaryOp .Mult) (rI CMulB fun i j => .int (i * j)) := opI fun _ _ _ _ _ _ _ hc q =>
  mul_int q (let ⟨_, _, a, b, c⟩ := hc; IntMulOk.of_le a.bits b.bits c)
theorem op_fdivB : OpR X (binaryOp .FloorDiv) (rI CDivB fun i j => .int (i.fdiv j)) := opI fun _ j _ _ _ _ _ hc q =>
  floordiv_int hc.1 q (.inl (PyProof.noPylong_of_log2 ((Nat.log2_lt (by have := hc.1; omega)).mpr hc.2)))
theorem call_isi : CallR X (.builtin "isinstance") (fun xs H Q => ∃ x t c b, xs = [x, .ty c] ∧ TyOf X.K H x t ∧ PySem.W.kitOne X.K t (.type c) = some b ∧ Q (.bl b) H) := by
  intro pins s σ H xs us Q I rv h
  obtain ⟨x, t, c, b, rfl, ty, e, q⟩ := h
  obtain ⟨u, u', rfl, r1, r2⟩ := vals2 rv
  cases (show u' = Value.type c from r2)
  exact isinst_ok I r1 ty e fun tk => ⟨.bl b, H, I.tok tk, rfl, q⟩
end
section
variable {K : PySem.W.Frag}
theorem kit_int_int : PySem.W.kitOne K (.type "int") (.type "int") = some true := by
  show (if ((Value.type "int") == (Value.type "int")) = true then some true else (if PySem.W.kitMeta "int" = true then (PySem.fastBuiltinMro "int").map (·.contains (Value.type "int")) else none)) = some true
  decide +kernel
theorem kit_int_bool : PySem.W.kitOne K (.type "int") (.type "bool") = some false := by
  show (if ((Value.type "int") == (Value.type "bool")) = true then some true else (if PySem.W.kitMeta "bool" = true then (PySem.fastBuiltinMro "int").map (·.contains (Value.type "bool")) else none)) = some false
  decide +kernel
theorem kit_list_list : PySem.W.kitOne K (.type "list") (.type "list") = some true := by
  show (if ((Value.type "list") == (Value.type "list")) = true then some true else (if PySem.W.kitMeta "list" = true then (PySem.fastBuiltinMro "list").map (·.contains (Value.type "list")) else none)) = some true
  decide +kernel
end
def tIfJ (c : TT) (t u : TS) : TS := fun D σ H => ∃ M : St → Hp → Prop, (c σ H fun b H1 => if b = true then t { D with nx := M } σ H1 else u { D with nx := M } σ H1) ∧ ∀ σ' H', M σ' H' → D.nx σ' H'
theorem ps_ifJ {X : Cx} {c : Expr} {a b : List Stmt} {tc : TT} {t u : TS} {pos : Pos} (hc : PT X c tc) (ha : PSs X a t) (hb : PSs X b u) : PS X (.If c a b pos) (tIfJ tc t u) := by
  intro pins s σ H D I h
  obtain ⟨M, h, hM⟩ := h
  have up : ∀ (f : Flow) (s' : Shared), SP X pins { D with nx := M } f s' → SP X pins D f s' := fun f s' q => by
    cases f with
    | next =>
      obtain ⟨σ', H', I', q⟩ := q
      exact ⟨σ', H', I', hM σ' H' q⟩
    | ret v => exact q
    | brk => exact q
    | cont => exact q
  refine wpAny_If (thn (hc pins s σ H _ I h) fun d s1 ⟨H1, I1, q1⟩ => ?_)
  cases d with
  | true => exact thn (ha pins s1 σ H1 _ I1 q1) up
  | false => exact thn (hb pins s1 σ H1 _ I1 q1) up
theorem cpow40 : CPow 10 40 := ⟨by decide, by decide, by decide⟩
theorem small63 {n : Nat} (h : n ≤ 1000) : n ≤ sizeLine := Nat.le_of_lt (small1000 h)
theorem item_at {ns : List Int} {k : Int} (h0 : 0 ≤ k) (h : k < (ns.length : Int)) : ∃ v : Int, atI (ns.map V.int) k = some (.int v) := by
  have hk : k.toNat < ns.length := by omega
  have ek : k = ((k.toNat : Nat) : Int) := by omega
  have q : atI (ns.map V.int) ((k.toNat : Nat) : Int) = some (.int ns[k.toNat]) := atI_nat (by rw [List.getElem?_map, List.getElem?_eq_getElem hk] <;> rfl)
  rw [← ek] at q
  exact ⟨_, q⟩
end L2
namespace L2
open PySem PySem.Spec PyProof.Rows
def Cx.inComp (X : Cx) (Nc : List Str) (sc : Scope) (cl : List (Str × Addr)) (s : Shared) (H : Hp) (ex : List Addr) : Cx :=
  { X with N := Nc, s₀ := s, H₀ := H, env := compEnvC sc cl s.heap.objs.size X.env, outer := X.stack, stack := X.stack, ex := ex, fn := fun _ => false, pn := [], xe := fun _ _ => False }
theorem closure_go {env : Env} {f : Str × NameKind → List (Str × Addr) → Sem (ForInStep (List (Str × Addr)))}
    (hf : ∀ n k r, f (n, k) r = if (k == NameKind.free) = true then (cellOf env n >>= fun c => pure (ForInStep.yield ((n, c) :: r))) else pure (ForInStep.yield r)) :
    ∀ (l : List (Str × NameKind)) (cs : List (Str × Addr)), (∀ x ∈ l, x.2 = .free → ∃ c, env.cells.lookup x.1 = some c) →
      ∃ cl, (forIn l cs f : Sem (List (Str × Addr))) = pure cl ∧ (∀ p ∈ cl, p ∈ cs ∨ env.cells.lookup p.1 = some p.2) ∧ (∀ p ∈ cs, p ∈ cl) ∧ ∀ x ∈ l, x.2 = .free → ∃ c, (x.1, c) ∈ cl := by
  intro l
  induction l with
  | nil =>
    intro cs _
    exact ⟨cs, by rw [List.forIn_nil], fun p hp => .inl hp, fun p hp => hp, fun x hx => absurd hx (by simp)⟩
  | cons y r ih =>
    intro cs h
    obtain ⟨n, k⟩ := y
    by_cases hk : k = .free
    · subst hk
      obtain ⟨c, hc⟩ := h (n, .free) (by simp) rfl
      have e : cellOf env n = pure c := by
        unfold cellOf
        rw [show env.cells.lookup n = some c from hc]
      obtain ⟨cl, h1, h2, h3, h4⟩ := ih ((n, c) :: cs) fun x hx => h x (List.mem_cons_of_mem _ hx)
      refine ⟨cl, ?_, fun p hp => ?_, fun p hp => h3 p (List.mem_cons_of_mem _ hp), fun x hx hf' => ?_⟩
      · rw [List.forIn_cons, hf, if_pos (by decide), e]
        simp only [pure_bind]
        exact h1
      · rcases h2 p hp with z | z
        · rcases List.mem_cons.mp z with z | z
          · subst z; exact .inr hc
          · exact .inl z
        · exact .inr z
      · rcases List.mem_cons.mp hx with z | z
        · subst z; exact ⟨c, h3 _ (by simp)⟩
        · exact h4 x z hf'
    · have hb : (k == NameKind.free) = false := by simpa using hk
      obtain ⟨cl, h1, h2, h3, h4⟩ := ih cs fun x hx => h x (List.mem_cons_of_mem _ hx)
      refine ⟨cl, ?_, h2, h3, fun x hx hf' => ?_⟩
      · rw [List.forIn_cons, hf, hb, if_neg (by decide)]
        simp only [pure_bind]
        exact h1
      · rcases List.mem_cons.mp hx with z | z
        · subst z; exact absurd hf' hk
        · exact h4 x z hf'
theorem lookup_has {α : Type} : ∀ {l : List (Str × α)} {n : Str} {c : α}, (n, c) ∈ l → ∃ d, l.lookup n = some d
  | (k, v) :: r, n, c, h => by
    rw [List.lookup_cons]
    cases hx : (n == k) with
    | true => exact ⟨v, rfl⟩
    | false =>
      rcases List.mem_cons.mp h with z | z
      · cases z
        simp at hx
      · exact lookup_has z
theorem closure_ok {env : Env} {sc : Scope} (h : ∀ x ∈ sc.names, x.2 = .free → ∃ c, env.cells.lookup x.1 = some c) :
    ∃ cl, closureFor sc env = pure cl ∧ (∀ y c, cl.lookup y = some c → env.cells.lookup y = some c) ∧ ∀ x ∈ sc.names, x.2 = .free → ∃ c, cl.lookup x.1 = some c := by
  obtain ⟨cl, h1, h2, _, h4⟩ := closure_go (env := env) (f := fun x r => if (x.2 == NameKind.free) = true then (cellOf env x.1 >>= fun c => pure (ForInStep.yield ((x.1, c) :: r))) else pure (ForInStep.yield r)) (fun _ _ _ => rfl) sc.names [] h
  refine ⟨cl, ?_, fun y c e => ?_, fun x hx hf => ?_⟩
  · unfold closureFor
    have : (forIn sc.names ([] : List (Str × Addr)) fun x r => (match x with | (name, kind) => if (kind == NameKind.free) = true then (do let __do_lift ← cellOf env name; pure (ForInStep.yield ((name, __do_lift) :: r))) else pure (ForInStep.yield r)) : Sem (List (Str × Addr))) = pure cl := h1
    first
      | (simp only [this, pure_bind]; done)
      | (simp only [h1, pure_bind]; done)
      | (rw [show (forIn sc.names ([] : List (Str × Addr)) _ : Sem (List (Str × Addr))) = pure cl from h1]; rfl)
  · rcases h2 (y, c) (PySem.mem_of_lookup e) with z | z
    · exact absurd z (by simp)
    · exact z
  · obtain ⟨c, hc⟩ := h4 x hx hf
    exact lookup_has hc
theorem lookup_relabel (env : Env) : ∀ (names : List (Str × NameKind)) (y : Str),
    (names.map fun (n, k) => if (k == NameKind.free && env.scope.kind == .function && env.kindOf n == some .cell) then (n, NameKind.cell) else (n, k)).lookup y
      = (names.lookup y).map fun k => if (k == NameKind.free && env.scope.kind == .function && env.kindOf y == some .cell) then NameKind.cell else k
  | [], y => rfl
  | (n, k) :: r, y => by
    have ih := lookup_relabel env r y
    rw [List.map_cons]
    dsimp only
    cases hx : (y == n) with
    | true =>
      have e : y = n := by simpa using hx
      subst e
      by_cases c : (k == NameKind.free && env.scope.kind == .function && env.kindOf y == some .cell) = true
      · rw [if_pos c]; simp only [List.lookup_cons, hx, Option.map_some]; rw [if_pos c]
      · rw [if_neg c]; simp only [List.lookup_cons, hx, Option.map_some]; rw [if_neg c]
    | false =>
      by_cases c : (k == NameKind.free && env.scope.kind == .function && env.kindOf n == some .cell) = true
      · rw [if_pos c]; simp only [List.lookup_cons, hx]; exact ih
      · rw [if_neg c]; simp only [List.lookup_cons, hx]; exact ih
def PIfs (X : Cx) (ifs : List Expr) (t : TT) : Prop :=
  ∀ (pins : List (Addr × Obj)) (s : Shared) (σ : St) (H : Hp) (Q : Bool → Hp → Prop), Inv X pins σ H s → t σ H Q →
    wpAny (model X.prog X.w) X.A (forIn ifs true fun c r => if r = true then do let ok ← isTrue c X.env (eval c X.env); pure (ForInStep.yield ok) else pure (ForInStep.yield r)) (TP X pins σ Q) X.xe s
def tYes : TT := fun _ H Q => Q true H
theorem yes {σ : St} {H : Hp} {Q : Bool → Hp → Prop} (h : Q true H) : tYes σ H Q := h
theorem pif_nil {X : Cx} : PIfs X [] tYes := by
  intro pins s σ H Q I h
  rw [List.forIn_nil]
  exact wpAny_pure ⟨H, I, h⟩
theorem pif_one {X : Cx} {c : Expr} {t : TT} (hc : PT X c t) : PIfs X [c] t := by
  intro pins s σ H Q I h
  rw [List.forIn_cons, if_pos rfl]
  refine wpAny_bind (wpAny_bind (thn (hc pins s σ H Q I h) fun b s1 q => wpAny_pure ?_))
  dsimp only
  rw [List.forIn_nil]
  exact wpAny_pure q
theorem thnF {α : Type} {t : Sem α} {Q Q' : α → Shared → Prop} {M : Model} {A : Around} {E : Value → Shared → Prop} {s : Shared} (h : wpAny M A t Q (fun _ _ => False) s) (hQ : ∀ a s, Q a s → Q' a s) : wpAny M A t Q' E s := wpAny_mono h hQ fun _ _ z => z.elim
def tComp (wi : TI) (tt : TT) (te : TE) : TE := fun σ H Q => wi σ H fun J H1 => ∀ D, H1 D = none → ∃ W : Nat → Nat → List V → Hp → Prop, (∃ m, W 0 m [] (upd H1 D (.lst []))) ∧ ∀ i m ys H2, W i m ys H2 →
  H2 D = some (.lst ys) ∧ ((J.stop i H2 ∧ Q (.ref D) H2) ∨ (J.go i H2 ∧ ys.length < sizeLine ∧ ∀ x H3, J.yld i H2 x H3 → tt (σ ++ [some x]) H3 fun b H4 => if b = true then te (σ ++ [some x]) H4 fun y H5 => H5 D = some (.lst ys) ∧ ∃ m', m' < m ∧ W (i + 1) m' (ys ++ [y]) (upd H5 D (.lst (ys ++ [y])))
    else ∃ m', m' < m ∧ W (i + 1) m' ys H4))
structure CompN (N Nc : List Str) (x : Str) (sc fsc : Scope) : Prop where
  kind : sc.kind = .function
  cell : ∀ y ∈ sc.names, y.2 ≠ .cell
  nm : ∀ y ∈ sc.names, y.2 = .local → sc.names.lookup y.1 = some .local
  own : sc.names.lookup x = some .local
  fr : ∀ y ∈ sc.names, y.2 = .free → fsc.names.lookup y.1 = some .cell ∨ fsc.names.lookup y.1 = some .free
  len : Nc.length = N.length + 1
  nd : Nc.Nodup
  last : Nc[N.length]? = some x
  slot : ((List.range N.length).all fun i => match Nc[i]? with
    | some y => (match sc.names.lookup y with | some .free => N[i]? == some y | some .local => false | some .cell => false | _ => true)
    | none => true) = true
theorem CompN.at {N Nc : List Str} {x : Str} {sc fsc : Scope} (C : CompN N Nc x sc fsc) {i : Nat} {y : Str} (hi : i < N.length) (h : Nc[i]? = some y) : sc.names.lookup y ≠ some .local ∧ sc.names.lookup y ≠ some .cell ∧ (sc.names.lookup y = some .free → N[i]? = some y) := by
  have q := List.all_eq_true.mp C.slot i (List.mem_range.mpr hi)
  rw [h] at q
  dsimp only at q
  cases e : sc.names.lookup y with
  | none => exact ⟨fun z => (nomatch z), fun z => (nomatch z), fun z => (nomatch z)⟩
  | some k =>
    rw [e] at q
    cases k with
    | «local» => exact absurd (show false = true from q) Bool.false_ne_true
    | cell => exact absurd (show false = true from q) Bool.false_ne_true
    | free => exact ⟨fun z => (nomatch z), fun z => (nomatch z), fun _ => by simpa using q⟩
    | _ => exact ⟨fun z => (nomatch z), fun z => (nomatch z), fun z => (nomatch z)⟩
section
variable {X : Cx} {elt iter : Expr} {x : Str} {px pos : Pos} {ifs : List Expr} {sc fsc : Scope} {N Nc : List Str} {wi : TI} {tt : TT} {te : TE}
structure CLoc (X : Cx) (pins : List (Addr × Obj)) (H : Hp) (C : Addr) : Prop where
  free : H C = none
  ne : C ≠ X.env.locals
  new : X.s₀.heap.objs.size ≤ C
  cells : ∀ x c, X.env.cells.lookup x = some c → c ≠ C
  pins : ∀ p ∈ X.pn ++ pins, p.1 ≠ C
theorem Inv.sameBut {pins : List (Addr × Obj)} {σ : St} {H : Hp} {s : Shared} {C : Addr} {h' : Heap} (I : Inv X pins σ H s) (c : CLoc X pins H C) (k : Heap.SameBut C s.heap h') : Inv X pins σ H { s with heap := h' } :=
  I.turned (t' := s.toks) (it := C) (fun b o hb e => (k.2 b hb).trans e) c.free c.ne (.inr c.new) c.cells c.pins
theorem set_last {σ : St} {o v : Option V} : (σ ++ [o]).set σ.length v = σ ++ [v] := by
  rw [List.set_append_right _ _ (Nat.le_refl _), Nat.sub_self]
  rfl
theorem comp_core (hE : X.env.scope = fsc) (hXN : X.N = N) (cn : CompN N Nc x sc fsc) (hc : X.calm = true)
    (ht : ∀ cl s H ex, PIfs (X.inComp Nc sc cl s H ex) ifs tt) (he : ∀ cl s H ex, PE (X.inComp Nc sc cl s H ex) elt te)
    {cl : List (Str × Addr)} (clS : ∀ y c, cl.lookup y = some c → X.env.cells.lookup y = some c) (clH : ∀ y ∈ sc.names, y.2 = .free → ∃ c, cl.lookup y.1 = some c)
    {pins : List (Addr × Obj)} {σ : St} {H2 : Hp} {s2 : Shared} {it : Addr} {fp : List Addr} {tn : Nat → Heap → Prop} {J : It} {Q : VK} {E : Value → Shared → Prop}
    (I2 : Inv X pins σ H2 s2) (T : Turn X.prog X.w X.K (.Name x px) J fp it tn) (st2 : tn 0 s2.heap) (f2 : ∀ b ∈ fp, FpOk X pins H2 b)
    (h2 : ∀ D, H2 D = none → ∃ W : Nat → Nat → List V → Hp → Prop, (∃ m, W 0 m [] (upd H2 D (.lst []))) ∧ ∀ i m ys H2, W i m ys H2 →
      H2 D = some (.lst ys) ∧ ((J.stop i H2 ∧ Q (.ref D) H2) ∨ (J.go i H2 ∧ ys.length < sizeLine ∧ ∀ x H3, J.yld i H2 x H3 → tt (σ ++ [some x]) H3 fun b H4 => if b = true then te (σ ++ [some x]) H4 fun y H5 => H5 D = some (.lst ys) ∧ ∃ m', m' < m ∧ W (i + 1) m' (ys ++ [y]) (upd H5 D (.lst (ys ++ [y])))
        else ∃ m', m' < m ∧ W (i + 1) m' ys H4))) :
    wpAny (model X.prog X.w) X.A (newList []) (fun acc s₃ => wpAny (model X.prog X.w) X.A (newFunctionEnv sc X.env.globals cl [] X.env.qual none .none (some X.env)) (fun cenv s₄ =>
      codeAny (model X.prog X.w) X.A (.compStart (.ListComp elt [⟨.Name x px, iter, ifs, 0⟩] sc pos) 0 (.ref it) acc { cenv with scope := relabel sc X.env })
        (fun r s' => r = .ok .next ∧ ∃ D H', acc = .ref D ∧ Inv X pins σ H' s' ∧ Q (.ref D) H' ∧ CLoc X pins H' cenv.locals ∧ ∃ m, s'.heap.Ns cenv.locals m) s₄) E s₃) E s2 := by
  refine wpAny_newObj_type (wpAny_newFunctionEnv cn.cell (by intro y hy; simp at hy) (fun h₁ hns₁ hsb₁ => ?_) cn.kind)
  dsimp only at hns₁ hsb₁ ⊢
  have hD : H2 s2.heap.objs.size = none := I2.hok.fresh (Nat.le_refl _)
  obtain ⟨W, ⟨m0, w0⟩, turn⟩ := h2 s2.heap.objs.size hD
  have I3 : Inv X pins σ (upd H2 s2.heap.objs.size (.lst [])) { s2 with heap := s2.heap.push { cls := .type "list", dict := none, data := .seq ([] : List Value).toArray } } :=
    I2.laid (t' := s2.toks) (fun b u e => Heap.get?_push_of_some _ e) (Nat.le_refl _) ⟨Nat.zero_le _, [], 0, .nil, Heap.get?_push_size _ rfl⟩
  generalize hs3 : ({ s2 with heap := s2.heap.push { cls := .type "list", dict := none, data := .seq ([] : List Value).toArray } } : Shared) = s3 at I3
  have eh : s3.heap = s2.heap.push { cls := .type "list", dict := none, data := .seq ([] : List Value).toArray } := by rw [← hs3]
  have e2 : ({ s2 with heap := h₁, toks := s2.toks + ([] : List (Str × Value)).length } : Shared) = { s3 with heap := h₁, toks := s3.toks } := by rw [← hs3]; rfl
  generalize hH3 : upd H2 s2.heap.objs.size (.lst []) = H3 at I3 w0
  rw [← eh] at hns₁ hsb₁ ⊢
  rw [e2]
  have below2 : ∀ b, b ∈ fp → b < s3.heap.objs.size := fun b hb => by
    obtain ⟨o, e, _⟩ := T.obj _ _ st2 b hb
    have : s2.heap.objs.size ≤ s3.heap.objs.size := by rw [eh, Heap.size_push]; exact Nat.le_succ _
    exact Nat.lt_of_lt_of_le (Heap.lt_size e) this
  have old : ∀ b o, s3.heap.get? b = some o → h₁.get? b = some o := fun b o e => (hsb₁.2 b (Nat.ne_of_lt (Heap.lt_size e))).trans (Heap.get?_push_of_some _ e)
  have old2 : ∀ b o, s2.heap.get? b = some o → s3.heap.get? b = some o := fun b o e => by rw [eh]; exact Heap.get?_push_of_some _ e
  have hsz3 : s2.heap.objs.size < s3.heap.objs.size := by rw [eh, Heap.size_push]; exact Nat.lt_succ_self _
  have fpFree : ∀ b ∈ fp, H3 b = none := fun b hb => by
    rw [← hH3, upd_ne (fun z => ?_)]
    · exact (f2 b hb).1
    · obtain ⟨o, e, _⟩ := T.obj _ _ st2 b hb
      have := Heap.lt_size e
      rw [z] at this
      exact Nat.lt_irrefl _ this
  have rl : ∀ y, (relabel sc X.env).names.lookup y = (sc.names.lookup y).map fun k => if (k == NameKind.free && X.env.scope.kind == .function && X.env.kindOf y == some .cell) then NameKind.cell else k := fun y => lookup_relabel X.env sc.names y
  have freeOf : ∀ y, sc.names.lookup y = some .free → ∃ c, cl.lookup y = some c := fun y e => clH (y, .free) (PySem.mem_of_lookup e) rfl
  have noCell : ∀ y, sc.names.lookup y ≠ some .cell := fun y e => cn.cell (y, .cell) (PySem.mem_of_lookup e) rfl
  have isFree : ∀ y, ((relabel sc X.env).names.lookup y = some .cell ∨ (relabel sc X.env).names.lookup y = some .free) → sc.names.lookup y = some .free := fun y h => by
    rw [rl y] at h
    cases e : sc.names.lookup y with
    | none => rw [e] at h; rcases h with z | z <;> exact absurd z (by simp)
    | some k =>
      rw [e] at h
      cases k with
      | free => rfl
      | cell => exact absurd e (noCell y)
      | «local» => rcases h with z | z <;> exact absurd z (by simp)
      | _ => rcases h with z | z <;> exact absurd z (by simp)
  have ownLoc : (relabel sc X.env).names.lookup x = some .local := by rw [rl x, cn.own]; rfl
  have exOk : ∀ b ∈ fp, b ≠ s3.heap.objs.size ∧ (∀ y c, X.env.cells.lookup y = some c → c ≠ b) ∧ b ∉ frs X.stack := fun b hb => by
    obtain ⟨g0, g1, g2, g3, g4, g5⟩ := f2 b hb
    refine ⟨Nat.ne_of_lt (below2 b hb), g4, fun z => ?_⟩
    rcases List.mem_cons.mp (I2.stkSub b z) with z | z
    · exact g1 z
    · exact g2 z
  have hCnew : X.s₀.heap.objs.size ≤ s3.heap.objs.size := I3.sz
  have hCcell : ∀ y c, X.env.cells.lookup y = some c → c ≠ s3.heap.objs.size := fun y c e z => by
    obtain ⟨v, q⟩ := I3.cell y c e
    have := q.lt
    rw [z] at this
    exact Nat.lt_irrefl _ this
  have hCpin : ∀ p ∈ X.pn ++ pins, p.1 ≠ s3.heap.objs.size := fun p hp z => by
    have := Heap.lt_size (I3.pin p hp).1
    rw [z] at this
    exact Nat.lt_irrefl _ this
  have okc : (X.inComp Nc sc cl s3 H3 fp).Ok := by
    refine ⟨I3.ok.mod, cn.kind, I3.ok.glob, I3.ok.blt, Nat.le_refl _, fun y z c h1 h2 => I3.ok.inj y z c (clS y c h1) (clS z c h2), fun y hy => freeOf y (isFree y hy), fun y c hf => absurd (show false = true from hf) Bool.false_ne_true, I3.ok.hd, I3.ok.frames, .inl rfl,
      fun b hb => ⟨(exOk b hb).1, fun y c e => (exOk b hb).2.1 y c (clS y c e)⟩, fun b o e => I3.bs b o e, Nat.le_trans I3.ok.bsz I3.sz, fun b o e hb => ?_, fun b hb => (exOk b hb).2.2, I3.stack, I3.stkFree⟩
    obtain ⟨g0, g1, g2, g3, g4, g5⟩ := f2 b hb
    rcases g3 with z | z
    · exact I3.ok.noex b o e z
    · exact absurd (Heap.lt_size (I3.ok.bs b o e).1) (Nat.not_lt.mpr z)
  have hlen : σ.length = N.length := by rw [I3.len, hXN]
  have Ic : Inv (X.inComp Nc sc cl s3 H3 fp) [] (σ ++ [none]) H3 { s3 with heap := h₁, toks := s3.toks } := by
    refine ⟨okc, rfl, I3.bare, Un.kept old, ⟨_, hns₁, fun i y v h1 h2 h3 => ?_⟩, fun y c e => ?_, I3.hok.fresh (Nat.le_refl _), fun y c e => I3.freeC y c (clS y c e), fun p hp => absurd (show p ∈ ([] : List (Addr × Obj)) from hp) (by simp), I3.hok.kept old, ?_⟩
    · have hi : i < σ.length := by
        by_cases hi : i < σ.length
        · exact hi
        · rw [List.getElem?_append_right (Nat.not_lt.mp hi)] at h2
          cases e : i - σ.length with
          | zero => rw [e] at h2; cases h2
          | succ k => rw [e] at h2; simp at h2
      rw [List.getElem?_append_left hi] at h2
      have hi' : i < N.length := by rw [← hlen]; exact hi
      obtain ⟨n1, n2, n3⟩ := cn.at hi' h1
      have hf : sc.names.lookup y = some .free := by
        rcases h3 with z | z
        · exfalso
          have z' : (relabel sc X.env).names.lookup y = some .local := z
          rw [rl y] at z'
          cases e : sc.names.lookup y with
          | none => rw [e] at z'; simp at z'
          | some k =>
            rw [e] at z'
            cases k with
            | «local» => exact n1 e
            | cell => exact n2 e
            | free =>
              simp only [Option.map_some, Option.some.injEq] at z'
              split at z' <;> cases z'
            | _ => simp at z'
        · exact isFree y z
      have hN : X.N[i]? = some y := by rw [hXN]; exact n3 hf
      obtain ⟨m, hn, hl⟩ := I3.loc
      have hv : fsc.names.lookup y = some .cell ∨ fsc.names.lookup y = some .free := cn.fr (y, .free) (PySem.mem_of_lookup hf) rfl
      have hv' : X.env.scope.names.lookup y = some .cell ∨ X.env.scope.names.lookup y = some .free := by rw [hE]; exact hv
      obtain ⟨u, ru, lk⟩ := hl i y v hN h2 (.inr hv')
      refine ⟨u, ru, .inr ⟨?_, ?_⟩⟩
      · show (relabel sc X.env).names.lookup y = some .cell ∨ (relabel sc X.env).names.lookup y = some .free
        rw [rl y, hf]
        simp only [Option.map_some, Option.some.injEq]
        split
        · exact .inl rfl
        · exact .inr rfl
      · rcases lk with ⟨kl, _⟩ | ⟨_, c, hc, hcell⟩
        · exfalso
          have kl' : X.env.scope.names.lookup y = some .local := kl
          rw [kl'] at hv'
          rcases hv' with z | z <;> cases z
        · obtain ⟨d, hd⟩ := freeOf y hf
          have ed := clS y d hd
          rw [hc] at ed
          cases ed
          exact ⟨c, hd, hcell.keeps old⟩
    · obtain ⟨v, q⟩ := I3.cell y c (clS y c e)
      exact ⟨v, q.keeps old⟩
    · show (σ ++ [none]).length = Nc.length
      rw [List.length_append, hlen, cn.len]
      rfl
  have stc : tn 0 ({ s3 with heap := h₁, toks := s3.toks } : Shared).heap := T.keep _ _ _ st2 fun b _ o e => old b o (old2 b o e)
  have hDf : s2.heap.objs.size ∉ fp := fun hm => by
    obtain ⟨o, e, _⟩ := T.obj _ _ st2 _ hm
    exact Nat.lt_irrefl _ (Heap.lt_size e)
  have fpc : ∀ {pins' : List (Addr × Obj)} {H' : Hp}, pins' = [] → (∀ b ∈ fp, H' b = none) → ∀ b ∈ fp, FpOk (X.inComp Nc sc cl s3 H3 fp) pins' H' b := fun {pins' H'} hp hn b hb => by
    subst hp
    exact ⟨hn b hb, (exOk b hb).1, (exOk b hb).2.2, .inl hb, fun y c e => (exOk b hb).2.1 y c (clS y c e), fun p hp => absurd (show p ∈ ([] : List (Addr × Obj)) from hp) (by simp)⟩
  have hg : PG (X.inComp Nc sc cl s3 H3 fp) (.Name x px) (gName σ.length) := pg_name (X := X.inComp Nc sc cl s3 H3 fp) cn.nd (by show Nc[σ.length]? = some x; rw [hlen]; exact cn.last) (.inl ownLoc) (.inr ownLoc)
  have loop : ∀ s₄ : Shared, s₄ = { s3 with heap := h₁, toks := s3.toks } →
      codeAny (model X.prog X.w) X.A (.compLoop (.ListComp elt [⟨.Name x px, iter, ifs, 0⟩] sc pos) 0 (.ref it) (.ref s2.heap.objs.size) (compEnvC sc cl s3.heap.objs.size X.env))
        (fun r s' => r = .ok .next ∧ ∃ D H', (Value.ref s2.heap.objs.size) = .ref D ∧ Inv X pins σ H' s' ∧ Q (.ref D) H' ∧ CLoc X pins H' s3.heap.objs.size ∧ ∃ m, s'.heap.Ns s3.heap.objs.size m) s₄ := by
    rintro s₄ rfl
    refine codeAny_compLoop_tests (fun n s' => ∃ (i : Nat) (o : Option V) (H' : Hp) (ys : List V), Inv (X.inComp Nc sc cl s3 H3 fp) [] (σ ++ [o]) H' s' ∧ tn i s'.heap ∧ (∀ b ∈ fp, H' b = none) ∧ W i n ys H') ?_ m0 ⟨0, none, H3, [], Ic, stc, fpFree, w0⟩
    rintro n s' ⟨i, o, H', ys, I', st', fr', w'⟩
    obtain ⟨hDl, tw⟩ := turn i n ys H' w'
    rcases tw with ⟨stop, q⟩ | ⟨go, hz, step⟩
    ·
      refine thn (T.done (X.inComp Nc sc cl s3 H3 fp) rfl rfl rfl hc i [] s' _ H' _ I' (fpc rfl fr') st' stop) fun r s5 ⟨hr, I5⟩ => ?_
      subst hr
      have Ix : Inv X pins σ H' s5 := I3.call' (ch := fp) I5.os I5.base I5.hok I5.bare fun b hb => by
        obtain ⟨g0, g1, g2, g3, g4, g5⟩ := f2 b hb
        exact ⟨g3, g1, g4, g5⟩
      have hCf : H' s3.heap.objs.size = none := I5.free
      obtain ⟨m, hn, _⟩ := I5.loc
      exact ⟨rfl, s2.heap.objs.size, H', rfl, Ix, q, ⟨hCf, fun z => Nat.lt_irrefl _ (by have := I3.lt; rw [← z] at this; exact this), hCnew, hCcell, hCpin⟩, m, hn⟩
    ·
      refine thn (T.item (X.inComp Nc sc cl s3 H3 fp) rfl rfl rfl hc i [] s' _ H' _ I' (fpc rfl fr') st' go) fun r s5 ⟨u, hr, h4⟩ => ?_
      subst hr
      dsimp only
      have e0 : letOwnedTupleGo (.Name x px) (.ref it) u = pure () := rfl
      have e1 : (letOwnedTupleGo (.Name x px) (.ref it) u >>= fun _ => assign (.Name x px) (compEnvC sc cl s3.heap.objs.size X.env) u) = assign (.Name x px) (compEnvC sc cl s3.heap.objs.size X.env) u := by rw [e0, pure_bind]
      rw [← e1]
      refine wpAny_bind (thn h4 fun _ s6 ⟨xv, H5, I5, r5, y5, st5, fr5⟩ => ?_)
      have I5' := I5.pinned (fpc rfl fr5) (T.obj _ _ st5)
      have again : ∀ {H7 : Hp} {s7 : Shared} {m' : Nat} {ys' : List V}, Inv (X.inComp Nc sc cl s3 H3 fp) ([] ++ pinsAt fp s6.heap) (σ ++ [some xv]) H7 s7 → m' < n → W (i + 1) m' ys' H7 →
          ∃ m, m < n ∧ ∃ (i : Nat) (o : Option V) (H' : Hp) (ys : List V), Inv (X.inComp Nc sc cl s3 H3 fp) [] (σ ++ [o]) H' s7 ∧ tn i s7.heap ∧ (∀ b ∈ fp, H' b = none) ∧ W i m ys H' := fun {H7 s7 m' ys'} I7 hm w7 => by
        refine ⟨m', hm, i + 1, some xv, H7, ys', I7.unpinned, T.keep _ _ _ st5 fun b hb o e => (I7.pin (b, o) (List.mem_append_right _ (List.mem_append_right _ (mem_pinsAt hb e)))).1, fun b hb => ?_, w7⟩
        obtain ⟨o', e, d⟩ := T.obj _ _ st5 b hb
        exact (I7.pin (b, o') (List.mem_append_right _ (List.mem_append_right _ (mem_pinsAt hb e)))).2.1
      refine thnF (hg _ s6 _ H5 xv u (fun σ' H'' => σ' = σ ++ [some xv] ∧ H'' = H5) I5' r5 ⟨set_last, rfl⟩) fun _ s7 ⟨σ7, H7, I7, e7, e7'⟩ => ?_
      subst e7
      subst e7'
      refine thnF (ht cl s3 H3 fp _ s7 _ _ _ I7 (step xv _ y5)) fun b s8 ⟨H8, I8, q8⟩ => ?_
      cases b with
      | false =>
        rw [if_neg Bool.false_ne_true] at q8 ⊢
        obtain ⟨m', hm, w8⟩ := q8
        exact again I8 hm w8
      | true =>
        rw [if_pos rfl] at q8 ⊢
        refine thnF (he cl s3 H3 fp _ s8 _ H8 _ I8 q8) fun y s9 ⟨yv, H9, I9, r9, hD9, m', hm, w9⟩ => ?_
        refine thnF (mt_append _ s9 _ H9 (.ref s2.heap.objs.size) [yv] (.ref s2.heap.objs.size) [y] (fun v H => v = .non ∧ H = upd H9 s2.heap.objs.size (.lst (ys ++ [yv]))) I9 rfl (.cons r9 .nil) ⟨_, ys, yv, rfl, rfl, hD9, hz, rfl, rfl⟩) fun _ s10 ⟨v10, H10, I10, r10, e10, e11⟩ => ?_
        subst e11
        exact again I10 hm w9
  exact codeAny_compStart_list (loop _ rfl) (T.self _ 0 _ _ _ stc (loop _ rfl))
theorem comp_has (I : ∀ y, (X.env.kindOf y = some .cell ∨ X.env.kindOf y = some .free) → ∃ c, X.env.cells.lookup y = some c) (hE : X.env.scope = fsc) (cn : CompN N Nc x sc fsc) : ∀ y ∈ sc.names, y.2 = .free → ∃ c, X.env.cells.lookup y.1 = some c := fun y hy hf => by
  refine I y.1 ?_
  show X.env.scope.names.lookup y.1 = some .cell ∨ X.env.scope.names.lookup y.1 = some .free
  rw [hE]
  exact cn.fr y hy hf
theorem pe_comp (hE : X.env.scope = fsc) (hXN : X.N = N) (cn : CompN N Nc x sc fsc) (hc : X.calm = true) (hi : PI X (.Name x px) iter wi)
    (ht : ∀ cl s H ex, PIfs (X.inComp Nc sc cl s H ex) ifs tt) (he : ∀ cl s H ex, PE (X.inComp Nc sc cl s H ex) elt te)
    (hs : ∀ v, foldedSetIterable iter X.env v = pure v := by intro _; rfl) : PE X (.ListComp elt [⟨.Name x px, iter, ifs, 0⟩] sc pos) (tComp wi tt te) := by
  intro pins s σ H Q I h
  obtain ⟨cl, hcl, clS, clH⟩ := closure_ok (env := X.env) (sc := sc) (comp_has I.ok.has hE cn)
  rw [eval_ListComp]
  refine wpAny_comprehension_free (use := none) rfl hs hcl cn.kind cn.nm (thn (hi pins s σ H _ I h) fun v s1 h1 => thn h1 fun itv s2 h2 => ?_)
  obtain ⟨it, fp, tn, J, H2, rfl, I2, T, st2, f2, h2⟩ := h2
  refine thn (comp_core (pos := pos) (iter := iter) hE hXN cn hc ht he clS clH I2 T st2 f2 h2) fun acc s3 h3 => thn h3 fun cenv s4 h4 => codeAny_mono h4 fun r s' h5 => ?_
  obtain ⟨rfl, D, H', rfl, I', q, cloc, m, hn⟩ := h5
  exact ⟨m, hn, fun h' k => ⟨.ref D, H', I'.sameBut cloc k, rfl, q⟩⟩
theorem ps_setC {j : Nat} {y : Str} {py spos : Pos} (hE : X.env.scope = fsc) (hXN : X.N = N) (cn : CompN N Nc x sc fsc) (hc : X.calm = true) (hnd : X.N.Nodup) (hj : X.N[j]? = some y) (hy : X.env.scope.names.lookup y = some .local) (hi : PI X (.Name x px) iter wi)
    (ht : ∀ cl s H ex, PIfs (X.inComp Nc sc cl s H ex) ifs tt) (he : ∀ cl s H ex, PE (X.inComp Nc sc cl s H ex) elt te)
    (hsw : swapsWith (.ListComp elt [⟨.Name x px, iter, ifs, 0⟩] sc pos) (some (.Name y py)) spos.line X.env = pure true)
    (hs : ∀ v, foldedSetIterable iter X.env v = pure v := by intro _; rfl) : PS X (.Assign [.Name y py] (.ListComp elt [⟨.Name x px, iter, ifs, 0⟩] sc pos) spos) (tAsg (tComp wi tt te) (gName j)) := by
  intro pins s σ H D I h
  obtain ⟨cl, hcl, clS, clH⟩ := closure_ok (env := X.env) (sc := sc) (comp_has I.ok.has hE cn)
  rw [exec_Assign_Name_used _ _ _ _ hsw]
  refine wpAny_bind (wpAny_standAt (wpAny_bind ?_))
  show wpAny _ X.A (do let _ ← comprehension (.ListComp elt [⟨.Name x px, iter, ifs, 0⟩] sc pos) sc X.env _ (newList []) false (eval iter X.env) (some (assign (.Name y py) X.env))) _ _ s
  refine wpAny_bind (thn (wpAny_comprehension_free (Q := fun _ s' => SP X pins D .next s') rfl hs hcl cn.kind cn.nm (thn (hi pins s σ H _ I h) fun v s1 h1 => thn h1 fun itv s2 h2 => ?_)) fun _ s' hq => wpAny_pure (wpAny_pure hq))
  obtain ⟨it, fp, tn, J, H2, rfl, I2, T, st2, f2, h2⟩ := h2
  refine thn (comp_core (pos := pos) (iter := iter) (Q := fun x H1 => gName j x σ H1 D.nx) hE hXN cn hc ht he clS clH I2 T st2 f2 h2) fun acc s3 h3 => thn h3 fun cenv s4 h4 => codeAny_mono h4 fun r s' h5 => ?_
  obtain ⟨rfl, D', H', rfl, I', q, cloc, m, hn⟩ := h5
  refine wpAny_assign_Name (store_ok2 (v := .ref D') I' hnd hj (.inl hy) rfl (fun s6 I6 sb => ?_) (.inr hy))
  obtain ⟨a, k, ha⟩ := sb
  refine ⟨m, hn.sameBut k (fun z => ?_), fun h' k' => ⟨_, H', I6.sameBut cloc k', q⟩⟩
  rcases ha with ha | ha
  · exact cloc.ne (z.trans ha)
  · exact cloc.cells _ _ ha z.symm
end
theorem comp_range {lo : Int} {n : Nat} {tt : TT} {te : TE} {σ : St} {H1 : Hp} {Q : Addr → Hp → Prop} (hn : n ≤ sizeLine) (Pv : Addr → Nat → List V → Hp → Prop)
    (h0 : ∀ D, H1 D = none → Pv D 0 [] (upd H1 D (.lst []))) (hD : ∀ D i ys H, Pv D i ys H → H D = some (.lst ys) ∧ ys.length ≤ i)
    (hs : ∀ D i ys H (K1 : VK) (K2 : Hp → Prop), H1 D = none → i < n → Pv D i ys H → (∀ y H5, H5 D = some (.lst ys) → Pv D (i + 1) (ys ++ [y]) (upd H5 D (.lst (ys ++ [y]))) → K1 y H5) → (∀ H4, Pv D (i + 1) ys H4 → K2 H4) →
      tt (σ ++ [some (.int (lo + i))]) H fun b H4 => if b = true then te (σ ++ [some (.int (lo + i))]) H4 K1 else K2 H4)
    (hd : ∀ D ys H, H1 D = none → Pv D n ys H → Q D H) :
    ∀ D, H1 D = none → ∃ W : Nat → Nat → List V → Hp → Prop, (∃ m, W 0 m [] (upd H1 D (.lst []))) ∧ ∀ i m ys H2, W i m ys H2 →
      H2 D = some (.lst ys) ∧ (((Itr lo n).stop i H2 ∧ Q D H2) ∨ ((Itr lo n).go i H2 ∧ ys.length < sizeLine ∧ ∀ x H3, (Itr lo n).yld i H2 x H3 → tt (σ ++ [some x]) H3 fun b H4 => if b = true then te (σ ++ [some x]) H4 fun y H5 => H5 D = some (.lst ys) ∧ ∃ m', m' < m ∧ W (i + 1) m' (ys ++ [y]) (upd H5 D (.lst (ys ++ [y])))
        else ∃ m', m' < m ∧ W (i + 1) m' ys H4)) := by
  intro D hDn
  refine ⟨fun i m ys H => m = n - i ∧ i ≤ n ∧ Pv D i ys H, ⟨n, rfl, Nat.zero_le _, h0 D hDn⟩, ?_⟩
  rintro i m ys H2 ⟨rfl, hi, p⟩
  obtain ⟨e, l⟩ := hD D i ys H2 p
  refine ⟨e, ?_⟩
  by_cases hlt : i < n
  · refine .inr ⟨hlt, Nat.lt_of_le_of_lt l (Nat.lt_of_lt_of_le hlt hn), fun x H3 y => ?_⟩
    obtain ⟨e1, e2⟩ := y
    subst e1 e2
    exact hs D i ys _ _ _ hDn hlt p (fun y H5 h5 p5 => ⟨h5, n - (i + 1), by omega, rfl, hlt, p5⟩) fun H4 p4 => ⟨n - (i + 1), by omega, rfl, hlt, p4⟩
  · have ei : i = n := by omega
    subst ei
    exact .inl ⟨Nat.le_refl _, hd D ys H2 hDn p⟩
theorem comp_list {K : PySem.W.Frag} {a : Addr} {xs : List V} {tt : TT} {te : TE} {σ : St} {H1 : Hp} {Q : Addr → Hp → Prop} (hn : xs.length ≤ sizeLine) (Pv : Addr → Nat → List V → Hp → Prop)
    (h0 : ∀ D, H1 D = none → Pv D 0 [] (upd H1 D (.lst []))) (hD : ∀ D i ys H, Pv D i ys H → H D = some (.lst ys) ∧ ys.length ≤ i) (hl : ∀ D i ys H, H1 D = none → Pv D i ys H → SqL K H a xs)
    (hs : ∀ D i x ys H (K1 : VK) (K2 : Hp → Prop), H1 D = none → xs[i]? = some x → Pv D i ys H → (∀ y H5, H5 D = some (.lst ys) → Pv D (i + 1) (ys ++ [y]) (upd H5 D (.lst (ys ++ [y]))) → K1 y H5) → (∀ H4, Pv D (i + 1) ys H4 → K2 H4) →
      tt (σ ++ [some x]) H fun b H4 => if b = true then te (σ ++ [some x]) H4 K1 else K2 H4)
    (hd : ∀ D ys H, H1 D = none → Pv D xs.length ys H → Q D H) :
    ∀ D, H1 D = none → ∃ W : Nat → Nat → List V → Hp → Prop, (∃ m, W 0 m [] (upd H1 D (.lst []))) ∧ ∀ i m ys H2, W i m ys H2 →
      H2 D = some (.lst ys) ∧ (((Itl K a).stop i H2 ∧ Q D H2) ∨ ((Itl K a).go i H2 ∧ ys.length < sizeLine ∧ ∀ x H3, (Itl K a).yld i H2 x H3 → tt (σ ++ [some x]) H3 fun b H4 => if b = true then te (σ ++ [some x]) H4 fun y H5 => H5 D = some (.lst ys) ∧ ∃ m', m' < m ∧ W (i + 1) m' (ys ++ [y]) (upd H5 D (.lst (ys ++ [y])))
        else ∃ m', m' < m ∧ W (i + 1) m' ys H4)) := by
  intro D hDn
  refine ⟨fun i m ys H => m = xs.length - i ∧ i ≤ xs.length ∧ Pv D i ys H, ⟨xs.length, rfl, Nat.zero_le _, h0 D hDn⟩, ?_⟩
  rintro i m ys H2 ⟨rfl, hi, p⟩
  obtain ⟨e, l⟩ := hD D i ys H2 p
  have q := hl D i ys H2 hDn p
  refine ⟨e, ?_⟩
  by_cases hlt : i < xs.length
  · refine .inr ⟨⟨xs, xs[i], q, by simp [hlt]⟩, Nat.lt_of_le_of_lt l (Nat.lt_of_lt_of_le hlt hn), fun x H3 y => ?_⟩
    obtain ⟨e1, y⟩ := y
    subst e1
    exact hs D i x ys _ _ _ hDn (y xs q) p (fun y H5 h5 p5 => ⟨h5, xs.length - (i + 1), by omega, rfl, hlt, p5⟩) fun H4 p4 => ⟨xs.length - (i + 1), by omega, rfl, hlt, p4⟩
  · have ei : i = xs.length := by omega
    subst ei
    exact .inl ⟨⟨xs, q, Nat.le_refl _⟩, hd D ys H2 hDn p⟩
section
variable {X : Cx}
theorem ix_listK (K : PySem.W.Frag) (h : X.K = K := by rfl) : IxR X (rIxL K) := by subst h; exact ix_list
theorem ix_tupK (K : PySem.W.Frag) (h : X.K = K := by rfl) : IxR X (rIxT K) := by subst h; exact ix_tup
theorem op_in_seqK (K : PySem.W.Frag) (h : X.K = K := by rfl) : OpR X (compareOp .In) (rIn K false) := by subst h; exact op_in_seq
theorem op_notIn_seqK (K : PySem.W.Frag) (h : X.K = K := by rfl) : OpR X (compareOp .NotIn) (rIn K true) := by subst h; exact op_notIn_seq
end
end L2
namespace L2
open PySem PySem.Spec PyProof.Rows
section
variable {X : Cx}
theorem call_sum (hc : X.calm = true) : CallR X (.builtin "sum") (fun xs H Q => ∃ (p : Addr) (ns : List Int), xs = [.ref p] ∧ SqL X.K H p (ns.map V.int) ∧ Q (.int ns.sum) H) := by
  intro pins s σ H xs us Q I rv h
  obtain ⟨p, ns, rfl, hS, q⟩ := h
  obtain ⟨u, rfl, r⟩ := vals1 rv
  cases r
  obtain ⟨its, rv, pl, hz⟩ := I.list hS
  have hi := intsAre_of rv
  obtain ⟨xs, e⟩ := hi.allInts.items
  have en : xs.toList.map (·.1) = ns := by
    have := nums_intItems xs
    rw [← e, show its.toArray.toList = its from rfl, hi.numsOf] at this
    exact this.symm
  refine sum_intListG (I.ok.hd hc) (by rw [← e]; exact pl.isList) fun h' tk t' hk => ?_
  rw [preSum_eq, List.take_of_length_le (by simp), en]
  exact ⟨.int ns.sum, H, I.kept hk, ⟨_, rfl⟩, q⟩
theorem mt_bits : MtR X "int.bit_length" (fun x xs H Q => ∃ i : Int, x = .int i ∧ xs = [] ∧ Q (.int (Builtin.Int.intBits i : Nat)) H) := by
  intro pins s σ H x xs v us Q I rx rv h
  obtain ⟨i, rfl, rfl, q⟩ := h
  obtain ⟨t, rfl⟩ := rx
  cases rv
  exact call_int_bit_length ⟨.int _, H, I.tok _, ⟨_, rfl⟩, q⟩
end
end L2
namespace L2
open PySem PySem.Spec PyProof.Rows
section
variable {M : Model} {A : Around} {E : Value → Shared → Prop} {s : Shared} {env : Env} {outer : List Env} {L e : Addr} {base : Heap}
end
end L2
namespace L2
open PySem PySem.Spec PyProof.Rows
section
variable {X : Cx} {pins : List (Addr × Obj)} {σ : St} {H : Hp} {s : Shared} {e : Addr} {cls : Value} {od : Option Addr}
end
section
variable {X : Cx} {pins : List (Addr × Obj)} {σ : St} {H : Hp} {s s' : Shared} {E : XK} {ev : Value}
end
section
variable {X : Cx} {W : St → XK} {k : Nat} {f : Addr} {fd : FuncData} {ps : List Str} {sp : Sp} {dvs : List V} {ds : List Value} {x : Str} {p pos : Pos} {e : Expr} {es : List Expr} {t : TA}
end
end L2
namespace L2
open PySem PySem.Spec PyProof.Rows
section
variable {X : Cx} {W : St → XK} {C : Addr} {x : Str} {p cpos pos : Pos} {e : Expr} {es : List Expr} {t : TA}
end
section
variable {X : Cx} {pins : List (Addr × Obj)} {σ : St} {H : Hp} {s : Shared} {e : Addr} {cls : Value} {od : Option Addr}
end
section
variable {X : Cx} {pins : List (Addr × Obj)} {σ : St} {H : Hp} {s : Shared} {e C : Addr} {cls : Value} {od : Option Addr} {x n : Str} {i : Nat} {np pos : Pos} {b₀ : Stmt} {suite : List Stmt} {rest : List ExceptHandler} {ts : TS} {tr : TH}
end
end L2
namespace L2
open PySem PySem.Spec PyProof.Rows
section
variable {prog : Program} {w : World} {A : Around} {E : Value → Shared → Prop} {s : Shared} {K : PySem.W.Frag} {a C : Addr} {o : Obj} {od : Option Obj} {name : Str} {tk : Tok}
end
section
variable {X : Cx}
end
end L2
namespace L2
open PySem PySem.Spec PyProof.Rows
section
variable {X : Cx}
theorem op_notB : OpR X (compareOp .IsNot) (fun x y H Q => ∃ a b, x = .bl a ∧ y = .bl b ∧ Q (.bl (!decide (a = b))) H) := by
  intro pins s σ H x y v u Q I rx ry h
  obtain ⟨a, b, rfl, rfl, q⟩ := h
  cases rx
  cases ry
  have e : (Value.bool a == Value.bool b) = decide (a = b) := by cases a <;> cases b <;> rfl
  refine wpAny_pure ⟨.bl (!decide (a = b)), H, I, ?_, q⟩
  show Value.bool (!(Value.bool a == Value.bool b)) = Value.bool (!decide (a = b))
  rw [e]
end
section
variable {K : PySem.W.Frag} {H H' : Hp} {x : V} {b : Bool}
end
section
variable {K : PySem.W.Frag} {A B : Addr}
end
end L2
namespace L2
open PySem PySem.Spec PyProof.Rows
end L2
namespace L2
open PySem PySem.Spec PyProof.Rows
section
variable {prog : Program} {w : World} {A : Around} {E : Value → Shared → Prop} {s : Shared} {K : PySem.W.Frag} {C P f x : Addr} {ox : Obj} {od : Option Obj} {name : Str} {v : Value}
end
end L2
namespace L2
open PySem PySem.Spec PyProof.Rows
section
variable {prog : Program} {w : World} {A : Around} {E : Value → Shared → Prop} {h : Heap} {g : Array GenState} {d : Drawn} {t : Nat} {os : OsState}
variable {nm q : Str} {C N : Addr} {bs bm : List Value} {hd : Bool} {sn : List Str} {sub : List Value} {ab : Bool} {col : Option Bool} {dd : Option Addr} {k0 k1 k2 k3 k5 : Option Value}
end
section
variable {X : Cx} {W : St → XK} {C P fi : Addr} {k : Nat} {fd : FuncData} {ps ns : List Str} {x : Str} {p cpos pos : Pos} {e : Expr} {es : List Expr} {t : TA}
end
end L2
namespace L2
open PySem PySem.Spec PyProof.Rows
mutual
inductive Rep (K : PySem.W.Frag) (H : Hp) : V → PyData → Prop
  | non : Rep K H .non .none
  | bl (b : Bool) : Rep K H (.bl b) (.bool b)
  | int (i : Int) : Rep K H (.int i) (.int i)
  | str (x : Str) : Rep K H (.str x) (.str x)
  | lst {a : Addr} {xs : List V} {ds : List PyData} : SqL K H a xs → Reps K H xs ds → Rep K H (.ref a) (.list ds)
  | tup {a : Addr} {xs : List V} {ds : List PyData} : SqT K H a xs → Reps K H xs ds → Rep K H (.ref a) (.tuple ds)
inductive Reps (K : PySem.W.Frag) (H : Hp) : List V → List PyData → Prop
  | nil : Reps K H [] []
  | cons {x : V} {xs : List V} {d : PyData} {ds : List PyData} : Rep K H x d → Reps K H xs ds → Reps K H (x :: xs) (d :: ds)
end
section
variable {K : PySem.W.Frag} {H H' : Hp}
mutual
theorem Rep.same (e : Same H H') : ∀ {x : V} {d : PyData}, Rep K H x d → Rep K H' x d
  | _, _, .non => .non
  | _, _, .bl b => .bl b
  | _, _, .int i => .int i
  | _, _, .str x => .str x
  | _, _, .lst h r => .lst (e.seq h) (Reps.same e r)
  | _, _, .tup h r => .tup (by
      rcases h with (h | ⟨o, h⟩) | h
      · exact .inl (.inl (e _ _ h))
      · exact .inl (.inr ⟨o, e _ _ h⟩)
      · exact .inr h) (Reps.same e r)
theorem Reps.same (e : Same H H') : ∀ {xs : List V} {ds : List PyData}, Reps K H xs ds → Reps K H' xs ds
  | _, _, .nil => .nil
  | _, _, .cons r t => .cons (Rep.same e r) (Reps.same e t)
end
theorem Reps.ints : ∀ (ns : List Int), Reps K H (ns.map V.int) (ns.map PyData.int)
  | [] => .nil
  | n :: ns => .cons (.int n) (Reps.ints ns)
end
section
variable {X : Cx} {pins : List (Addr × Obj)} {σ : St} {H : Hp} {s : Shared}
mutual
theorem Inv.reads (I : Inv X pins σ H s) : ∀ {x : V} {d : PyData}, Rep X.K H x d → ∀ {v : Value}, RelV x v → ∃ as, Reads s.heap v d as
  | _, _, .non, v, r => by cases (show v = Value.none from r); exact ⟨_, .none⟩
  | _, _, .bl b, v, r => by cases (show v = Value.bool b from r); exact ⟨_, .bool b⟩
  | _, _, .int i, v, r => by obtain ⟨t, e⟩ := (show ∃ t, v = Value.int i t from r); cases e; exact ⟨_, .int i t⟩
  | _, _, .str x, v, r => by obtain ⟨t, e⟩ := (show ∃ t, v = Value.str x t from r); cases e; exact ⟨_, .str x t⟩
  | _, _, .lst (a := a) h rs, v, r => by
    cases (show v = Value.ref a from r)
    obtain ⟨its, rv, ⟨o, n, e1, e2, _, e4⟩, _⟩ := I.list h
    obtain ⟨as, q⟩ := Inv.readsAll I rs rv
    exact ⟨_, .list e1 e2 e4 q⟩
  | _, _, .tup (a := a) h rs, v, r => by
    cases (show v = Value.ref a from r)
    obtain ⟨its, rv, ⟨o, e1, e2, n, e4⟩, _⟩ := I.tuple h
    obtain ⟨as, q⟩ := Inv.readsAll I rs rv
    exact ⟨_, .tuple e1 e2 e4 q⟩
theorem Inv.readsAll (I : Inv X pins σ H s) : ∀ {xs : List V} {ds : List PyData}, Reps X.K H xs ds → ∀ {vs : List Value}, Vals xs vs → ∃ as, ReadsAll s.heap vs ds as
  | _, _, .nil, _, .nil => ⟨_, .nil⟩
  | _, _, .cons r t, _, .cons q u => by
    obtain ⟨a1, h1⟩ := Inv.reads I r q
    obtain ⟨a2, h2⟩ := Inv.readsAll I t u
    exact ⟨_, .cons h1 h2⟩
end
def rEqD (K : PySem.W.Frag) : R2 := fun x y H Q => ∃ d e, Rep K H x d ∧ Rep K H y e ∧ PySem.SeqAt.shaped d = true ∧ PySem.SeqAt.shaped e = true ∧ Q (.bl (PyData.eqv d e)) H
def rNeD (K : PySem.W.Frag) : R2 := fun x y H Q => ∃ d e, Rep K H x d ∧ Rep K H y e ∧ PySem.SeqAt.shaped d = true ∧ PySem.SeqAt.shaped e = true ∧ Q (.bl (!PyData.eqv d e)) H
theorem op_eqD {K : PySem.W.Frag} (hu : X.A.units + 64 < cLine) (hK : X.K = K := by rfl) : OpR X (compareOp .Eq) (rEqD K) := by
  subst hK
  intro pins s σ H x y v u Q I rx ry h
  obtain ⟨d, e, hx, hy, s1, s2, q⟩ := h
  obtain ⟨as, r1⟩ := I.reads hx rx
  obtain ⟨bs, r2⟩ := I.reads hy ry
  exact eq_dataH r1 r2 s1 s2 hu ⟨.bl _, H, I, rfl, q⟩
theorem op_neD {K : PySem.W.Frag} (hu : X.A.units + 64 < cLine) (hK : X.K = K := by rfl) : OpR X (compareOp .NotEq) (rNeD K) := by
  subst hK
  intro pins s σ H x y v u Q I rx ry h
  obtain ⟨d, e, hx, hy, s1, s2, q⟩ := h
  obtain ⟨as, r1⟩ := I.reads hx rx
  obtain ⟨bs, r2⟩ := I.reads hy ry
  exact ne_dataH r1 r2 s1 s2 hu ⟨.bl _, H, I, rfl, q⟩
end
end L2
namespace L2
open PySem PySem.W PySem.Spec PyProof.Rows
section
variable {O : KeyOrd} {ky : Nat → O.α} {n : Nat} {cmp : Nat → Nat → (Bool → Shared → Prop) → Shared → Prop} {J : Shared → Prop}
def kk (ky : Nat → O.α) (p : Array Nat) (i : Nat) : O.α := ky (p.getD i 0)
def Srt (ky : Nat → O.α) (p : Array Nat) (m : Nat) : Prop := ∀ i j, i ≤ j → j < m → O.kle (kk ky p i) (kk ky p j)
def Fal (ky : Nat → O.α) (p : Array Nat) (m : Nat) : Prop := ∀ i j, i ≤ j → j < m → O.kle (kk ky p j) (kk ky p i)
def Prm (n : Nat) (p : Array Nat) : Prop := p.toList.Perm (List.range n)
def Asks (O : KeyOrd) (ky : Nat → O.α) (n : Nat) (cmp : Nat → Nat → (Bool → Shared → Prop) → Shared → Prop) (J : Shared → Prop) : Prop :=
  ∀ i j (C : Bool → Shared → Prop) s, i < n → j < n → J s → (∀ s', J s' → C (O.blt (ky i) (ky j)) s') → cmp i j C s
theorem Prm.size {p : Array Nat} (h : Prm n p) : p.size = n := by
  have := h.length_eq
  rw [List.length_range] at this
  exact this
theorem Prm.lt {p : Array Nat} (h : Prm n p) {k : Nat} (hk : k < n) : p.getD k 0 < n := by
  have hz := h.size
  have e : p.getD k 0 = p[k]'(by omega) := by simp [Array.getD, hz, hk]
  rw [e]
  exact List.mem_range.mp (h.mem_iff.mp (by simp))
theorem Prm.rev {p : Array Nat} (h : Prm n p) (i j : Nat) : Prm n (kas_rev p i j) := (mirror_perm p i j _).toList.trans h
theorem Prm.bub {p : Array Nat} (h : Prm n p) (k d : Nat) : Prm n (bubble p k d) := (bubble_perm p k d).toList.trans h
theorem getD_of {p q : Array Nat} {i j : Nat} (e : p[i]? = q[j]?) : p.getD i 0 = q.getD j 0 := by
  rw [Array.getD_eq_getD_getElem?, Array.getD_eq_getD_getElem?, e]
theorem kk_rev {p : Array Nat} {i j : Nat} (hj : j ≤ p.size) (k : Nat) : kk ky (kas_rev p i j) k = if i ≤ k ∧ k < j then kk ky p (i + j - 1 - k) else kk ky p k := by
  have e := getElem?_mirror_all (xs := p) (i := i) hj k
  unfold kk kas_rev
  by_cases c : i ≤ k ∧ k < j
  · rw [if_pos c] at e ⊢
    rw [getD_of e]
  · rw [if_neg c] at e ⊢
    rw [getD_of e]
theorem kk_bub {p : Array Nat} {src d : Nat} (hs : src < p.size) (hd : d ≤ src) (k : Nat) :
    kk ky (bubble p src d) k = if k = src - d then kk ky p src else if src - d < k ∧ k ≤ src then kk ky p (k - 1) else kk ky p k := by
  have e := getElem?_bubble hs d hd k
  unfold kk
  by_cases c : k = src - d
  · rw [if_pos c] at e ⊢
    rw [getD_of e]
  · rw [if_neg c] at e ⊢
    by_cases c2 : src - d < k ∧ k ≤ src
    · rw [if_pos c2] at e ⊢
      rw [getD_of e]
    · rw [if_neg c2] at e ⊢
      rw [getD_of e]
theorem Srt.succ {p : Array Nat} {m : Nat} (h : Srt ky p m) (h1 : 1 ≤ m) (c : O.kle (kk ky p (m - 1)) (kk ky p m)) : Srt ky p (m + 1) := fun i j hij hj => by
  by_cases e : j = m
  · subst e
    by_cases e2 : i = j
    · subst e2
      exact KeyOrd.kle_refl _
    · exact KeyOrd.kle_trans (h i (j - 1) (by omega) (by omega)) c
  · exact h i j hij (by omega)
theorem Fal.succ {p : Array Nat} {m : Nat} (h : Fal ky p m) (h1 : 1 ≤ m) (c : O.kle (kk ky p m) (kk ky p (m - 1))) : Fal ky p (m + 1) := fun i j hij hj => by
  by_cases e : j = m
  · subst e
    by_cases e2 : i = j
    · subst e2
      exact KeyOrd.kle_refl _
    · exact KeyOrd.kle_trans c (h i (j - 1) (by omega) (by omega))
  · exact h i j hij (by omega)
theorem Srt.one {p : Array Nat} : Srt ky p 1 := fun i j hij hj => by
  have : i = j := by omega
  subst this
  exact KeyOrd.kle_refl _
theorem Fal.rev {p : Array Nat} {m : Nat} (hz : m ≤ p.size) (h : Fal ky p m) : Srt ky (kas_rev p 0 m) m := fun i j hij hj => by
  rw [kk_rev hz, kk_rev hz, if_pos ⟨Nat.zero_le _, by omega⟩, if_pos ⟨Nat.zero_le _, hj⟩]
  exact h _ _ (by omega) (by omega)
theorem Fal.revEq {p : Array Nat} {i j m : Nat} (hz : j ≤ p.size) (hm : j ≤ m) (h : Fal ky p m) (eq : ∀ a b, i ≤ a → a < j → i ≤ b → b < j → O.kle (kk ky p a) (kk ky p b)) : Fal ky (kas_rev p i j) m := fun a b hab hb => by
  rw [kk_rev hz, kk_rev hz]
  by_cases c1 : i ≤ a ∧ a < j
  · rw [if_pos c1]
    by_cases c2 : i ≤ b ∧ b < j
    · rw [if_pos c2]
      exact eq _ _ (by omega) (by omega) (by omega) (by omega)
    · rw [if_neg c2]
      exact h _ _ (by omega) hb
  · rw [if_neg c1]
    by_cases c2 : i ≤ b ∧ b < j
    · rw [if_pos c2]
      exact h _ _ (by omega) (by omega)
    · rw [if_neg c2]
      exact h _ _ hab hb
theorem asc_ok (ac : Asks O ky n cmp J) {p : Array Nat} (hp : Prm n p) {R : Nat → Shared → Prop} : ∀ (f a : Nat) (s : Shared), 1 ≤ a → a + f ≤ n → Srt ky p a → J s →
    (∀ m s', a ≤ m → m ≤ a + f → Srt ky p m → (m < a + f → O.klt (kk ky p m) (kk ky p (m - 1))) → J s' → R m s') → (kas_asc p f a).kasWp cmp R s
  | 0, a, s, h1, hz, hs, hJ, k => k a s (Nat.le_refl _) (Nat.le_refl _) hs (fun h => absurd h (Nat.lt_irrefl _)) hJ
  | f + 1, a, s, h1, hz, hs, hJ, k => by
    refine ac _ _ _ s (hp.lt (by omega)) (hp.lt (by omega)) hJ fun s' hJ' => ?_
    cases e : O.blt (ky (p.getD a 0)) (ky (p.getD (a - 1) 0)) with
    | true =>
      dsimp only
      rw [if_pos rfl]
      exact k a s' (Nat.le_refl _) (by omega) hs (fun _ => e) hJ'
    | false =>
      dsimp only
      rw [if_neg Bool.false_ne_true]
      refine asc_ok ac hp f (a + 1) s' (by omega) (by omega) (hs.succ h1 e) hJ' fun m s2 l1 l2 q1 q2 q3 => ?_
      exact k m s2 (by omega) (by omega) q1 (fun h => q2 (by omega)) q3
theorem desc_ok (ac : Asks O ky n cmp J) {R : Array Nat × Nat × Nat → Shared → Prop} : ∀ (f : Nat) (p : Array Nat) (m q : Nat) (s : Shared), Prm n p → q + 1 ≤ m → m + f ≤ n → Fal ky p m →
    (∀ a b, m - (q + 1) ≤ a → a < m → m - (q + 1) ≤ b → b < m → O.kle (kk ky p a) (kk ky p b)) → J s →
    (∀ p' m' q' s', Prm n p' → q' + 1 ≤ m' → m ≤ m' → m' ≤ m + f → Fal ky p' m' → (∀ a b, m' - (q' + 1) ≤ a → a < m' → m' - (q' + 1) ≤ b → b < m' → O.kle (kk ky p' a) (kk ky p' b)) → J s' → R (p', m', q') s') →
    (kas_desc f p m q).kasWp cmp R s
  | 0, p, m, q, s, hp, hq, hz, hf, he, hJ, k => k p m q s hp hq (Nat.le_refl _) (Nat.le_refl _) hf he hJ
  | f + 1, p, m, q, s, hp, hq, hz, hf, he, hJ, k => by
    have hsz := hp.size
    refine ac _ _ _ s (hp.lt (by omega)) (hp.lt (by omega)) hJ fun s' hJ' => ?_
    cases e : O.blt (ky (p.getD m 0)) (ky (p.getD (m - 1) 0)) with
    | true =>
      dsimp only
      rw [if_pos rfl]
      have hf' : Fal ky p (m + 1) := hf.succ (by omega) (KeyOrd.kle_of_klt e)
      have one : ∀ p' : Array Nat, ∀ a b, m + 1 - (0 + 1) ≤ a → a < m + 1 → m + 1 - (0 + 1) ≤ b → b < m + 1 → O.kle (kk ky p' a) (kk ky p' b) := fun p' a b _ _ _ _ => by
        have : a = b := by omega
        subst this
        exact KeyOrd.kle_refl _
      by_cases c : q > 0
      · rw [if_pos c]
        refine desc_ok ac f (kas_rev p (m - (q + 1)) m) (m + 1) 0 s' (hp.rev _ _) (by omega) (by omega) (hf'.revEq (by omega) (by omega) he) (one _) hJ' fun p' m' q' s2 a1 a2 a3 a4 a5 a6 a7 => ?_
        exact k p' m' q' s2 a1 a2 (by omega) (by omega) a5 a6 a7
      · rw [if_neg c]
        refine desc_ok ac f p (m + 1) 0 s' hp (by omega) (by omega) hf' (one _) hJ' fun p' m' q' s2 a1 a2 a3 a4 a5 a6 a7 => ?_
        exact k p' m' q' s2 a1 a2 (by omega) (by omega) a5 a6 a7
    | false =>
      dsimp only
      rw [if_neg Bool.false_ne_true]
      refine ac _ _ _ s' (hp.lt (by omega)) (hp.lt (by omega)) hJ' fun s2 hJ2 => ?_
      cases e2 : O.blt (ky (p.getD (m - 1) 0)) (ky (p.getD m 0)) with
      | true =>
        dsimp only
        rw [if_pos rfl]
        exact k p m q s2 hp hq (Nat.le_refl _) (by omega) hf he hJ2
      | false =>
        dsimp only
        rw [if_neg Bool.false_ne_true]
        have g1 : O.kle (kk ky p (m - 1)) (kk ky p m) := e
        have g2 : O.kle (kk ky p m) (kk ky p (m - 1)) := e2
        refine desc_ok ac f p (m + 1) (q + 1) s2 hp (by omega) (by omega) (hf.succ (by omega) g2) (fun a b a1 a2 b1 b2 => ?_) hJ2 fun p' m' q' s3 c1 c2 c3 c4 c5 c6 c7 => ?_
        · by_cases ea : a = m
          · by_cases eb : b = m
            · rw [ea, eb]
              exact KeyOrd.kle_refl _
            · rw [ea]
              exact KeyOrd.kle_trans g2 (he (m - 1) b (by omega) (by omega) (by omega) (by omega))
          · by_cases eb : b = m
            · rw [eb]
              exact KeyOrd.kle_trans (he a (m - 1) (by omega) (by omega) (by omega) (by omega)) g1
            · exact he a b (by omega) (by omega) (by omega) (by omega)
        · exact k p' m' q' s3 c1 c2 (by omega) (by omega) c5 c6 c7
theorem tail3_ok (ac : Asks O ky n cmp J) {p : Array Nat} (hp : Prm n p) {m nrem : Nat} {R : Nat × Array Nat → Shared → Prop} {s : Shared} (h1 : 1 ≤ m) (h2 : m ≤ nrem) (h3 : nrem ≤ n) (hf : Fal ky p m) (hJ : J s)
    (k : ∀ m' p' s', 1 ≤ m' → m' ≤ nrem → Prm n p' → Srt ky p' m' → J s' → R (m', p') s') : (kas_tail3 m nrem p).kasWp cmp R s := by
  have hsz := hp.size
  unfold kas_tail3
  rw [KasT.kasWp_bind]
  refine asc_ok ac (hp.rev 0 m) (nrem - m) m s h1 (by omega) (hf.rev (by omega)) hJ fun m' s' a1 a2 a3 _ a5 => ?_
  exact k m' _ s' (by omega) (by omega) (hp.rev _ _) a3 a5
theorem descPart_ok (ac : Asks O ky n cmp J) {p : Array Nat} (hp : Prm n p) {m nrem : Nat} {R : Nat × Array Nat → Shared → Prop} {s : Shared} (h2 : m + 1 ≤ nrem) (h3 : nrem ≤ n) (hf : Fal ky p (m + 1)) (hJ : J s)
    (k : ∀ m' p' s', 1 ≤ m' → m' ≤ nrem → Prm n p' → Srt ky p' m' → J s' → R (m', p') s') : (kas_descPart m nrem p).kasWp cmp R s := by
  unfold kas_descPart
  rw [KasT.kasWp_bind]
  refine desc_ok ac (nrem - (m + 1)) p (m + 1) 0 s hp (by omega) (by omega) hf (fun a b _ _ _ _ => ?_) hJ fun p' m' q' s' a1 a2 a3 a4 a5 a6 a7 => ?_
  · have : a = b := by omega
    subst this
    exact KeyOrd.kle_refl _
  · have hsz := a1.size
    dsimp only
    by_cases c : q' > 0
    · rw [if_pos c]
      exact tail3_ok ac (a1.rev _ _) (by omega) (by omega) h3 (a5.revEq (by omega) (Nat.le_refl _) a6) a7 k
    · rw [if_neg c]
      exact tail3_ok ac a1 (by omega) (by omega) h3 a5 a7 k
theorem count_ok (ac : Asks O ky n cmp J) {p : Array Nat} (hp : Prm n p) {R : Nat × Array Nat → Shared → Prop} {s : Shared} (h1 : 1 ≤ n) (hJ : J s)
    (k : ∀ m' p' s', 1 ≤ m' → m' ≤ n → Prm n p' → Srt ky p' m' → J s' → R (m', p') s') : (kas_count n p).kasWp cmp R s := by
  have hsz := hp.size
  unfold kas_count
  rw [KasT.kasWp_bind]
  refine asc_ok ac hp (n - 1) 1 s (Nat.le_refl _) (by omega) Srt.one hJ fun m s' a1 a2 a3 a4 a5 => ?_
  by_cases c : m = n
  · rw [if_pos (by simpa using c)]
    exact k m p s' a1 (by omega) hp a3 a5
  · rw [if_neg (by simpa using c)]
    have lt := a4 (by omega)
    by_cases c1 : m > 1
    · rw [if_pos c1]
      refine ac _ _ _ s' (hp.lt (by omega)) (hp.lt (by omega)) a5 fun s2 hJ2 => ?_
      cases e : O.blt (ky (p.getD 0 0)) (ky (p.getD (m - 1) 0)) with
      | true =>
        dsimp only
        rw [if_pos rfl]
        exact k m p s2 a1 (by omega) hp a3 hJ2
      | false =>
        dsimp only
        rw [if_neg Bool.false_ne_true]
        have g : O.kle (kk ky p (m - 1)) (kk ky p 0) := e
        have eq : ∀ a b, a < m → b < m → O.kle (kk ky p a) (kk ky p b) := fun a b ha hb =>
          KeyOrd.kle_trans (a3 a (m - 1) (by omega) (by omega)) (KeyOrd.kle_trans g (a3 0 b (by omega) hb))
        refine descPart_ok ac (hp.rev 0 m) (by omega) (Nat.le_refl _) ?_ hJ2 k
        intro i j hij hj
        rw [kk_rev (by omega), kk_rev (by omega)]
        by_cases cj : j < m
        · rw [if_pos ⟨Nat.zero_le _, cj⟩, if_pos ⟨Nat.zero_le _, by omega⟩]
          exact eq _ _ (by omega) (by omega)
        · have ej : j = m := by omega
          subst ej
          rw [if_neg (by omega)]
          by_cases ci : i < j
          · rw [if_pos ⟨Nat.zero_le _, ci⟩]
            exact KeyOrd.kle_trans (KeyOrd.kle_of_klt lt) (eq _ _ (by omega) (by omega))
          · rw [if_neg (by omega)]
            have : i = j := by omega
            subst this
            exact KeyOrd.kle_refl _
    · rw [if_neg c1]
      have em : m = 1 := by omega
      subst em
      refine descPart_ok ac hp (by omega) (Nat.le_refl _) ?_ a5 k
      have f1 : Fal ky p 1 := fun i j hij hj => by
        have : i = j := by omega
        subst this
        exact KeyOrd.kle_refl _
      exact f1.succ (Nat.le_refl _) (KeyOrd.kle_of_klt lt)
theorem place_ok (ac : Asks O ky n cmp J) {p : Array Nat} (hp : Prm n p) {t : Nat} (ht : t < n) {R : Nat → Shared → Prop} : ∀ (f l r : Nat) (s : Shared), l ≤ r → r ≤ t → r - l ≤ f → (∀ i, i < l → O.kle (kk ky p i) (kk ky p t)) → (∀ i, r ≤ i → i < t → O.klt (kk ky p t) (kk ky p i)) →
    Srt ky p t → J s → (∀ l' s', l' ≤ t → (∀ i, i < l' → O.kle (kk ky p i) (kk ky p t)) → (∀ i, l' ≤ i → i < t → O.klt (kk ky p t) (kk ky p i)) → J s' → R l' s') → (kas_place p t f l r).kasWp cmp R s
  | 0, l, r, s, h1, h2, h3, h4, h5, _, hJ, k => k l s (by omega) h4 (fun i a b => h5 i (by omega) b) hJ
  | f + 1, l, r, s, h1, h2, h3, h4, h5, hs, hJ, k => by
    unfold kas_place
    by_cases c : l ≥ r
    · rw [if_pos c]
      exact k l s (by omega) h4 (fun i a b => h5 i (by omega) b) hJ
    · rw [if_neg c]
      refine ac _ _ _ s (hp.lt ht) (hp.lt (by omega)) hJ fun s' hJ' => ?_
      cases e : O.blt (ky (p.getD t 0)) (ky (p.getD ((l + r) / 2) 0)) with
      | true =>
        dsimp only
        rw [if_pos rfl]
        have g : O.klt (kk ky p t) (kk ky p ((l + r) / 2)) := e
        exact place_ok ac hp ht f l ((l + r) / 2) s' (by omega) (by omega) (by omega) h4 (fun i a b => KeyOrd.klt_of_klt_of_kle g (hs _ _ a b)) hs hJ' k
      | false =>
        dsimp only
        rw [if_neg Bool.false_ne_true]
        have g : O.kle (kk ky p ((l + r) / 2)) (kk ky p t) := e
        exact place_ok ac hp ht f ((l + r) / 2 + 1) r s' (by omega) h2 (by omega) (fun i a => KeyOrd.kle_trans (hs i ((l + r) / 2) (by omega) (by omega)) g) h5 hs hJ' k
theorem bin_ok (ac : Asks O ky n cmp J) {R : Array Nat → Shared → Prop} : ∀ (f : Nat) (p : Array Nat) (t : Nat) (s : Shared), Prm n p → t + f = n → Srt ky p t → J s → (∀ p' s', Prm n p' → Srt ky p' n → J s' → R p' s') → (kas_bin f p t).kasWp cmp R s
  | 0, p, t, s, hp, hz, hs, hJ, k => k p s hp (by have : t = n := by omega
                                                  subst this; exact hs) hJ
  | f + 1, p, t, s, hp, hz, hs, hJ, k => by
    have hsz := hp.size
    unfold kas_bin
    rw [KasT.kasWp_bind]
    refine place_ok ac hp (by omega) t 0 t s (Nat.zero_le _) (Nat.le_refl _) (by omega) (fun i h => absurd h (Nat.not_lt_zero _)) (fun i a b => absurd b (by omega)) hs hJ fun l s' a1 a2 a3 hJ' => ?_
    refine bin_ok ac f (bubble p t (t - l)) (t + 1) s' (hp.bub _ _) (by omega) ?_ hJ' k
    intro i j hij hj
    have el : t - (t - l) = l := by omega
    rw [kk_bub (by omega) (by omega), kk_bub (by omega) (by omega), el]
    by_cases ci : i = l
    · rw [if_pos ci]
      by_cases cj : j = l
      · rw [if_pos cj]
        exact KeyOrd.kle_refl _
      · rw [if_neg cj, if_pos ⟨by omega, by omega⟩]
        exact KeyOrd.kle_of_klt (a3 _ (by omega) (by omega))
    · rw [if_neg ci]
      by_cases ci2 : l < i ∧ i ≤ t
      · rw [if_pos ci2, if_neg (by omega), if_pos ⟨by omega, by omega⟩]
        exact hs _ _ (by omega) (by omega)
      · rw [if_neg ci2]
        by_cases cj : j = l
        · rw [if_pos cj]
          exact a2 _ (by omega)
        · rw [if_neg cj]
          by_cases cj2 : l < j ∧ j ≤ t
          · rw [if_pos cj2]
            exact hs _ _ (by omega) (by omega)
          · rw [if_neg cj2]
            exact hs _ _ hij (by omega)
theorem sort_ok (ac : Asks O ky n cmp J) {R : Array Nat → Shared → Prop} {s : Shared} (h1 : 1 ≤ n) (hJ : J s) (k : ∀ p s', Prm n p → Srt ky p n → J s' → R p s') : (kas_sort n).kasWp cmp R s := by
  unfold kas_sort
  rw [KasT.kasWp_bind]
  refine count_ok ac (List.Perm.refl _) h1 hJ fun m p s' a1 a2 a3 a4 a5 => ?_
  dsimp only
  by_cases c : m < n
  · rw [if_pos c]
    have e : max m 1 = m := by omega
    rw [e]
    exact bin_ok ac (n - m) p m s' a3 (by omega) a4 a5 k
  · rw [if_neg c]
    have e : m = n := by omega
    subst e
    exact k p s' a3 a4 a5
end
end L2
namespace L2
open PySem PySem.W PySem.Spec PyProof.Rows
theorem lex_dec : ∀ a b : List Int, HT.lexLt a b = decide (a < b)
  | [], [] => by simp [HT.lexLt]
  | [], _ :: _ => by simp [HT.lexLt]
  | _ :: _, [] => by simp [HT.lexLt]
  | x :: xs, y :: ys => by
    rw [HT.lexLt_cons, lex_dec xs ys]
    by_cases e : x = y
    · subst e
      rw [if_pos rfl]
      simp [List.cons_lt_cons_iff]
    · rw [if_neg e]
      simp [List.cons_lt_cons_iff, e]
def lexO : KeyOrd where
  α := List Int
  blt a b := HT.lexLt a b
  irrefl a := by rw [lex_dec]; simpa using List.lt_irrefl a
  trans a b c h1 h2 := by
    rw [lex_dec] at *
    simp only [decide_eq_true_eq] at *
    exact List.lt_trans h1 h2
  negTrans a b c h := by
    rw [lex_dec] at h
    rw [lex_dec, lex_dec]
    simp only [decide_eq_true_eq] at *
    by_cases hab : a < b
    · exact .inl hab
    · exact .inr (List.lt_of_le_of_lt (List.not_lt.mp hab) h)
  total a b h1 h2 := by
    rw [lex_dec] at *
    simp only [decide_eq_false_iff_not] at *
    exact List.le_antisymm (List.not_lt.mp h2) (List.not_lt.mp h1)
def IsRow (h : Heap) (v : Value) (ns : List Int) : Prop := ∃ a its, v = .ref a ∧ IsTup h a its ∧ IntsAre its.toList ns
section
variable {prog : Program} {w : World} {A : Around} {E : Value → Shared → Prop} {s : Shared} {Q : Bool → Shared → Prop}
theorem row_lex {fin bb : Bool} : ∀ {vs us : List Value} {ns ms : List Int} (i : Nat), IntsAre vs ns → IntsAre us ms → Q (HT.lexLt ns ms) s → fin = decide (vs.length < us.length) → KatLex prog w A bb fin Q (vs.zip us) i s
  | _, _, _, _, i, .nil, .nil, h, e => by
    refine kat_nil ?_
    rw [e]
    exact h
  | _, _, _, _, i, .nil, .cons _ _ _, h, e => by
    refine kat_nil ?_
    rw [e]
    simpa [HT.lexLt] using h
  | _, _, _, _, i, .cons _ _ _, .nil, h, e => by
    refine kat_nil ?_
    rw [e]
    simpa [HT.lexLt] using h
  | _, _, _, _, i, .cons (vs := vs) (ns := ns) x t hv, .cons (vs := us) (ns := ms) y u hu, h, e => by
    refine kat_cons (wpAny_eqBool_int (kat_go (fun c => ?_) (fun c => ?_)))
    · have xy : x = y := by simpa using c
      subst xy
      refine kat_yes (row_lex (i + 1) hv hu ?_ ?_)
      · simpa [HT.lexLt] using h
      · rw [e]
        simp
    · have xy : ¬ x = y := by simpa using c
      refine kat_no ?_
      have h' : Q (decide (x < y)) s := by simpa [HT.lexLt, xy] using h
      cases (bb && i == 0) with
      | true => exact oneLt_int h'
      | false => exact kat_one _ _ (lt_int h')
def RowKind (κ : SortKind) : Prop := (∃ b, κ = tuples' b) ∨ κ = general' ∨ κ = oneType'
theorem row_lt {κ : SortKind} {x y : Value} {ns ms : List Int} (hk : RowKind κ) (hx : IsRow s.heap x ns) (hy : IsRow s.heap y ms) (hu : A.units < cLine) (h : Q (HT.lexLt ns ms) s) : wpAny (model prog w) A (keyLt' κ x y) Q E s := by
  obtain ⟨a, its, rfl, ta, ia⟩ := hx
  obtain ⟨b, jts, rfl, tb, ib⟩ := hy
  rcases hk with ⟨bb, rfl⟩ | rfl | rfl
  · obtain ⟨o, ho, hc, n, hd⟩ := ta
    obtain ⟨o2, ho2, hc2, n2, hd2⟩ := tb
    exact kat_lt ho hd ho2 hd2 (row_lex 0 ia ib h (by simp))
  · exact kat_one _ _ (HT.lt_tupInts ta tb ia ib hu h)
  · rw [keyLt'_oneType, oneLt'_eq]
    simp only [if_true]
    refine wpAny_bind (wpAny_cRoomFor hu ?_)
    obtain ⟨⟨cls, dd, data, sl⟩, ho, hc, n, hd⟩ := id ta
    obtain ⟨⟨cls2, dd2, data2, sl2⟩, ho2, hc2, n2, hd2⟩ := id tb
    simp only at hc hd hc2 hd2
    subst hc hd hc2 hd2
    refine wpAny_bind (wpAny_callSpecialIfBound?_slot (T := "tuple") ⟨_, ho, rfl⟩ PySem.F.slot_tuple_lt (call_meets PySem.F.slot_tuple_lt ⟨_, ho, rfl⟩ PySem.F.entry_tuple_lt (PySem.F.args_tuple_lt_2 _ _) (HT.tuple_lt_ints a b its jts n n2 dd dd2 sl sl2 ns ms ia ib) ⟨ho, ho2, ?_⟩))
    exact wpAny_truthy_bool h
theorem ints_first : ∀ {l : List Value} {ns : List Int}, IntsAre l ns → ∀ {v : Value}, l[0]? = some v → ∃ n t, v = Value.int n t
  | _, _, .nil, v, e => by simp at e
  | _, _, .cons n t _, v, e => ⟨n, t, by simpa using e.symm⟩
theorem mapM_any {α β : Type} {f : α → Sem β} : ∀ (l : List α) {R : List β → Shared → Prop}, (∀ v ∈ l, ∀ (Q' : β → Shared → Prop), (∀ r, Q' r s) → wpAny (model prog w) A (f v) Q' E s) → (∀ rs, R rs s) → wpAny (model prog w) A (l.mapM f) R E s
  | [], _, _, h => by
    rw [List.mapM_nil]
    exact wpAny_pure (h [])
  | x :: l, R, hf, h => by
    rw [List.mapM_cons]
    exact wpAny_bind (hf x (.head _) _ fun r => wpAny_bind (mapM_any l (R := fun bs s' => wpAny (model prog w) A (pure (r :: bs)) R E s') (fun v hv => hf v (.tail _ hv)) fun rs => wpAny_pure (h _)))
theorem one_type {l : List Value} {R : Option Value → Shared → Prop} (hf : ∀ v ∈ l, ∀ (Q' : Value → Shared → Prop), (∀ r, Q' r s) → wpAny (model prog w) A (typeOf v) Q' E s) (h : ∀ r, R r s) : wpAny (model prog w) A (oneTypeOnly' l.toArray) R E s := by
  rw [oneTypeOnly'_eq, List.mapM_toArray, map_eq_pure_bind]
  refine wpAny_bind (wpAny_bind (mapM_any l hf fun rs => wpAny_pure ?_))
  cases rs.toArray[0]? with
  | none => exact wpAny_pure (h _)
  | some t => exact wpAny_pure (h _)
theorem row_firsts {rows : List (List Int)} : ∀ {vs : List Value}, Paired (IsRow s.heap) vs rows → ∀ {R : List (Option Value) → Shared → Prop}, (∀ fs, fs.length = vs.length → (∀ f ∈ fs, ∀ v, f = some v → ∃ n t, v = Value.int n t) → R fs s) →
    wpAny (model prog w) A (vs.mapM firstOfTuple') R E s := by
  intro vs hp
  induction hp with
  | nil =>
    intro R h
    rw [List.mapM_nil]
    exact wpAny_pure (h [] rfl (fun f m => nomatch m))
  | cons hx hr ih =>
    intro R h
    obtain ⟨a, its, rfl, ⟨o, ho, hc, n, hd⟩, ia⟩ := hx
    rw [List.mapM_cons]
    refine wpAny_bind ?_
    rw [kas_first_eq]
    refine wpAny_bind (Looks.here (show Looks (model prog w) s.heap (typeOf (.ref a)) o.cls from (Looks.ld ho).andThen .now) ?_)
    rw [hc, if_neg (by first | decide | simp)]
    refine wpAny_bind (listItems_at ho hd (wpAny_pure ?_))
    refine wpAny_bind (ih fun fs l1 l2 => wpAny_pure (h _ (by rw [List.length_cons, List.length_cons, l1]) fun f m v e => ?_))
    rcases List.mem_cons.mp m with m | m
    · subst m
      have e' : its.toList[0]? = some v := by simpa using e
      exact ints_first ia e'
    · exact l2 f m v e
theorem row_kind {vs : List Value} {rows : List (List Int)} (hp : Paired (IsRow s.heap) vs rows) {R : SortKind → Shared → Prop} (h : ∀ κ, RowKind κ → R κ s) : wpAny (model prog w) A (keyKind' vs.toArray) R E s := by
  rw [kat_kind_eq, List.mapM_toArray, map_eq_pure_bind]
  refine wpAny_bind (wpAny_bind (row_firsts hp fun fs l1 l2 => wpAny_pure ?_))
  by_cases c : (fs.toArray.all fun x => x.isSome) = true
  · rw [if_pos c]
    refine wpAny_bind (wpAny_rule ?_)
    have e : fs.toArray.filterMap id = (fs.filterMap id).toArray := by simp
    rw [e]
    refine wpAny_bind (one_type (fun v hv Q' hq => ?_) fun r => wpAny_pure (h _ (.inl ⟨_, rfl⟩)))
    obtain ⟨f, fm, fe⟩ := List.mem_filterMap.mp hv
    obtain ⟨n, t, rfl⟩ := l2 f fm v fe
    exact wpAny_of_eq (a := Value.type "int") rfl (hq _)
  · rw [if_neg c]
    by_cases c2 : (fs.toArray[0]?.bind id).isSome = true
    · rw [if_pos c2]
      exact wpAny_pure (h _ (.inr (.inl rfl)))
    · rw [if_neg c2]
      refine wpAny_bind (one_type (fun v hv Q' hq => ?_) fun r => ?_)
      · obtain ⟨ns, hr⟩ : ∃ ns, IsRow s.heap v ns := by
          clear l1 l2 c c2
          induction hp with
          | nil => cases hv
          | cons hx _ ih =>
            rcases List.mem_cons.mp hv with m | m
            · exact ⟨_, m ▸ hx⟩
            · exact ih m
        obtain ⟨a, its, rfl, ⟨o, ho, hc, n, hd⟩, ia⟩ := hr
        exact Looks.here (show Looks (model prog w) s.heap (typeOf (.ref a)) o.cls from (Looks.ld ho).andThen .now) (hq _)
      · cases r with
        | none => exact wpAny_pure (h _ (.inr (.inl rfl)))
        | some t => exact wpAny_pure (h _ (.inr (.inr rfl)))
theorem paired_at {α β : Type} {R : α → β → Prop} (d : α) (e : β) : ∀ {xs : List α} {ys : List β}, Paired R xs ys → ∀ i, i < xs.length → R (xs.getD i d) (ys.getD i e)
  | _, _, .nil, i, h => absurd h (Nat.not_lt_zero _)
  | _, _, .cons r _, 0, _ => r
  | _, _, .cons _ t, i + 1, h => paired_at d e t i (by simpa using h)
theorem map_range_getD (vs : List Value) : (List.range vs.length).map (fun i => vs.getD i Value.none) = vs := by
  apply List.ext_getElem
  · simp
  · intro i h1 h2
    simp [h2]
theorem IsRow.keep {h h' : Heap} {v : Value} {ns : List Int} (x : IsRow h v ns) (k : ∀ b o, o.cls = .type "tuple" → h.get? b = some o → h'.get? b = some o) : IsRow h' v ns := by
  obtain ⟨a, its, rfl, ⟨o, ho, hc, n, hd⟩, ia⟩ := x
  exact ⟨a, its, rfl, ⟨o, k a o hc ho, hc, n, hd⟩, ia⟩
theorem row_sort {a : Addr} {vs : List Value} {rows : List (List Int)} {n : Nat} {P : PySem.Fin → Shared → Prop} (ho : s.heap.get? a = some (seqObj "list" vs.toArray n)) (hp : Paired (IsRow s.heap) vs rows) (h64 : vs.length < 64) (hu : A.units < cLine)
    (h : ∀ p : Array Nat, Prm vs.length p → Srt (O := lexO) (fun i => rows.getD i []) p vs.length → P (.done (.ret .none)) { s with heap := sortedHeap s.heap a vs (List.toArray (p.toList.map fun i => vs.getD i Value.none)) }) :
    wpAny (model prog w) A (Builtin.«list.sort» ⟨[.ref a], []⟩) P E s := by
  rw [list_sort_plain]
  have ha : a < s.heap.objs.size := Heap.lt_size ho
  refine wpAny_bind (listItems_at ho rfl ?_)
  refine wpAny_bind (listUpdate_at ho rfl ?_)
  obtain ⟨e1, ho1⟩ : ∃ e1, (s.heap.update a (Obj.mapSeq fun _ => #[])).get? a = some (seqObj "list" #[] e1) := ⟨_, get?_update_seq ho (fun _ => #[])⟩
  refine wpAny_bind (seqEpoch_at ho1 rfl ?_)
  refine wpAny_bind (wpAny_newTuple ?_)
  refine wpAny_bind (wpAny_newList ?_)
  refine wpAny_holding ?_
  have ho6 : (((s.heap.update a (Obj.mapSeq fun _ => #[])).push (seqObj "tuple" vs.toArray 0)).push (seqObj "list" #[] 0)).get? a = some (seqObj "list" #[] e1) := by
    rw [Heap.get?_push_ne _ _ _ (by rw [size_push', Heap.size_update]; exact Nat.ne_of_lt (Nat.lt_succ_of_lt ha)), Heap.get?_push_ne _ _ _ (by rw [Heap.size_update]; exact Nat.ne_of_lt ha)]
    exact ho1
  have hp6 : Paired (IsRow (((s.heap.update a (Obj.mapSeq fun _ => #[])).push (seqObj "tuple" vs.toArray 0)).push (seqObj "list" #[] 0))) vs rows := Paired.mapP hp fun v ns x => x.keep fun b o hc e => by
    have hb : b ≠ a := fun z => by
      rw [z, ho] at e
      cases e
      exact absurd (show Value.type "list" = Value.type "tuple" from hc) (by decide)
    exact Heap.get?_push_of_some _ (Heap.get?_push_of_some _ ((Heap.get?_update_other _ _ (Ne.symm hb)).trans e))
  show wpAny (model prog w) A _ P E { s with heap := ((s.heap.update a (Obj.mapSeq fun _ => #[])).push (seqObj "tuple" vs.toArray 0)).push (seqObj "list" #[] 0) }
  dsimp only
  have hsz : vs.toArray.size = vs.length := by simp
  by_cases h2 : vs.toArray.size < 2
  · rw [if_pos h2, if_pos h2]
    refine wpAny_bind (wpAny_pure ?_)
    rw [StateT.run_pure]
    refine wpAny_bind (wpAny_pure ?_)
    dsimp only
    refine wpAny_bind (seqEpoch_at ho6 rfl ?_)
    refine wpAny_bind (listUpdate_at ho6 rfl ?_ (hsz2 := by rw [Array.size_map]; show (pairsOf vs).size ≤ _; rw [pairsOf_size, sizeLine_eq]; omega))
    simp only [bne_self_eq_false, Bool.false_eq_true, if_false]
    have hh := h (List.range vs.length).toArray (List.Perm.refl _) (fun i j hij hj => by
      have : i = j := by omega
      subst this
      exact KeyOrd.kle_refl _)
    rw [show (List.range vs.length).toArray.toList.map (fun i => vs.getD i Value.none) = vs from map_range_getD vs] at hh
    have e : (arrOf (SortSt.mk' general' (vs.toArray.zip vs.toArray) #[] 7 none)).map (·.2) = vs.toArray := by
      show (vs.toArray.zip vs.toArray).map (·.2) = vs.toArray
      apply Array.ext
      · simp
      · intro i h1 h2
        simp
    refine wpAny_pure ?_
    have hh' := hh
    rw [← e] at hh'
    exact hh'
  · rw [if_neg h2, if_neg h2]
    refine wpAny_bind (row_kind hp6 fun κ hκ => ?_)
    have ac : Asks lexO (fun i => rows.getD i []) vs.length (kas_ask prog w A κ vs) (fun s' => s' = { s with heap := ((s.heap.update a (Obj.mapSeq fun _ => #[])).push (seqObj "tuple" vs.toArray 0)).push (seqObj "list" #[] 0) }) := by
      intro i j C s' hi hj e k
      subst e
      exact row_lt hκ (paired_at Value.none [] hp6 i hi) (paired_at Value.none [] hp6 j hj) hu (k _ rfl)
    refine wpAny_bind (wpAny_mono (kat_run (ks := vs) (vs := vs) (Q := fun st' s' => ∃ p : Array Nat, arrOf st' = p.map (kas_item (vs.toArray.zip vs.toArray)) ∧ failedOf st' = none ∧ s' = { s with heap := ((s.heap.update a (Obj.mapSeq fun _ => #[])).push (seqObj "tuple" vs.toArray 0)).push (seqObj "list" #[] 0) } ∧ Prm vs.length p ∧ Srt (O := lexO) (fun i => rows.getD i []) p vs.length)
      (G := fun p s' => s' = { s with heap := ((s.heap.update a (Obj.mapSeq fun _ => #[])).push (seqObj "tuple" vs.toArray 0)).push (seqObj "list" #[] 0) } ∧ Prm vs.length p ∧ Srt (O := lexO) (fun i => rows.getD i []) p vs.length)
      rfl (by omega) h64 (fun p st' s' _ a2 a3 g => ⟨p, a2, a3, g⟩) (sort_ok ac (by omega) rfl fun p s' q1 q2 e => ⟨e, q1, q2⟩)) ?_ fun _ _ e => e)
    rintro ⟨⟨⟩, st'⟩ s' ⟨p, har, hf, rfl, q1, q2⟩
    dsimp only
    have hout := kat_snds rfl har
    refine wpAny_bind (seqEpoch_at ho6 rfl ?_)
    rw [hout]
    refine wpAny_bind (listUpdate_at ho6 rfl ?_ (hsz2 := by rw [List.size_toArray, List.length_map, Array.length_toList, q1.size, sizeLine_eq]; omega))
    rw [hf]
    simp only [bne_self_eq_false, Bool.false_eq_true, if_false]
    exact wpAny_pure (h p q1 q2)
end
section
variable {X : Cx}
theorem call_sortedI : CallR X (.builtin "sorted") (fun xs H Q => ∃ (a : Addr) (ns : List Int), xs = [.ref a] ∧ SqL X.K H a (ns.map V.int) ∧ ns.length < 64 ∧
    ∀ (l : Addr) (ms : List Int), ms.Perm ns → ms.Pairwise (· ≤ ·) → H l = none → Q (.ref l) (upd H l (.lst (ms.map V.int)))) := by
  intro pins s σ H xs us Q I r h
  obtain ⟨a, ns, rfl, hq, h64, q⟩ := h
  obtain ⟨u, rfl, rx⟩ := vals1 r
  cases rx
  obtain ⟨its, rv, pl, hz⟩ := I.list hq
  have hlen := rv.length
  rw [List.length_map] at hlen
  refine sorted_ints pl.isList (intsAre_of rv) (by omega) fun out ms i1 i2 i3 => ?_
  obtain ⟨e, he⟩ := sortedAll_at s.heap its out
  have hfr : H (s.heap.objs.size + 1) = none := I.hok.fresh (Nat.le_succ _)
  refine ⟨.ref _, _, I.laid (t' := s.toks) (fun b o hb => sortedAll_old hb) (Nat.le_succ _) (show ObjOk X.prog X.w _ _ _ (.lst (ms.map V.int)) from ⟨?_, out.toList, e, vals_ints i1, he⟩), rfl, q _ ms i2 i3 hfr⟩
  rw [List.length_map, i2.length_eq, sizeLine_eq]
  omega
theorem vals_refs : ∀ as : List Addr, Vals (as.map V.ref) (as.map Value.ref)
  | [] => .nil
  | a :: as => .cons rfl (vals_refs as)
end
end L2
namespace L2
open PySem PySem.W PySem.Spec PyProof.Rows
def RawAt (h : Heap) (d : Addr) (es : Array DictEntry) (ep : Nat) : Prop := ∃ o, h.get? d = some o ∧ o.ExactDict ∧ o.data = .dict es ep
theorem RawAt.at {h h' : Heap} {d : Addr} {es : Array DictEntry} {ep : Nat} (x : RawAt h d es ep) (e : ∀ o, h.get? d = some o → h'.get? d = some o) : RawAt h' d es ep := let ⟨o, ho, r⟩ := x; ⟨o, e _ ho, r⟩
theorem RawAt.lt {h : Heap} {d : Addr} {es : Array DictEntry} {ep : Nat} (x : RawAt h d es ep) : d < h.objs.size := let ⟨_, ho, _⟩ := x; Heap.lt_size ho
theorem RawAt.typeIs {s : Shared} {d : Addr} {es : Array DictEntry} {ep : Nat} (x : RawAt s.heap d es ep) : s.TypeIs (.ref d) "dict" := let ⟨o, ho, hc, _⟩ := x; ⟨o, ho, hc.1⟩
section
variable {prog : Program} {w : World} {A : Around} {E : Value → Shared → Prop} {s : Shared} {d : Addr} {es : Array DictEntry} {ep : Nat}
theorem raw_iter {Q : Value → Shared → Prop} (hd : (d == sysModules) = false) (hm : RawAt s.heap d es ep)
    (hQ : Q (.ref s.heap.objs.size) { s with heap := s.heap.push { cls := .type "dict_keyiterator", data := .fields #[.ref d, .int 0 0, .int es.size 0, .int ep 0] } }) : wpAny (model prog w) A (pyIter (.ref d)) Q E s := by
  have hT := hm.typeIs
  obtain ⟨o, ho, hc, hdat⟩ := id hm
  refine wpAny_pyIter_slot hT F.slot_dict_iter (wpAny_call_entry F.slot_dict_iter hT F.entry_dict_iter ?_ (F.args_dict_iter_1 _))
  unfold Builtin.«dict.__iter__»
  refine wpAny_bind ?_
  unfold Builtin.Dict.dictSlotNone
  refine wpAny_bind (wpAny_notOrdered_dict hT ?_)
  show wpAny _ _ (pure (Value.ref d)) _ _ s
  refine wpAny_pure ?_
  show wpAny _ _ (Builtin.Dict.showsAll d >>= _) _ _ s
  unfold Builtin.Dict.showsAll
  rw [if_neg (by rw [hd]; exact Bool.false_ne_true)]
  refine wpAny_bind (wpAny_pure ?_)
  refine wpAny_bind (wpAny_dictEntries ho hdat ?_)
  refine wpAny_bind (wpAny_dictEpoch ho hdat ?_)
  refine wpAny_bind (wpAny_newObj_type (wpAny_pure ⟨_, rfl, "dict_keyiterator", _, ⟨_, Heap.get?_push_size _ rfl, rfl⟩, F.slot_dict_keyiterator_next.lookup, ?_⟩))
  simpa [rawInt] using hQ
theorem raw_next {it : Addr} {i : Nat} {e : DictEntry} {Q : Option Value → Shared → Prop} (hit : s.heap.IsKeyIter it d i es.size ep) (hm : RawAt s.heap d es ep) (hx : es[i]? = some e)
    (hQ : ∀ h', h'.IsKeyIter it d (i + 1) es.size ep → Heap.SameBut it s.heap h' → Q (some e.key) { s with heap := h' }) : wpAny (model prog w) A (pyNext (.ref it)) Q E s := by
  obtain ⟨o, ho, hc, hd⟩ := id hit
  obtain ⟨od, hod, hcd, hdd⟩ := id hm
  unfold pyNext
  refine wpAny_bind (wpAny_attempt (wpAny_callSpecial?_slot (name := Str.ofString "__next__") hit.typeIs F.slot_dict_keyiterator_next
    (wpAny_call_entry F.slot_dict_keyiterator_next hit.typeIs F.entry_dict_keyiterator_next ?_ (F.args_dict_keyiterator_next_1 _))))
  refine wpAny_bind (wpAny_pure ?_)
  refine wpAny_bind ?_
  refine wpAny_bind ?_
  first | refine wpAny_bind (wpAny_typeNameOfWhole_keyiter hit.typeIs (wpAny_pure ?_)) | refine wpAny_bind (wpAny_typeNameOf_keyiter hit.typeIs (wpAny_pure ?_))
  refine wpAny_bind (wpAny_fieldsOf ho hd ?_)
  have hown : Builtin.Dict_items.ownsTuple "dict_keyiterator" = false := by decide
  simp only [hown, Bool.false_eq_true, if_false]
  show wpAny _ _ (if (Value.ref d == Value.none) = true then _ else _) _ _ s
  rw [if_neg (show ¬ ((Value.ref d == Value.none) = true) from Bool.false_ne_true)]
  refine wpAny_bind (wpAny_pure ?_)
  refine wpAny_bind (wpAny_dictEntries hod hdd ?_)
  rw [if_neg (by simp)]
  refine wpAny_bind (wpAny_pure ?_)
  refine wpAny_bind (wpAny_dictEpoch hod hdd ?_)
  rw [if_neg (by simp)]
  refine wpAny_pure ?_
  simp only [show ¬ ((i : Int) < 0) from by omega, if_false, Int.toNat_natCast, hx]
  refine wpAny_bind ?_
  first | refine wpAny_bind (wpAny_typeNameOfWhole_keyiter hit.typeIs (wpAny_pure ?_)) | refine wpAny_bind (wpAny_typeNameOf_keyiter hit.typeIs (wpAny_pure ?_))
  refine wpAny_bind (wpAny_isOneOf_keyiter hit.typeIs ?_)
  show wpAny _ _ (setField (.ref it) 1 (rawInt ((i : Int) + 1)) >>= _) _ _ s
  refine wpAny_bind (wpAny_setField ho hd (by simp) ?_)
  have hit' : (s.heap.update it (Obj.mapFields (·.setIfInBounds 1 (rawInt ((i : Int) + 1))))).IsKeyIter it d (i + 1) es.size ep :=
    ⟨_, Heap.get?_update_self _ ho (Obj.isFreed_of_fields (Obj.data_mapFields hd _)), (Obj.cls_mapFields ..).trans hc, by rw [Obj.data_mapFields hd]; simp [rawInt]⟩
  refine wpAny_bind (wpAny_holding ?_)
  refine wpAny_bind (wpAny_isOneOf_keyiter (s := { s with heap := s.heap.update it (Obj.mapFields (·.setIfInBounds 1 (rawInt ((i : Int) + 1)))) }) hit'.typeIs ?_)
  show wpAny _ _ (pure e.key) _ _ _
  exact wpAny_pure (wpAny_pure ⟨_, rfl, wpAny_pure (hQ _ hit' (Heap.SameBut.update ..))⟩)
theorem raw_end {it : Addr} {i : Nat} {Q : Option Value → Shared → Prop} (hh : A.handled = none) (hit : s.heap.IsKeyIter it d i es.size ep) (hm : RawAt s.heap d es ep) (hx : es.size ≤ i)
    (hQ : ∀ h', Heap.ExtBut it s.heap h' → Q none { s with heap := h' }) : wpAny (model prog w) A (pyNext (.ref it)) Q E s := by
  obtain ⟨o, ho, hc, hd⟩ := id hit
  obtain ⟨od, hod, hcd, hdd⟩ := id hm
  unfold pyNext
  refine wpAny_bind (wpAny_attempt (wpAny_callSpecial?_slot (name := Str.ofString "__next__") hit.typeIs F.slot_dict_keyiterator_next
    (wpAny_call_entry F.slot_dict_keyiterator_next hit.typeIs F.entry_dict_keyiterator_next ?_ (F.args_dict_keyiterator_next_1 _))))
  refine wpAny_bind (wpAny_pure ?_)
  refine wpAny_bind ?_
  refine wpAny_bind ?_
  first | refine wpAny_bind (wpAny_typeNameOfWhole_keyiter hit.typeIs (wpAny_pure ?_)) | refine wpAny_bind (wpAny_typeNameOf_keyiter hit.typeIs (wpAny_pure ?_))
  refine wpAny_bind (wpAny_fieldsOf ho hd ?_)
  have hown : Builtin.Dict_items.ownsTuple "dict_keyiterator" = false := by decide
  simp only [hown, Bool.false_eq_true, if_false]
  show wpAny _ _ (if (Value.ref d == Value.none) = true then _ else _) _ _ s
  rw [if_neg (show ¬ ((Value.ref d == Value.none) = true) from Bool.false_ne_true)]
  refine wpAny_bind (wpAny_pure ?_)
  refine wpAny_bind (wpAny_dictEntries hod hdd ?_)
  rw [if_neg (by simp)]
  refine wpAny_bind (wpAny_pure ?_)
  refine wpAny_bind (wpAny_dictEpoch hod hdd ?_)
  rw [if_neg (by simp)]
  refine wpAny_pure ?_
  simp only [show ¬ ((i : Int) < 0) from by omega, if_false, Int.toNat_natCast, Array.getElem?_eq_none hx]
  refine wpAny_bind ?_
  first | refine wpAny_bind (wpAny_typeNameOfWhole_keyiter hit.typeIs (wpAny_pure ?_)) | refine wpAny_bind (wpAny_typeNameOf_keyiter hit.typeIs (wpAny_pure ?_))
  show wpAny _ _ (setField (.ref it) 0 .none >>= _) _ _ s
  refine wpAny_bind (wpAny_setField ho hd (by simp) ?_)
  show wpAny _ _ (newExc (.type "StopIteration") [] >>= _) _ _ _
  refine wpAny_bind ?_
  simp only [newExc, newTuple]
  refine wpAny_bind (wpAny_newObj_type ?_ (by size_fits))
  refine wpAny_bind (m := firstArgMember _ _) (wpAny_of_eq (a := Value.none) (by first | rfl | (simp only [firstArgMember]; rfl)) ?_)
  refine wpAny_newObj_type ?_ (by size_fits)
  simp only [raiseNew]
  refine wpAny_bind (wpAny_handled ?_)
  rw [show A.in1.handled = none from hh]
  refine wpAny_bind (wpAny_pure (wpAny_throw ?_))
  refine wpAny_bind (wpAny_isInstance (T := "StopIteration") (b := true) ⟨_, Heap.get?_push_size _ rfl, rfl⟩ isSubtype_stop ?_)
  exact wpAny_pure (hQ _ (((Heap.SameBut.update ..).extBut.push _).push _))
theorem raw_walks (hh : A.handled = none) (I : Addr) (hne : d ≠ I) : Walks prog w A I [I, d] [I] es.size (fun i v => ∃ e, es[i]? = some e ∧ v = e.key) (fun i h => h.IsKeyIter I d i es.size ep ∧ RawAt h d es ep) where
  sub := fun b hb => by simp at hb; simp [hb]
  frame := fun _ _ _ st hk => ⟨st.1.at fun o e => hk I (by simp) o e, st.2.at fun o e => hk d (by simp) o e⟩
  item := fun i s Q E hi st hQ => by
    obtain ⟨e, hx⟩ : ∃ e, es[i]? = some e := ⟨es[i], by simp [hi]⟩
    refine raw_next st.1 st.2 hx fun h' hit' hs' => ?_
    exact hQ e.key h' s.toks ⟨e, hx, rfl⟩ ⟨hit', st.2.at fun o q => hs'.extBut d o hne q⟩ fun b o hb q => hs'.extBut b o (fun h => hb (by simp [h])) q
  done := fun s Q E st hQ => raw_end hh st.1 st.2 (Nat.le_refl _) fun h' he' => hQ h' s.toks fun b o hb q => he' b o (fun h => hb (by simp [h])) q
  self := fun _ _ _ _ st hQ => wpAny_pyIter_keyiter st.1 hQ
theorem raw_src (lo : (d == sysModules) = false) : KdlSrc prog w "dict" d d es.size (fun i v => ∃ e, es[i]? = some e ∧ v = e.key) (fun h => RawAt h d es ep) where
  type := fun _ hm => hm.typeIs
  there := fun _ hm => ⟨hm.lt, hm.lt⟩
  keep := fun _ _ hm hk => hm.at fun o e => hk d (.inl rfl) o e
  notList := by decide
  notTuple := by decide
  hint := fun _ _ _ _ hm hq => kdl_hint_dict hm.typeIs hq
  iter := fun _ s hh hm => ⟨_, _, (fun _ _ hq => raw_iter lo hm hq), raw_walks hh _ (Nat.ne_of_lt hm.lt), ⟨⟨_, Heap.get?_push_size _ rfl, rfl, rfl⟩, hm.at fun o e => Heap.get?_push_of_some _ e⟩⟩
theorem raw_keys {acc : Array Value} (h : ItemsOf (fun i v => ∃ e, es[i]? = some e ∧ v = e.key) acc es.size) : acc = es.map (·.key) := by
  obtain ⟨h1, h2⟩ := h
  apply Array.ext
  · simpa using h1
  · intro i hi hj
    obtain ⟨e, he, hk⟩ := h2 i acc[i] (by simp [hi])
    have hi' : i < es.size := by omega
    rw [Array.getElem?_eq_getElem hi'] at he
    rw [hk, Array.getElem_map, Option.some.inj he]
theorem raw_collect {R : List Value → Shared → Prop} (lo : (d == sysModules) = false) (hm : RawAt s.heap d es ep) (hh : A.handled = none) (hn : es.size ≤ sizeLine)
    (h : ∀ (h' : Heap) (tk : Nat), (∀ b o, s.heap.get? b = some o → h'.get? b = some o) → s.heap.objs.size < h'.objs.size → R (es.toList.map (·.key)) { s with heap := h', toks := tk }) :
    wpAny (model prog w) A (collect (.ref d)) R E s := by
  have hlt := hm.lt
  unfold collect
  refine wpAny_bind (wpAny_runValue (codeAny_builtin entry_proto_collect' ?_))
  rw [Around.under_plainId PySem.F.plain_proto_collect _]
  show wpAny _ A.in1 (newList [] >>= fun l => again (.builtin "list.__iadd__" ⟨[l, .ref d], []⟩)) _ _ s
  refine wpAny_bind (wpAny_newObj_type ?_)
  refine wpAny_pure ⟨plainId_quiet PySem.F.plain_list_iadd _, codeAny_builtin entry_list_iadd' ?_⟩
  rw [Around.under_plainId PySem.F.plain_list_iadd _]
  have hS₁ : (s.heap.push { cls := .type "list", data := .seq ([] : List Value).toArray }).get? s.heap.objs.size = some { cls := .type "list", data := .seq #[] } := Heap.get?_push_size _ rfl
  show wpAny _ A.in1 (Builtin.List.listExtendWith (.ref s.heap.objs.size) (.ref d) (.ref s.heap.objs.size)) _ _ _
  have key := kdl_extend (A := A) (s := { s with heap := s.heap.push { cls := .type "list", data := .seq ([] : List Value).toArray } })
    (R := fun (q : Result) (s' : Shared) => ∃ (h' : Heap) (tk c' : Nat), q = .ok (.ret (.ref s.heap.objs.size)) ∧ s' = { s with heap := h', toks := tk } ∧
      (∀ b o, s.heap.get? b = some o → h'.get? b = some o) ∧ h'.get? s.heap.objs.size = some { cls := .type "list", dict := none, data := .seq (es.map (·.key)) c', slots := #[] })
    (raw_src (prog := prog) (w := w) (es := es) (ep := ep) lo) hh (hm.at fun o e => Heap.get?_push_of_some _ e) s.heap.objs.size (Nat.ne_of_gt hlt) (Nat.ne_of_gt hlt) (.ref s.heap.objs.size) 0 hS₁
    (fun h' tk acc' c' hk hS' hacc => ⟨h', tk, c', rfl, rfl, fun b o e => hk b o (Nat.ne_of_lt (Heap.lt_size e)) (Heap.get?_push_of_some _ e), by rw [← raw_keys hacc]; exact hS'⟩) hn
  refine wpAny_mono key (fun fin s' x => ?_) fun e s' x => ?_
  · cases fin with
    | done f =>
      obtain ⟨h', tk, c', e, rfl, hk, hS'⟩ := x
      cases e
      show wpAny _ A (load s.heap.objs.size >>= _) _ _ _
      refine wpAny_bind (wpAny_load hS' ?_)
      have := h h' tk hk (Heap.lt_size hS')
      rw [← Array.toList_map] at this
      exact wpAny_pure this
    | again c₁ =>
      refine ⟨x.1, codeAny_mono x.2 fun q s₂ y => ?_⟩
      obtain ⟨h', tk, c', rfl, rfl, hk, hS'⟩ := y
      show wpAny _ A (load s.heap.objs.size >>= _) _ _ _
      refine wpAny_bind (wpAny_load hS' ?_)
      have := h h' tk hk (Heap.lt_size hS')
      rw [← Array.toList_map] at this
      exact wpAny_pure this
  · obtain ⟨_, _, _, e', _⟩ := x
    cases e'
theorem sorted_keys {vs : List Value} (lo : (d == sysModules) = false) (hm : RawAt s.heap d es ep) (hz : es.size < 64) (hh : A.handled = none) (hv : es.toList.map (·.key) = vs) {R : Value → Shared → Prop}
    (h : ∀ (h' : Heap) (tk : Nat) (a : Addr), (∀ b o, s.heap.get? b = some o → h'.get? b = some o ∧ b ≠ a) → s.heap.objs.size ≤ a → h'.get? a = some (seqObj "list" vs.toArray 0) →
      wpAny (model prog w) A.in1.in1 (Builtin.«list.sort» ⟨[.ref a], []⟩) (fun fin s' => ∃ v, fin = .done (.ret v) ∧ R (.ref a) s') E { s with heap := h', toks := tk }) :
    wpAny (model prog w) A (call (.builtin "sorted") [.ref d]) R E s := by
  refine Calls.call_function_entry kind_sorted plain_sorted entry_sorted (args_sorted1 _) ?_
  unfold Builtin.«sorted»
  refine wpAny_bind (m := checkCount "sorted" 1 1 _) (wpAny_pure ?_)
  refine wpAny_bind (raw_collect (A := A.in1) lo hm hh (by rw [sizeLine_eq]; omega) fun h' tk hk ge => ?_)
  rw [hv]
  have hl : vs.length < 64 := by rw [← hv, List.length_map, Array.length_toList]; exact hz
  refine wpAny_bind (wpAny_newList ?_ (by rw [sizeLine_eq]; omega))
  have ho : (h'.push (seqObj "list" vs.toArray 0)).get? h'.objs.size = some (seqObj "list" vs.toArray 0) := Heap.get?_push_size _ rfl
  refine wpAny_bind (wpAny_holding (wpAny_call_entry slot_list_sort ⟨_, ho, rfl⟩ entry_list_sort ?_ (args_list_sort _)))
  refine wpAny_mono (h _ tk h'.objs.size (fun b o e => ⟨Heap.get?_push_of_some _ (hk b o e), Nat.ne_of_lt (Heap.lt_size (hk b o e))⟩) (Nat.le_of_lt ge) ho) (fun fin s' x => ?_) fun _ _ x => x
  obtain ⟨v, rfl, q⟩ := x
  exact ⟨_, rfl, wpAny_pure ⟨_, rfl, q⟩⟩
end
section
variable {X : Cx}
theorem kt_rows {H : Hp} : ∀ {kvs : List (List Key × V)} {xs : List (List Key × Addr × Value)} {ks : List (List Int)}, KT H kvs xs → kvs.map (·.1) = ks.map (List.map Sum.inl) →
    ∃ qs : List (Addr × List Int), xs.map (fun x => Value.ref x.2.1) = (qs.map (·.1)).map Value.ref ∧ qs.map (·.2) = ks ∧ ∀ q ∈ qs, H q.1 = some (.tup (q.2.map V.int)) := by
  intro kvs xs ks r
  induction r generalizing ks with
  | nil =>
    intro e
    cases ks with
    | nil => exact ⟨[], rfl, rfl, fun _ m => nomatch m⟩
    | cons _ _ => cases e
  | @cons p q ps qr hq t ih =>
    intro e
    cases ks with
    | nil => cases e
    | cons k ks =>
      injection e with e1 e2
      obtain ⟨qs, a1, a2, a3⟩ := ih e2
      refine ⟨(q.2.1, k) :: qs, ?_, ?_, fun x m => ?_⟩
      · rw [List.map_cons, a1]
        rfl
      · rw [List.map_cons, a2]
      · rcases List.mem_cons.mp m with m | m
        · subst m
          have h := hq.2.1
          have e1' : p.1 = k.map Sum.inl := e1
          rw [e1', List.map_map] at h
          exact h
        · exact a3 x m
theorem call_sortedDT (hc : X.calm = true) (hu : X.A.units + 64 < cLine) : CallR X (.builtin "sorted") (fun xs H Q => ∃ (d : Addr) (kvs : List (List Key × V)) (ks : List (List Int)), xs = [.ref d] ∧ Rd H d (.dT kvs) ∧ kvs.map (·.1) = ks.map (List.map Sum.inl) ∧ ks.length < 64 ∧
    ∀ (l : Addr) (rs : List (Addr × List Int)), (∀ q ∈ rs, H q.1 = some (.tup (q.2.map V.int))) → (rs.map (·.2)).Perm ks → rs.Pairwise (fun x y => HT.lexLt y.2 x.2 = false) → H l = none → Q (.ref l) (upd H l (.lst (rs.map fun q => V.ref q.1)))) := by
  intro pins s σ H xs us Q I r h
  obtain ⟨d, kvs, ks, rfl, hd, hks, h64, q⟩ := h
  obtain ⟨u, rfl, rx⟩ := vals1 r
  cases rx
  obtain ⟨_, lo, xs, kt, o, es, ep, h1, h2, h3, h4, _, _⟩ := dt_rd I.hok hd
  obtain ⟨qs, b1, b2, b3⟩ := kt_rows kt hks
  have hv : es.toList.map (·.key) = (qs.map (·.1)).map Value.ref := by
    rw [h4, List.map_map, ← b1]
    rfl
  have hql : qs.length = ks.length := by rw [← b2, List.length_map]
  have hes : es.size = qs.length := by
    have := congrArg List.length hv
    simpa using this
  have hp : Paired (IsRow s.heap) ((qs.map (·.1)).map Value.ref) (qs.map (·.2)) := by
    clear hv hql hes b1 b2
    induction qs with
    | nil => exact .nil
    | cons q0 qr ih =>
      refine .cons ?_ (ih fun q m => b3 q (List.mem_cons_of_mem _ m))
      obtain ⟨jts, rj, tj, _⟩ := I.tuple (SqT.of (b3 q0 (List.mem_cons_self ..)))
      exact ⟨q0.1, jts.toArray, rfl, tj, by simpa using intsAre_of rj⟩
  refine sorted_keys lo ⟨o, h1, h2, h3⟩ (by omega) (I.ok.hd hc) hv fun h' tk a kp ge ho => ?_
  have hp' : Paired (IsRow h') ((qs.map (·.1)).map Value.ref) (qs.map (·.2)) := Paired.mapP hp fun v ns x => x.keep fun b o _ e => (kp b o e).1
  have ll : ((qs.map (·.1)).map Value.ref).length = qs.length := by rw [List.length_map, List.length_map]
  refine row_sort (s := { s with heap := h', toks := tk }) ho hp' (by omega) (by show X.A.units + 1 + 1 < cLine; omega) fun p a1 a2 => ⟨_, rfl, ?_⟩
  obtain ⟨e, he⟩ := sortedHeap_at (out := List.toArray (p.toList.map fun i => ((qs.map (·.1)).map Value.ref).getD i Value.none)) ho
  have hfr : H a = none := I.hok.fresh ge
  have hps := a1.size
  have lt : ∀ i ∈ p.toList, i < qs.length := fun i m => by
    have := List.mem_range.mp (a1.mem_iff.mp m)
    omega
  let rs := p.toList.map fun i => qs.getD i (0, [])
  have eo : (p.toList.map fun i => ((qs.map (·.1)).map Value.ref).getD i Value.none) = (rs.map (·.1)).map Value.ref := by
    show _ = ((p.toList.map fun i => qs.getD i (0, [])).map (·.1)).map Value.ref
    simp only [List.map_map]
    refine List.map_congr_left fun i m => ?_
    have hi := lt i m
    simp [hi]
  rw [eo] at he ⊢
  have pm : rs.Perm qs := by
    have e1 : (List.range ((qs.map (·.1)).map Value.ref).length).map (fun i => qs.getD i ((0 : Addr), ([] : List Int))) = qs := by
      rw [ll]
      apply List.ext_getElem
      · simp
      · intro i h1 h2
        simp [h2]
    have := List.Perm.map (fun i => qs.getD i ((0 : Addr), ([] : List Int))) a1
    rw [e1] at this
    exact this
  refine ⟨.ref _, _, I.laid (t' := tk) (fun b o hb => ?_) ge (show ObjOk X.prog X.w _ _ _ (.lst (rs.map fun q => V.ref q.1)) from ⟨?_, (rs.map (·.1)).map Value.ref, e, ?_, he⟩), rfl, q _ rs (fun q m => b3 q (pm.mem_iff.mp m)) (by rw [← b2]; exact pm.map _) ?_ hfr⟩
  · obtain ⟨k1, k2⟩ := kp b o hb
    rw [sortedHeap_old k2 (Heap.lt_size k1)]
    exact k1
  · rw [List.length_map, pm.length_eq, sizeLine_eq]
    omega
  · have := vals_refs (rs.map (·.1))
    rw [List.map_map] at this
    exact this
  · rw [List.pairwise_iff_getElem]
    intro i j hi hj hij
    have hi' : i < p.size := by simpa [rs] using hi
    have hj' : j < p.size := by simpa [rs] using hj
    have g := a2 i j (by omega) (by omega)
    have gi : (qs.map (·.2)).getD (p.getD i 0) [] = (rs[i]).2 := by
      have l1 := lt p[i] (by simp)
      simp [rs, Array.getD, hi', l1]
    have gj : (qs.map (·.2)).getD (p.getD j 0) [] = (rs[j]).2 := by
      have l1 := lt p[j] (by simp)
      simp [rs, Array.getD, hj', l1]
    have g2 : HT.lexLt ((qs.map (·.2)).getD (p.getD j 0) []) ((qs.map (·.2)).getD (p.getD i 0) []) = false := g
    rw [gi, gj] at g2
    exact g2
end
end L2
namespace L2
open PySem
def Ris (xs : Array Nat) : Prop := ∀ i j, i < j → j < xs.size → xs.getD i 0 < xs.getD j 0
theorem getD_any {xs : Array Nat} {i : Nat} (h : i < xs.size) (a b : Nat) : xs.getD i a = xs.getD i b := by
  simp [Array.getD, h]
theorem below_go {xs : Array Nat} (hr : Ris xs) (j : Nat) : ∀ (f lo hi : Nat), lo ≤ hi → hi ≤ xs.size → hi - lo ≤ f → (∀ i, i < lo → xs.getD i 0 < j) → (∀ i, hi ≤ i → i < xs.size → j ≤ xs.getD i 0) →
    SetTable.below.go xs j f lo hi ≤ xs.size ∧ (∀ i, i < SetTable.below.go xs j f lo hi → xs.getD i 0 < j) ∧ ∀ i, SetTable.below.go xs j f lo hi ≤ i → i < xs.size → j ≤ xs.getD i 0
  | 0, lo, hi, h1, h2, h3, h4, h5 => by
    have : lo = hi := by omega
    subst this
    exact ⟨h2, h4, h5⟩
  | f + 1, lo, hi, h1, h2, h3, h4, h5 => by
    unfold SetTable.below.go
    by_cases c : lo < hi
    · rw [if_pos c]
      dsimp only
      have hm : (lo + hi) / 2 < xs.size := by omega
      by_cases c2 : xs.getD ((lo + hi) / 2) j < j
      · rw [if_pos c2]
        refine below_go hr j f _ hi (by omega) h2 (by omega) (fun i hi' => ?_) h5
        rw [getD_any hm j 0] at c2
        by_cases e : i = (lo + hi) / 2
        · rw [e]; exact c2
        · exact Nat.lt_trans (hr i ((lo + hi) / 2) (by omega) hm) c2
      · rw [if_neg c2]
        refine below_go hr j f lo _ (by omega) (by omega) (by omega) h4 (fun i a b => ?_)
        rw [getD_any hm j 0] at c2
        by_cases e : i = (lo + hi) / 2
        · rw [e]; omega
        · have := hr ((lo + hi) / 2) i (by omega) b
          omega
    · rw [if_neg c]
      have : lo = hi := by omega
      subst this
      exact ⟨h2, h4, h5⟩
theorem below_ok {xs : Array Nat} (hr : Ris xs) (j : Nat) : SetTable.below xs j ≤ xs.size ∧ (∀ i, i < SetTable.below xs j → xs.getD i 0 < j) ∧ ∀ i, SetTable.below xs j ≤ i → i < xs.size → j ≤ xs.getD i 0 :=
  below_go hr j xs.size 0 xs.size (Nat.zero_le _) (Nat.le_refl _) (by omega) (fun i h => absurd h (Nat.not_lt_zero _)) (fun i a b => absurd a (by omega))
theorem below_zero {xs : Array Nat} (hr : Ris xs) : SetTable.below xs 0 = 0 := by
  obtain ⟨_, h, _⟩ := below_ok hr 0
  cases e : SetTable.below xs 0 with
  | zero => rfl
  | succ n => exact absurd (h n (by omega)) (Nat.not_lt_zero _)
theorem below_next {xs : Array Nat} (hr : Ris xs) {i : Nat} (hi : i < xs.size) : SetTable.below xs (xs.getD i 0 + 1) = i + 1 := by
  obtain ⟨h0, h1, h2⟩ := below_ok hr (xs.getD i 0 + 1)
  have a : ¬ SetTable.below xs (xs.getD i 0 + 1) ≤ i := fun c => by
    have := h2 i c hi
    omega
  have b : ¬ i + 1 < SetTable.below xs (xs.getD i 0 + 1) := fun c => by
    have p := h1 (i + 1) c
    have q := hr i (i + 1) (by omega) (by omega)
    omega
  omega
theorem insert_size {α : Type} {xs : Array α} {p : Nat} (hp : p ≤ xs.size) (x : α) : (SetTable.insertAt xs p x).size = xs.size + 1 := by
  unfold SetTable.insertAt
  simp
  omega
theorem insert_getD {xs : Array Nat} {p : Nat} (hp : p ≤ xs.size) (x i : Nat) : (SetTable.insertAt xs p x).getD i 0 = if i < p then xs.getD i 0 else if i = p then x else xs.getD (i - 1) 0 := by
  unfold SetTable.insertAt
  rw [Array.getD_eq_getD_getElem?, Array.getElem?_append]
  by_cases c : i < p
  · rw [if_pos c, if_pos (by simp; omega), Array.getElem?_push]
    rw [if_neg (by simp; omega), Array.getElem?_extract]
    rw [if_pos (by omega), Array.getD_eq_getD_getElem?]
    simp
  · rw [if_neg c]
    by_cases c2 : i = p
    · subst c2
      rw [if_pos rfl, if_pos (by simp; omega), Array.getElem?_push, if_pos (by simp; omega)]
      rfl
    · rw [if_neg c2, if_neg (by simp; omega), Array.getElem?_extract, Array.getD_eq_getD_getElem?]
      have e : ((xs.extract 0 p).push x).size = p + 1 := by simp; omega
      rw [e]
      by_cases c3 : i - (p + 1) < min xs.size xs.size - p
      · rw [if_pos c3]
        congr 2
        omega
      · rw [if_neg c3, Array.getElem?_eq_none (by omega)]
theorem Ris.put {xs : Array Nat} (hr : Ris xs) {j : Nat} (hj : xs[SetTable.below xs j]? ≠ some j) : Ris (SetTable.insertAt xs (SetTable.below xs j) j) := by
  obtain ⟨h0, h1, h2⟩ := below_ok hr j
  intro a b hab hb
  rw [insert_size h0] at hb
  rw [insert_getD h0, insert_getD h0]
  generalize hp : SetTable.below xs j = p at *
  have gt : ∀ i, p ≤ i → i < xs.size → j < xs.getD i 0 := fun i a b => by
    have l := h2 i a b
    by_cases e : i = p
    · subst e
      have : xs.getD i 0 ≠ j := fun z => hj (by simp [Array.getD, b] at z; simp [b, z])
      omega
    · have := h2 p (Nat.le_refl _) (by omega)
      have := hr p i (by omega) b
      omega
  by_cases ca : a < p
  · rw [if_pos ca]
    by_cases cb : b < p
    · rw [if_pos cb]
      exact hr a b hab (by omega)
    · rw [if_neg cb]
      by_cases cb2 : b = p
      · rw [if_pos cb2]
        exact h1 a ca
      · rw [if_neg cb2]
        exact hr a (b - 1) (by omega) (by omega)
  · rw [if_neg ca]
    by_cases ca2 : a = p
    · rw [if_pos ca2, if_neg (show ¬ b < p by omega), if_neg (show ¬ b = p by omega)]
      exact gt (b - 1) (by omega) (by omega)
    · rw [if_neg ca2, if_neg (show ¬ b < p by omega), if_neg (show ¬ b = p by omega)]
      exact hr (a - 1) (b - 1) (by omega) (by omega)
theorem ris_range (n : Nat) : Ris (Array.range n) := fun i j hij hj => by
  have hj' : j < n := by simpa using hj
  have hi' : i < n := by omega
  simp [Array.getD, hj', hi']
  exact hij
theorem ris_of_pairwise {l : List Nat} (h : l.Pairwise (· < ·)) : Ris l.toArray := fun i j hij hj => by
  have hj' : j < l.length := by simpa using hj
  have hi' : i < l.length := by omega
  have := List.pairwise_iff_getElem.mp h i j hi' hj' hij
  simpa [Array.getD, hj', hi'] using this
theorem live_rising {owner : Array (Option Nat)} (n : Nat) : (((List.range n).filterMap fun j => (owner.getD j none).map (j, ·)).map (·.1)).Pairwise (· < ·) := by
  rw [List.pairwise_map, List.pairwise_filterMap]
  refine List.Pairwise.imp ?_ List.pairwise_lt_range
  intro a b hab x hx y hy
  cases e1 : owner.getD a none with
  | none => rw [e1] at hx; cases hx
  | some u =>
    cases e2 : owner.getD b none with
    | none => rw [e2] at hy; cases hy
    | some v =>
      rw [e1] at hx
      rw [e2] at hy
      cases hx
      cases hy
      exact hab
theorem laid_ok {mask finger moves : Nat} {led plain : Bool} {hashes : Array Int} {t : SetTable} {order : Array Nat} (h : SetTable.laid mask finger moves led plain hashes = some (t, order)) : Ris t.place ∧ t.led = led := by
  unfold SetTable.laid at h
  cases e : SetTable.layClean mask hashes with
  | none => rw [e] at h; cases h
  | some owner =>
    rw [e] at h
    cases h
    exact ⟨ris_of_pairwise (live_rising _), rfl⟩
theorem probe_free {t : SetTable} {f : Nat → Int} {hv : Int} : ∀ (n : Nat) (p : SetTable.Probe) {j : Nat} {du : Option Nat}, (∀ d, p.dummy = some d → t.place[SetTable.below t.place d]? ≠ some d) →
    SetTable.probe.go t f hv n p = some (.empty j du) → (∀ d, du = some d → t.place[SetTable.below t.place d]? ≠ some d) ∧ t.place[SetTable.below t.place j]? ≠ some j
  | 0, p, j, du, hd, e => by cases e
  | n + 1, p, j, du, hd, e => by
    unfold SetTable.probe.go at e
    by_cases c : t.place[SetTable.below t.place p.j]? = some p.j
    · have es : t.slot p.j = .live (SetTable.below t.place p.j) := by
        unfold SetTable.slot
        simp [c]
      rw [es] at e
      dsimp only at e
      by_cases c2 : (f (SetTable.below t.place p.j) == hv) = true
      · rw [if_pos c2] at e; cases e
      · rw [if_neg c2] at e
        refine probe_free n _ ?_ e
        unfold SetTable.advance
        by_cases c3 : p.more > 0
        · rw [if_pos c3]; exact hd
        · rw [if_neg c3]; exact hd
    · by_cases c4 : SetTable.has t.dummies p.j = true
      · have es : t.slot p.j = .dummy := by
          unfold SetTable.slot
          simp [c, c4]
        rw [es] at e
        dsimp only at e
        refine probe_free n _ ?_ e
        have k : ∀ d, some p.j = some d → t.place[SetTable.below t.place d]? ≠ some d := fun d z => by
          cases z
          exact c
        unfold SetTable.advance
        by_cases c3 : p.more > 0
        · rw [if_pos c3]; exact k
        · rw [if_neg c3]; exact k
      · have es : t.slot p.j = .empty := by
          unfold SetTable.slot
          simp [c, c4]
        rw [es] at e
        cases e
        exact ⟨hd, c⟩
theorem free_ok {t : SetTable} {hv : Int} {slot : Nat} {b : Bool} (h : t.freeSlot hv = some (slot, b)) : t.place[SetTable.below t.place slot]? ≠ some slot := by
  unfold SetTable.freeSlot SetTable.probe at h
  cases e : SetTable.probe.go t (fun _ => hv + 1) hv (10 * SetTable.turns t.mask) (t.probeStart hv) with
  | none => rw [e] at h; cases h
  | some m =>
    rw [e] at h
    cases m with
    | candidate j i nx => cases h
    | empty j du =>
      obtain ⟨a, b'⟩ := probe_free _ _ (fun d z => by cases z) e
      cases du with
      | none =>
        cases h
        exact b'
      | some d =>
        cases h
        exact a d rfl
def Walk (t : SetTable) : Prop := Ris t.place ∧ t.led = true
theorem Walk.standIn {t : SetTable} (h : Walk t) (n : Nat) : Walk (t.standIn n) := ⟨ris_range n, h.2⟩
theorem Walk.orStandIn {t : SetTable} (h : Walk t) (n : Nat) : Walk (t.orStandIn n) := by
  unfold SetTable.orStandIn
  split
  · exact h
  · exact h.standIn n
theorem Walk.lay {t : SetTable} (h : Walk t) (es : Array (Int × Value)) (hv : Int) (x : Value) : Walk (layNew t es hv x).2.1 := by
  unfold layNew
  cases e : t.freeSlot hv with
  | none => exact h.standIn _
  | some q =>
    obtain ⟨slot, b⟩ := q
    have w : Walk (t.put slot).1 := ⟨h.1.put (free_ok e), h.2⟩
    exact w.orStandIn _
theorem Walk.relay {t : SetTable} (h : Walk t) (es : Array (Int × Value)) (n : Nat) : Walk (relayAll t es n).2.1 := by
  unfold relayAll SetTable.relaid
  cases e : SetTable.laid (SetTable.sizeAbove n - 1) t.finger (t.movedTo (SetTable.sizeAbove n - 1)) t.led t.plain (es.map (·.1)) with
  | none => exact h.standIn _
  | some q =>
    obtain ⟨t', order⟩ := q
    obtain ⟨a, b⟩ := laid_ok e
    dsimp only
    split
    · exact ⟨a, b.trans h.2⟩
    · exact h.standIn _
end L2
namespace L2
open PySem PySem.W PySem.Spec PyProof.Rows
def byText (w : World) : Bool := w.params.followText "set-order"
def SetI (prog : Program) (w : World) (h : Heap) (a : Addr) (l : List Int) : Prop :=
  ∃ o es ep t ms, h.get? a = some o ∧ o.ExactSet ∧ o.data = .set es ep t ∧ ElemsOf (intKind prog w) es.toList ∧ IntsAre (es.toList.map (·.2)) ms ∧ ms.Perm l ∧ es.size < scanBound ∧ t.fits es.size = true ∧ (byText w = true ∨ Walk t)
theorem ints_perm {vs vs' : List Value} (p : vs'.Perm vs) : ∀ {ns : List Int}, IntsAre vs ns → ∃ ns', IntsAre vs' ns' ∧ ns'.Perm ns := by
  induction p with
  | nil => intro ns h; cases h; exact ⟨[], .nil, .refl _⟩
  | cons x _ ih =>
    intro ns h
    cases h with
    | cons n t h =>
      obtain ⟨ns', a, b⟩ := ih h
      exact ⟨n :: ns', .cons n t a, b.cons n⟩
  | swap x y l =>
    intro ns h
    cases h with
    | cons n t h =>
      cases h with
      | cons m u h => exact ⟨m :: n :: _, .cons m u (.cons n t h), .swap _ _ _⟩
  | trans _ _ ih1 ih2 =>
    intro ns h
    obtain ⟨n1, a1, b1⟩ := ih2 h
    obtain ⟨n2, a2, b2⟩ := ih1 a1
    exact ⟨n2, a2, b2.trans b1⟩
theorem ints_append : ∀ {vs us : List Value} {ns ms : List Int}, IntsAre vs ns → IntsAre us ms → IntsAre (vs ++ us) (ns ++ ms)
  | _, _, _, _, .nil, h => h
  | _, _, _, _, .cons n t a, h => .cons n t (ints_append a h)
theorem ints_mem : ∀ {vs : List Value} {ns : List Int}, IntsAre vs ns → ∀ {n : Int}, n ∈ ns ↔ ∃ t, Value.int n t ∈ vs
  | _, _, .nil, n => ⟨(fun h => by cases h), (fun ⟨_, h⟩ => by cases h)⟩
  | _, _, .cons m u a, n => by
    constructor
    · intro h
      rcases List.mem_cons.mp h with e | h
      · subst e
        exact ⟨u, List.mem_cons_self ..⟩
      · obtain ⟨t, ht⟩ := (ints_mem a).mp h
        exact ⟨t, List.mem_cons_of_mem _ ht⟩
    · rintro ⟨t, h⟩
      rcases List.mem_cons.mp h with e | h
      · cases e
        exact List.mem_cons_self ..
      · exact List.mem_cons_of_mem _ ((ints_mem a).mpr ⟨t, h⟩)
section
variable {prog : Program} {w : World} {A : Around} {E : Value → Shared → Prop} {s : Shared}
theorem store_get {h : Heap} {a : Addr} {o : Obj} {es : Array (Int × Value)} {ep : Nat} {t : SetTable} (ho : h.get? a = some o) (hd : o.data = .set es ep t) (es' : Array (Int × Value)) (t' : SetTable) :
    (h.update a (Obj.putSet es' t')).get? a = some { o with data := .set es' (ep + 1) t' } := by
  have := Heap.get?_update_self (Obj.putSet es' t') ho (by rw [putSet_of es' t' hd]; rfl)
  rw [putSet_of es' t' hd] at this
  exact this
theorem add_tail {g : Bool → Sem Unit} (hg : ∀ (b : Bool) (s₁ : Shared) (Q' : Unit → Shared → Prop), Q' () s₁ → wpAny (model prog w) A (g b) Q' E s₁)
    {a : Addr} {o : Obj} {es : Array (Int × Value)} {ep : Nat} {t : SetTable} (ho : s.heap.get? a = some o) (hex : o.ExactSet) (hd : o.data = .set es ep t)
    {es1 : Array (Int × Value)} {t2 : SetTable} {ms l : List Int} (hel1 : ElemsOf (intKind prog w) es1.toList) (hi : IntsAre (es1.toList.map (·.2)) ms) (hp : ms.Perm l)
    (hb1 : es1.size < scanBound) (hf2 : t2.fits es1.size = true) (hw : byText w = true ∨ Walk t2) {wasDummy : Bool} {R : Option Bool → Shared → Prop}
    (h : ∀ h', Heap.SameBut a s.heap h' → SetI prog w h' a l → R (some true) { s with heap := h' }) :
    wpAny (model prog w) A (do
        storeSet a es1 t2
        if (!wasDummy && t2.tooFull) = true then do
            g (relayAll t2 es1 (SetTable.grown es1.size)).2.2
            storeSet a (relayAll t2 es1 (SetTable.grown es1.size)).1 (relayAll t2 es1 (SetTable.grown es1.size)).2.1
            pure (some true)
          else pure (some true)) R E s := by
  refine wpAny_bind (wpAny_storeSet_of ho hd ?_ (fits_of_scanBound hb1))
  have ho1 := store_get ho hd es1 t2
  have hsb1 := Heap.SameBut.update s.heap a (Obj.putSet es1 t2)
  split
  · have pr := relayAll_perm t2 es1 (SetTable.grown es1.size)
    have fr := relayAll_fits t2 es1 (SetTable.grown es1.size)
    have wr : byText w = true ∨ Walk (relayAll t2 es1 (SetTable.grown es1.size)).2.1 := hw.imp id fun x => x.relay _ _
    generalize relayAll t2 es1 (SetTable.grown es1.size) = Rl at pr fr wr ⊢
    obtain ⟨es2, t3, gave2⟩ := Rl
    dsimp only at pr fr wr ⊢
    have hsz : es2.size = es1.size := by rw [← Array.length_toList, pr.length_eq, Array.length_toList]
    obtain ⟨ms2, i2, p2⟩ := ints_perm (pr.map (·.2)) hi
    refine wpAny_bind (hg _ _ _ ?_)
    refine wpAny_bind (wpAny_storeSet_of ho1 rfl ?_ (fits_of_scanBound (by rw [hsz]; exact hb1)))
    exact wpAny_pure (h _ (hsb1.trans (Heap.SameBut.update _ a _)) ⟨_, es2, _, t3, ms2, store_get ho1 rfl es2 t3, hex, rfl, hel1.perm pr, i2, p2.trans hp, by rw [hsz]; exact hb1, fr, wr⟩)
  · exact wpAny_pure (h _ hsb1 ⟨_, es1, _, t2, ms, ho1, hex, rfl, hel1, hi, hp, hb1, hf2, hw⟩)
theorem add_int {a : Addr} {l : List Int} {k : Int} {tk : Tok} {Q : Bool → Shared → Prop} (hS : SetI prog w s.heap a l) (hroom : l.length + 1 < scanBound)
    (h : ∀ h' b, Heap.SameBut a s.heap h' → SetI prog w h' a (step_dedup l k) → Q b { s with heap := h' }) :
    wpAny (model prog w) A (setAddHashed a (.int k tk) ((intKind prog w).hash k)) Q E s := by
  obtain ⟨o, es, ep, t, ms, ho, hex, hd, hel, hi, hp, hb, hf, hw⟩ := hS
  have hkey : (intKind prog w).is k (.int k tk) = true := intKind_is _ _ _ _
  have hsc : (Value.int k tk).scannable = true := rfl
  have hlen : es.size = l.length := by
    have := hi.length
    rw [List.length_map, Array.length_toList] at this
    rw [this, hp.length_eq]
  unfold setAddHashed setAddHashedIn
  refine wpAny_holding (wpAny_bind (wpAny_setState_of ho hd hf ?_))
  dsimp only
  rw [byScan_of hsc hb hel]
  simp only [↓reduceIte]
  unfold setAddByScan
  refine wpAny_bind ?_
  refine wpAny_bind (wpAny_rule ?_)
  refine wpAny_bind (wpAny_setScan_of hkey ho hd hf hel ?_)
  cases hr : List.findIdx? (fun e => (intKind prog w).is k e.2) es.toList with
  | some j =>
    dsimp only
    obtain ⟨hj, hpj, _⟩ := List.findIdx?_eq_some_iff_getElem.mp hr
    have mem : k ∈ l := by
      refine hp.mem_iff.mp ((ints_mem hi).mpr ?_)
      obtain ⟨t', e⟩ := Value.isInt_shape (show Value.isInt k es.toList[j].2 = true from hpj)
      exact ⟨t', List.mem_map.mpr ⟨_, List.getElem_mem hj, e⟩⟩
    have es' : step_dedup l k = l := by
      unfold step_dedup
      rw [if_pos (List.any_eq_true.mpr ⟨k, mem, by simp⟩)]
    refine wpAny_pure (wpAny_pure ?_)
    exact h s.heap _ (Heap.SameBut.refl a s.heap) ⟨o, es, ep, t, ms, ho, hex, hd, hel, hi, by rw [es']; exact hp, hb, hf, hw⟩
  | none =>
    dsimp only
    have nmem : ¬ k ∈ l := fun m => by
      obtain ⟨t', ht⟩ := (ints_mem hi).mp (hp.mem_iff.mpr m)
      obtain ⟨e, he, hv⟩ := List.mem_map.mp ht
      have := List.findIdx?_eq_none_iff.mp hr e he
      rw [hv, intKind_is] at this
      exact Bool.noConfusion this
    have es' : step_dedup l k = l ++ [k] := by
      unfold step_dedup
      rw [if_neg (by
        intro z
        obtain ⟨y, hy, ey⟩ := List.any_eq_true.mp z
        have : y = k := by simpa using ey
        exact nmem (this ▸ hy))]
    have hgw : ∀ (b : Bool) {s₁ : Shared} {Q' : Unit → Shared → Prop}, Q' () s₁ → wpAny (model prog w) A (match b with | true => rule "set.scan.the-table-gave-way" | false => pure ()) Q' E s₁ :=
      fun b s₁ Q' hq => by cases b <;> first | exact wpAny_pure hq | exact wpAny_rule hq
    have pr := layNew_perm t es ((intKind prog w).hash k) (.int k tk)
    have fr := layNew_fits t es ((intKind prog w).hash k) (.int k tk)
    have wr : byText w = true ∨ Walk (layNew t es ((intKind prog w).hash k) (.int k tk)).2.1 := hw.imp id fun x => x.lay _ _ _
    generalize layNew t es ((intKind prog w).hash k) (.int k tk) = L at pr fr wr ⊢
    obtain ⟨es1, t1, wasDummy, gave⟩ := L
    dsimp only at pr fr wr ⊢
    rw [Array.toList_push] at pr
    have hel1 : ElemsOf (intKind prog w) es1.toList := (hel.push hkey hsc).perm pr
    have hi0 : IntsAre ((es.toList ++ [((intKind prog w).hash k, Value.int k tk)]).map (·.2)) (ms ++ [k]) := by
      rw [List.map_append]
      exact ints_append hi (.cons k tk .nil)
    obtain ⟨ms1, i1, p1⟩ := ints_perm (pr.map (·.2)) hi0
    have hp1 : ms1.Perm (step_dedup l k) := by rw [es']; exact p1.trans (hp.append_right [k])
    have hb1 : es1.size < scanBound := by rw [← Array.length_toList, pr.length_eq, List.length_append, Array.length_toList, hlen]; simpa using hroom
    refine wpAny_bind (hgw _ ?_)
    split
    · refine wpAny_bind ?_
      rw [hashByValue_scannable 8 hsc]
      refine wpAny_pure ?_
      refine add_tail ?_ ho hex hd hel1 i1 hp1 hb1 ?_ ?_ ?_
      · intro b s₁ Q' hq; cases b <;> first | exact wpAny_pure hq | exact wpAny_rule hq
      · split
        · exact fr
        · exact SetTable.fits_plain_off fr
      · split
        · exact wr
        · exact wr
      · intro h' hsb hS'; dsimp only; exact wpAny_pure (h h' _ hsb hS')
    · refine wpAny_bind (wpAny_pure ?_)
      simp only [↓reduceIte]
      refine add_tail ?_ ho hex hd hel1 i1 hp1 hb1 fr wr ?_
      · intro b s₁ Q' hq; cases b <;> first | exact wpAny_pure hq | exact wpAny_rule hq
      · intro h' hsb hS'; dsimp only; exact wpAny_pure (h h' _ hsb hS')
theorem SetI.at {h h' : Heap} {a : Addr} {l : List Int} (x : SetI prog w h a l) (e : ∀ o, h.get? a = some o → h'.get? a = some o) : SetI prog w h' a l := by
  obtain ⟨o, es, ep, t, ms, ho, r⟩ := x
  exact ⟨o, es, ep, t, ms, e o ho, r⟩
end
section
variable {prog : Program} {w : World} {A : Around} {R : Result → Shared → Prop} {I : Addr} {fp wr : List Addr} {G : Array GenState → Array GenState → Prop} {n : Nat} {P : Nat → Value → Prop} {St : Nat → Shared → Prop}
theorem set_loop (W : WalksS prog w A.in1 I fp wr G n P St) (S : Addr) (hSf : S ∉ fp) (val : Nat → Int) (hval : ∀ i v, P i v → ∃ t, v = .int (val i) t) (hb : n + 1 < scanBound) :
    ∀ (k i : Nat) (s : Shared), n - i = k → i ≤ n → St i s → SetI prog w s.heap S (firstMet val i) → (∀ s', Moved (S :: wr) G s s' → SetI prog w s'.heap S (firstMet val n) → R (.ok (.ret .none)) s') →
      codeAny (model prog w) A (.builtin "set.update.loop" ⟨[.ref S, .ref I], []⟩) R s := by
  have hSw : S ∉ wr := fun h => hSf (W.sub _ h)
  have hsub : ∀ b ∈ wr, b ∈ S :: wr := fun b hb => List.mem_cons_of_mem _ hb
  intro k
  induction k with
  | zero =>
    intro i s hk hi hst hS hR
    have hin : i = n := by omega
    subst hin
    refine codeAny_builtin F.entry_set_update_loop ?_
    rw [Around.under_plainId F.plain_set_update_loop _]
    show wpAny _ A.in1 (pyNext (.ref I) >>= _) _ _ s
    refine wpAny_bind (W.done s _ _ hst fun s' hm => ?_)
    show wpAny _ A.in1 (ret Value.none) _ _ s'
    exact wpAny_pure (hR s' (hm.mono hsub) (hS.at fun o e => hm.heap S o hSw e))
  | succ k ih =>
    intro i s hk hi hst hS hR
    have hlt : i < n := by omega
    refine codeAny_builtin F.entry_set_update_loop ?_
    rw [Around.under_plainId F.plain_set_update_loop _]
    show wpAny _ A.in1 (pyNext (.ref I) >>= _) _ _ s
    refine wpAny_bind (W.item i s _ _ hlt hst fun v s' hP hst' hm => ?_)
    obtain ⟨t, rfl⟩ := hval i v hP
    have hS' := hS.at fun o e => hm.heap S o hSw e
    show wpAny _ A.in1 (holding [Value.int (val i) t] (setAdd S (.int (val i) t)) >>= _) _ _ s'
    refine wpAny_bind (wpAny_holding ?_)
    unfold setAdd
    refine wpAny_holding ?_
    refine wpAny_bind ((intKind prog w).pyHash (k := val i) (intKind_is _ _ _ _) ?_)
    have hroom : (firstMet val i).length + 1 < scanBound := by have := firstMet_length_le val i; omega
    refine add_int (s := { s' with toks := s'.toks + 1 }) hS' hroom fun h' b hsb hS2 => ?_
    have hSi : SetI prog w h' S (firstMet val (i + 1)) := by rw [firstMet_succ]; exact hS2
    refine wpAny_pure ⟨plainId_quiet F.plain_set_update_loop _, ih (i + 1) _ (by omega) hlt (W.frame _ s' _ _ hst' (Nat.le_succ _) fun b hb o e => ?_) hSi fun s'' hm'' hS'' => ?_⟩
    · rw [hsb.2 b (fun h : b = S => hSf (by rw [← h]; exact hb))]; exact e
    · refine hR s'' (Moved.trans W.gtrans ((hm.mono hsub).then_heap (Nat.le_succ _) fun b o hb e => ?_) hm'') hS''
      rw [hsb.2 b (fun h : b = S => hb (by rw [h]; exact List.mem_cons_self))]; exact e
end
section
variable {prog : Program} {w : World} {A : Around} {E : Value → Shared → Prop} {s : Shared}
abbrev newSetObj (w : World) : Obj := { cls := .type "set", dict := none, data := .set #[] 0 (.fresh 0 0 (!byText w)) }
theorem set_new (a : Value) {Q₁ : Value → Shared → Prop} (h : Q₁ (.ref s.heap.objs.size) { s with heap := s.heap.push (newSetObj w) }) :
    codeAny (model prog w) A (.call (.builtin "set.__new__") ⟨[.type "set", a], []⟩) (wants Q₁ E) s := by
  refine codeAny_of_tree ?_
  show wpAny _ A.in1 (do checkBuiltinCall "set.__new__" ⟨[.type "set", a], []⟩; again (.builtin "set.__new__" ⟨[.type "set", a], []⟩)) _ _ s
  refine wpAny_bind (wpAny_of_eq (PySem.F.newCall_set_1 a) (wpAny_pure ⟨plainId_quiet PySem.F.plain_set_new _, codeAny_builtin PySem.F.entry_set_new ?_⟩))
  rw [Around.under_plainId PySem.F.plain_set_new _]
  unfold Builtin.«set.__new__» Builtin.Frozenset.newClass
  have hsub := sub_set_self
  obtain ⟨hp, g, d, tk, os⟩ := s
  dsimp only
  wp_walk
  refine wpAny_askSetting (wpAny_pure ?_)
  dsimp only
  simp only [newObj]
  refine wpAny_bind (wpAny_alloc (wpAny_pure ?_))
  exact wpAny_pure h
theorem fresh_set {h : Heap} {a : Addr} (ho : h.get? a = some (newSetObj w)) : SetI prog w h a [] :=
  ⟨_, #[], 0, _, [], ho, ⟨rfl, rfl, rfl⟩, rfl, fun e he => by simp at he, .nil, .refl _, by decide, rfl, by
    cases e : byText w with
    | true => exact .inl rfl
    | false => exact .inr ⟨fun i j _ hj => absurd hj (by simp [SetTable.fresh]), by simp [SetTable.fresh]⟩⟩
set_option maxRecDepth 100000 in
set_option maxHeartbeats 3200000 in
theorem set_of_list {l : Addr} {items : Array Value} {ns : List Int} {Q : Value → Shared → Prop} (hh : A.handled = none) (hl : s.heap.IsList l items) (hi : IntsAre items.toList ns) (hb : items.size + 1 < scanBound)
    (h : ∀ (h' : Heap) (tk : Nat), SetI prog w h' s.heap.objs.size (firstMet (fun i => ns.getD i 0) items.size) → (∀ b o, b < s.heap.objs.size → s.heap.get? b = some o → h'.get? b = some o) → Q (.ref s.heap.objs.size) { s with heap := h', toks := tk }) :
    wpAny (model prog w) A (call (.type "set") [.ref l]) Q E s := by
  obtain ⟨c, tl, hmro⟩ := PySem.F.called_set.mro
  have hmade := PySem.F.called_set.made
  have hsub := PySem.F.called_set.sub
  refine wpAny_call (codeAny_of_tree ?_)
  show wpAny _ _ (callAny (.type "set") _) _ _ _
  refine wpAny_pure ⟨Code.quiet_builtin _ (by decide +kernel), codeAny_builtin PySem.F.entry_type_call ?_⟩
  rw [Around.under_plain (weight_type_call_type "set" [.ref l] []) rfl]
  have h1 := PySem.F.called_set.notType
  have h2 := PySem.F.called_set.canCreate
  have hct := PySem.F.typeCall_set_1 (.ref l)
  repeat (any_goals (first | assumption | wp_step))
  refine codeAny_mono (set_new (.ref l) (E := E) (Q₁ := fun obj s₁ => obj = .ref s.heap.objs.size ∧ s₁ = { s with heap := s.heap.push (newSetObj w) }) ⟨rfl, rfl⟩) fun r s₁ hr => ?_
  cases r with
  | error e => exact hr
  | ok fl =>
    cases fl with
    | ret obj =>
      obtain ⟨rfl, rfl⟩ := hr
      have hS : (s.heap.push (newSetObj w)).get? s.heap.objs.size = some (newSetObj w) := Heap.get?_push_size _ rfl
      have hT : Shared.TypeIs { s with heap := s.heap.push (newSetObj w) } (.ref s.heap.objs.size) "set" := ⟨_, hS, rfl⟩
      have hli := PySem.F.called_set.init.lookup
      have hbi := PySem.F.called_set.init.bind (.ref s.heap.objs.size)
      repeat (any_goals (first | assumption | wp_step))
      refine codeAny_mono (codeAny_call_builtin (R := wants (fun r s₂ => r = .none ∧ ∃ h' tk, s₂ = { s with heap := h', toks := tk } ∧ SetI prog w h' s.heap.objs.size (firstMet (fun i => ns.getD i 0) items.size) ∧
          (∀ b o, b < s.heap.objs.size → s.heap.get? b = some o → h'.get? b = some o)) E) PySem.F.called_set.init.plain PySem.F.entry_set_init (check_set_init_1 hT ?_)) fun r₂ s₂ hr₂ => ?_
      · obtain ⟨ol, hol, hcl, nl, hdl⟩ := hl
        obtain ⟨ocls, odict, odata, oslots⟩ := ol
        simp only at hcl hdl
        subst hcl; subst hdl
        have hol' : (s.heap.push (newSetObj w)).get? l = some { cls := .type "list", dict := odict, data := .seq items nl, slots := oslots } := Heap.get?_push_of_some _ hol
        have hsls := PySem.F.sub_list_set
        have hslf := PySem.F.sub_list_frozenset
        have hne : (Value.type "list" == Value.type "dict") = false := by decide
        have hl1 : (s.heap.push (newSetObj w)).IsList l items := ⟨_, hol', rfl, nl, rfl⟩
        unfold Builtin.«set.__init__» noKeywords Builtin.Frozenset.updateFrom
        generalize hPI : pyIter = PI
        wp_walk
        subst hPI
        refine wpAny_pyIter_list hl1 ?_
        refine wpAny_bind (wpAny_runValue ?_)
        have hlS : l < s.heap.objs.size := Heap.lt_size hol
        have hh3 : A.in1.in1.in1.handled = none := by simp [hh]
        have hneI : l ≠ (s.heap.push (newSetObj w)).objs.size := by
          rw [Heap.size_push]; exact Nat.ne_of_lt (Nat.lt_succ_of_lt hlS)
        have hSf : s.heap.objs.size ∉ [(s.heap.push (newSetObj w)).objs.size, l] := by
          rw [Heap.size_push]; simp only [List.mem_cons, List.mem_singleton, List.not_mem_nil, or_false, not_or]
          exact ⟨Nat.ne_of_lt (Nat.lt_succ_self _), Nat.ne_of_gt hlS⟩
        have hval : ∀ (i : Nat) (v : Value), items[i]? = some v → ∃ t, v = .int ((fun i => ns.getD i 0) i) t := fun i v hv =>
          IntsAre.int_at hi i v (by rw [Array.getElem?_toList]; exact hv)
        refine set_loop ((Walks.list hh3 _ l hneI items).toS) s.heap.objs.size hSf (fun i => ns.getD i 0) hval hb (items.size - 0) 0 _ (by omega) (Nat.zero_le _)
          ⟨⟨_, Heap.get?_push_size _ rfl, rfl, rfl⟩, (hl1.push _)⟩ (fresh_set (Heap.get?_push_of_some _ hS)) ?_
        intro s' hm hS'
        obtain ⟨h', g', d', tk', os'⟩ := s'
        have eg : g' = s.gens := hm.gens
        have ed : d' = s.drawn := hm.drawn
        have eo : os' = s.os := hm.os
        subst eg; subst ed; subst eo
        show wpAny _ _ _ _ _ _
        refine wpAny_pure ?_
        show wpAny _ _ (ret Value.none) _ _ _
        refine wpAny_pure ⟨rfl, h', tk', rfl, hS', fun b o hb e => ?_⟩
        have hb1 : b ≠ s.heap.objs.size := Nat.ne_of_lt hb
        have hb2 : b ≠ (s.heap.push (newSetObj w)).objs.size := by
          rw [Heap.size_push]; exact Nat.ne_of_lt (Nat.lt_succ_of_lt hb)
        exact hm.heap b o (by simp only [List.mem_cons, List.mem_singleton, List.not_mem_nil, or_false, not_or]; exact ⟨hb1, hb2⟩) (Heap.get?_push_of_some _ (Heap.get?_push_of_some _ e))
      · cases r₂ with
        | error e => exact hr₂
        | ok fl₂ =>
          cases fl₂ with
          | ret r =>
            obtain ⟨rfl, h', tk, rfl, hS', hk'⟩ := hr₂
            repeat (any_goals (first | assumption | wp_step))
            exact h _ _ hS' hk'
          | _ => exact hr₂.elim
    | _ => exact hr.elim
end
end L2
namespace L2
open PySem PySem.W PySem.Spec PyProof.Rows
theorem erase_perm {α : Type} : ∀ (xs : List α) (i : Nat) (hi : i < xs.length), (xs[i] :: xs.eraseIdx i).Perm xs
  | [], i, hi => absurd hi (Nat.not_lt_zero _)
  | x :: xs, 0, _ => .refl _
  | x :: xs, i + 1, hi => by
    have hi' : i < xs.length := by simpa using hi
    have ih := erase_perm xs i hi'
    show (xs[i] :: x :: xs.eraseIdx i).Perm (x :: xs)
    exact (List.Perm.swap _ _ _).trans (ih.cons x)
section
variable {prog : Program} {w : World} {A : Around} {E : Value → Shared → Prop} {s : Shared}
theorem choose_any {src : Source} {n : Nat} {Q : Nat → Shared → Prop} (hn : n ≠ 0) (h : ∀ x d, x < n → Q x { s with drawn := d }) : wpAny (model prog w) A (choose src n) Q E s := fun Γ p _ => by
  unfold choose
  rw [Sem.wp_choose]
  exact ⟨hn, h _ _ (Nat.mod_lt _ (Nat.pos_of_ne_zero hn))⟩
theorem draw_any {α : Type} : ∀ (n : Nat) (xs : List α) (s : Shared) {Q : List α → Shared → Prop}, xs.length = n → (∀ ys d, ys.Perm xs → Q ys { s with drawn := d }) → wpAny (model prog w) A (drawOrder n xs) Q E s
  | 0, xs, s, Q, hl, h => by
    have : xs = [] := List.length_eq_zero_iff.mp hl
    subst this
    have := h [] s.drawn (.refl _)
    exact wpAny_pure this
  | n + 1, [], s, Q, hl, h => by simp at hl
  | n + 1, x :: xs, s, Q, hl, h => by
    unfold drawOrder
    refine wpAny_bind (choose_any (by simp) fun i d hi => ?_)
    have e : (x :: xs)[i]? = some (x :: xs)[i] := by simp [hi]
    rw [e]
    dsimp only
    refine wpAny_bind (draw_any n ((x :: xs).eraseIdx i) _ (by rw [List.length_eraseIdx, if_pos hi]; simp at hl ⊢; omega) fun ys d' hp => wpAny_pure ?_)
    refine h _ d' ?_
    exact (hp.cons _).trans (erase_perm _ _ hi)
end
theorem pick_go {α : Type} (next : Nat → Nat) : ∀ (f k : Nat) (left : List α) (out : Array α), left.length = f → (pickOrder.go next f k left out).toList.Perm (out.toList ++ left)
  | 0, k, left, out, hl => by
    have : left = [] := List.length_eq_zero_iff.mp hl
    subst this
    simp [pickOrder.go]
  | f + 1, k, left, out, hl => by
    unfold pickOrder.go
    have hi : next k % left.length < left.length := Nat.mod_lt _ (by omega)
    have e : left[next k % left.length]? = some left[next k % left.length] := by simp [hi]
    rw [e]
    dsimp only
    refine (pick_go next f (k + 1) (left.eraseIdx (next k % left.length)) _ (by rw [List.length_eraseIdx, if_pos hi]; omega)).trans ?_
    rw [Array.toList_push, List.append_assoc]
    exact List.Perm.append_left _ (erase_perm _ _ hi)
theorem pick_perm {α : Type} (next : Nat → Nat) (xs : Array α) : (pickOrder next xs).toList.Perm xs.toList := by
  have := pick_go next xs.size 0 xs.toList #[] (by simp)
  simpa [pickOrder] using this
def SetRaw (h : Heap) (a : Addr) (es : Array (Int × Value)) (ep : Nat) (t : SetTable) : Prop := ∃ o, h.get? a = some o ∧ o.ExactSet ∧ o.data = .set es ep t
theorem SetRaw.at {h h' : Heap} {a : Addr} {es : Array (Int × Value)} {ep : Nat} {t : SetTable} (x : SetRaw h a es ep t) (e : ∀ o, h.get? a = some o → h'.get? a = some o) : SetRaw h' a es ep t := let ⟨o, ho, r⟩ := x; ⟨o, e o ho, r⟩
theorem SetRaw.typeIs {s : Shared} {a : Addr} {es : Array (Int × Value)} {ep : Nat} {t : SetTable} (x : SetRaw s.heap a es ep t) : s.TypeIs (.ref a) "set" := let ⟨o, ho, hc, _⟩ := x; ⟨o, ho, hc.1⟩
def isDrawn (es : Array (Int × Value)) (t : SetTable) : Bool := !t.plain && decide (es.size > 1)
def stand (t : SetTable) : Nat → Nat
  | 0 => 0
  | i + 1 => t.place.getD i 0 + 1
def SIt (w : World) (h : Heap) (I tp a : Addr) (es : Array (Int × Value)) (ep : Nat) (t : SetTable) (out : List Value) (i : Nat) : Prop :=
  ∃ first, (∃ o, h.get? I = some o ∧ o.cls = .type "set_iterator" ∧ o.data = .fields #[first, rawInt i, .ref a, rawInt es.size, rawInt ep]) ∧
    ((byText w = true ∧ first = rawInt 0 ∧ out = (pickOrder (w.params.setOrder a ep) es).toList.map (·.2)) ∨
     (byText w = false ∧ isDrawn es t = true ∧ first = .ref tp ∧ ∃ ps : List Nat, (∃ o n, h.get? tp = some o ∧ o.data = .seq (ps.map fun (p : Nat) => rawInt p).toArray n) ∧ ps.Perm (List.range es.size) ∧ out = ps.map fun p => (es.getD p (0, Value.none)).2) ∨
     (byText w = false ∧ isDrawn es t = false ∧ Walk t ∧ first = rawInt (stand t i) ∧ out = es.toList.map (·.2)))
theorem SIt.perm {w : World} {h : Heap} {I tp a : Addr} {es : Array (Int × Value)} {ep : Nat} {t : SetTable} {out : List Value} {i : Nat} (x : SIt w h I tp a es ep t out i) : out.Perm (es.toList.map (·.2)) := by
  obtain ⟨_, _, ⟨_, _, e⟩ | ⟨_, _, _, ps, _, p, e⟩ | ⟨_, _, _, _, e⟩⟩ := x
  · rw [e]
    exact (pick_perm _ _).map _
  · rw [e]
    have q := p.map fun p => (es.getD p (0, Value.none)).2
    refine q.trans (.of_eq ?_)
    apply List.ext_getElem
    · simp
    · intro i h1 h2
      have hi : i < es.size := by simpa using h1
      simp [Array.getD, hi]
  · rw [e]
section
variable {prog : Program} {w : World} {A : Around} {E : Value → Shared → Prop} {s : Shared} {a : Addr} {es : Array (Int × Value)} {ep : Nat} {t : SetTable}
theorem set_iter_entry : entryFor table "set.__iter__" = some Builtin.«frozenset.__iter__» :=
  entryFor_alias (id' := "frozenset.__iter__") (by kernel_rfl) (by first | rfl | decide +kernel | (unfold String.splitOn; simp +decide [String.splitOnAux])) (by decide +kernel) (by kernel_rfl)
theorem set_next_slot : Slot "set_iterator" "__next__" "set_iterator.__next__" :=
  .of (owner := "set_iterator") (n := "__next__") (by rw [typeLookup_type, builtinLookup_eq_fast]; kernel_rfl) (by decide +kernel) (by decide +kernel) (by decide +kernel)
    (by first | exact .inl (by decide +kernel) | exact .inr (by decide +kernel)) (by rw [isSubtype_type]; kernel_rfl)
theorem set_next_entry : entryFor table "set_iterator.__next__" = some Builtin.«set_iterator.__next__» := entryFor_of_tree (by kernel_rfl)
theorem set_next_args (a : Value) : argsOk "set_iterator.__next__" ⟨[a], []⟩ := by
  unfold argsOk
  kernel_rfl
theorem state_ok {Q : (Array (Int × Value) × Nat × SetTable) → Shared → Prop} (x : SetRaw s.heap a es ep t) (hf : t.fits es.size = true) (h : Q (es, ep, t) s) : wpAny (model prog w) A (setState a) Q E s := by
  obtain ⟨o, ho, _, hd⟩ := x
  exact wpAny_setState_of ho hd hf h
theorem set_iter {Q : Value → Shared → Prop} (x : SetRaw s.heap a es ep t) (hf : t.fits es.size = true) (hz : es.size ≤ sizeLine) (hw : byText w = true ∨ Walk t)
    (h : ∀ (h' : Heap) (d : Drawn) (I tp : Addr) (out : List Value), (∀ b o, s.heap.get? b = some o → h'.get? b = some o) → s.heap.objs.size ≤ I → s.heap.objs.size ≤ tp → tp ≠ I → I < h'.objs.size → SIt w h' I tp a es ep t out 0 → Q (.ref I) { s with heap := h', drawn := d }) :
    wpAny (model prog w) A (pyIter (.ref a)) Q E s := by
  have hT := x.typeIs
  refine wpAny_pyIter_slot hT PySem.F.slot_set_iter (wpAny_call_entry PySem.F.slot_set_iter hT set_iter_entry ?_ (PySem.F.args_set_iter_1 _))
  unfold Builtin.«frozenset.__iter__»
  refine wpAny_bind (m := Builtin.Frozenset.slot0 "__iter__" ⟨[.ref a], []⟩) (wpAny_of_eq (a := a) rfl ?_)
  refine wpAny_bind ?_
  unfold Builtin.Frozenset.sizeOf
  refine wpAny_bind ?_
  unfold setEntries
  refine wpAny_bind (state_ok x hf (wpAny_pure (wpAny_pure ?_)))
  dsimp only
  refine wpAny_bind ?_
  unfold setDrawn
  refine wpAny_bind (state_ok x hf ?_)
  dsimp only
  refine wpAny_bind ?_
  unfold setsByText
  refine wpAny_bind (wpAny_askSetting (wpAny_pure ?_))
  refine wpAny_pure ?_
  show wpAny _ _ (if (!byText w && isDrawn es t) = true then _ else _) _ _ s
  have fin : ∀ (s1 : Shared) (first : Value), (∀ b o, s.heap.get? b = some o → s1.heap.get? b = some o) → s.heap.objs.size ≤ s1.heap.objs.size → (∃ d, s1 = { s with heap := s1.heap, drawn := d }) →
      (∀ h', (∀ b o, s1.heap.get? b = some o → h'.get? b = some o) → h'.get? s1.heap.objs.size = some { cls := .type "set_iterator", data := .fields #[first, rawInt 0, .ref a, rawInt es.size, rawInt ep] } →
        ∃ tp out, s.heap.objs.size ≤ tp ∧ tp ≠ s1.heap.objs.size ∧ SIt w h' s1.heap.objs.size tp a es ep t out 0) →
      wpAny (model prog w) A.in1 (setEpoch a >>= fun e => newFields "set_iterator" [first, rawInt 0, Value.ref a, rawInt es.size, rawInt e] >>= fun v => ret v)
        (fun fin s' => ∃ v, fin = Fin.done (Flow.ret v) ∧ ∃ T' r, s'.TypeIs v T' ∧ typeLookup (Value.type T') (Str.ofString "__next__") = pure (some r) ∧ Q v s') E s1 := by
    intro s1 first k1 k2 k3 k4
    obtain ⟨d, k3⟩ := k3
    have x1 : SetRaw s1.heap a es ep t := x.at fun o e => k1 a o e
    refine wpAny_bind ?_
    unfold setEpoch
    refine wpAny_bind (state_ok x1 hf (wpAny_pure ?_))
    dsimp only
    refine wpAny_bind (m := newFields "set_iterator" [first, rawInt 0, Value.ref a, rawInt es.size, rawInt ep]) ?_
    unfold newFields
    refine wpAny_newObj_type (wpAny_pure ⟨_, rfl, "set_iterator", _, ⟨_, Heap.get?_push_size _ rfl, rfl⟩, set_next_slot.lookup, ?_⟩)
    obtain ⟨tp, out, z1, z3, z2⟩ := k4 (s1.heap.push { cls := .type "set_iterator", data := .fields #[first, rawInt 0, .ref a, rawInt es.size, rawInt ep] }) (fun b o e => Heap.get?_push_of_some _ e) (Heap.get?_push_size _ rfl)
    have := h _ d s1.heap.objs.size tp out (fun b o e => Heap.get?_push_of_some _ (k1 b o e)) k2 z1 z3 (by rw [size_push']; exact Nat.lt_succ_self _) z2
    rw [k3]
    exact this
  cases eb : byText w with
  | true =>
    rw [if_neg (by simp)]
    refine wpAny_bind (wpAny_pure ?_)
    refine fin s (rawInt 0) (fun b o e => e) (Nat.le_refl _) ⟨s.drawn, rfl⟩ fun h' k e => ⟨s.heap.objs.size + 1, _, Nat.le_succ _, Nat.succ_ne_self _, rawInt 0, ⟨_, e, rfl, rfl⟩, .inl ⟨eb, rfl, rfl⟩⟩
  | false =>
    have wk : Walk t := hw.resolve_left (by rw [eb]; decide)
    cases ed : isDrawn es t with
    | false =>
      rw [if_neg (by decide)]
      refine wpAny_bind (wpAny_pure ?_)
      refine fin s (rawInt 0) (fun b o e => e) (Nat.le_refl _) ⟨s.drawn, rfl⟩ fun h' k e => ⟨s.heap.objs.size + 1, _, Nat.le_succ _, Nat.succ_ne_self _, rawInt 0, ⟨_, e, rfl, rfl⟩, .inr (.inr ⟨eb, ed, wk, rfl, rfl⟩)⟩
    | true =>
      rw [if_pos (by decide)]
      refine wpAny_bind (draw_any es.size (List.range es.size) s (by simp) fun ps d hp => ?_)
      refine wpAny_bind (wpAny_newTuple ?_ (by rw [List.length_map, hp.length_eq, List.length_range]; exact hz))
      refine fin _ (.ref s.heap.objs.size) (fun b o e => Heap.get?_push_of_some _ e) (by show s.heap.objs.size ≤ (s.heap.push _).objs.size; rw [size_push']; exact Nat.le_succ _) ⟨d, rfl⟩ fun h' k e => ⟨s.heap.objs.size, _, Nat.le_refl _, (by show s.heap.objs.size ≠ (s.heap.push _).objs.size; rw [size_push']; exact Nat.ne_of_lt (Nat.lt_succ_self _)), .ref s.heap.objs.size, ⟨_, e, rfl, rfl⟩, .inr (.inl ⟨eb, ed, rfl, ps, ⟨_, _, k _ _ (Heap.get?_push_size _ rfl), rfl⟩, hp, rfl⟩)⟩
theorem next_text {slot i : Nat} {Q : Option (Value × Nat) → Shared → Prop} (b : byText w = true) (x : SetRaw s.heap a es ep t) (hf : t.fits es.size = true)
    (h : Q (((pickOrder (w.params.setOrder a ep) es)[i]?).map fun e => (e.2, slot)) s) : wpAny (model prog w) A (setNext a slot i ep) Q E s := by
  unfold setNext
  refine wpAny_bind (state_ok x hf ?_)
  dsimp only
  refine wpAny_bind ?_
  unfold setsByText
  refine wpAny_bind (wpAny_askSetting (wpAny_pure ?_))
  refine wpAny_ite_split (fun _ => ?_) (fun hab => absurd b hab)
  refine wpAny_ite_split (fun hab => absurd hab (by simp)) (fun _ => ?_)
  refine wpAny_bind ?_
  unfold setWalk
  refine wpAny_bind (state_ok x hf ?_)
  dsimp only
  refine wpAny_bind ?_
  unfold setsByText
  refine wpAny_bind (wpAny_askSetting (wpAny_pure ?_))
  refine wpAny_ite_split (fun _ => ?_) (fun hab => absurd b hab)
  refine wpAny_bind (wpAny_askSetting (wpAny_pure (wpAny_pure ?_)))
  exact h
theorem next_led {slot i : Nat} {Q : Option (Value × Nat) → Shared → Prop} (b : byText w = false) (d : isDrawn es t = false) (wk : Walk t) (x : SetRaw s.heap a es ep t) (hf : t.fits es.size = true)
    (h : Q (match es[SetTable.below t.place slot]?, t.place[SetTable.below t.place slot]? with | some (_, x), some j => some (x, j + 1) | _, _ => none) s) : wpAny (model prog w) A (setNext a slot i ep) Q E s := by
  unfold setNext
  refine wpAny_bind (state_ok x hf ?_)
  dsimp only
  refine wpAny_bind ?_
  unfold setsByText
  refine wpAny_bind (wpAny_askSetting (wpAny_pure ?_))
  refine wpAny_ite_split (fun hab => absurd (show byText w = true from hab) (by rw [b]; decide)) (fun _ => ?_)
  refine wpAny_ite_split (fun hab => absurd (show isDrawn es t = true from hab) (by rw [d]; decide)) (fun _ => ?_)
  refine wpAny_bind ?_
  show wpAny _ _ (if (!t.led && !es.isEmpty) = true then _ else _) _ _ s
  rw [if_neg (by rw [wk.2]; simp)]
  refine wpAny_pure ?_
  exact wpAny_pure h
theorem next_drawn {p : Nat} {Q : Value → Shared → Prop} (x : SetRaw s.heap a es ep t) (hf : t.fits es.size = true) (hp : p < es.size) (h : Q (es.getD p (0, Value.none)).2 s) : wpAny (model prog w) A (setNextDrawn a p ep) Q E s := by
  unfold setNextDrawn
  refine wpAny_bind (state_ok x hf ?_)
  dsimp only
  refine wpAny_ite_split (fun hab => absurd hab (by simp)) (fun _ => ?_)
  have e : es[p]? = some (es.getD p (0, Value.none)) := by simp [Array.getD, hp]
  rw [e]
  exact wpAny_pure h
theorem put_field {I : Addr} {o : Obj} {xs : Array Value} {k : Nat} {g : Value} {Q : Unit → Shared → Prop} (ho : s.heap.get? I = some o) (hd : o.data = .fields xs) (hk : k < xs.size)
    (h : ∀ h' o', h'.get? I = some o' → o'.cls = o.cls → o'.data = .fields (xs.setIfInBounds k g) → Heap.SameBut I s.heap h' → Q () { s with heap := h' }) : wpAny (model prog w) A (setField (.ref I) k g) Q E s := by
  refine wpAny_setField ho hd hk ?_
  exact h _ _ (Heap.get?_update_self _ ho (Obj.isFreed_of_fields (Obj.data_mapFields hd _))) (Obj.cls_mapFields ..) (by rw [Obj.data_mapFields hd]) (Heap.SameBut.update ..)
theorem set_next {I tp : Addr} {out : List Value} {i : Nat} {v : Value} {Q : Option Value → Shared → Prop} (x : SetRaw s.heap a es ep t) (hf : t.fits es.size = true) (y : SIt w s.heap I tp a es ep t out i) (hv : out[i]? = some v) (n1 : a ≠ I) (n2 : tp ≠ I)
    (h : ∀ h', SIt w h' I tp a es ep t out (i + 1) → Heap.SameBut I s.heap h' → Q (some v) { s with heap := h' }) : wpAny (model prog w) A (pyNext (.ref I)) Q E s := by
  have hp := y.perm
  obtain ⟨first, ⟨o, ho, hc, hd⟩, y⟩ := y
  have hT : s.TypeIs (.ref I) "set_iterator" := ⟨o, ho, hc⟩
  unfold pyNext
  refine wpAny_bind (wpAny_attempt (wpAny_callSpecial?_slot (name := Str.ofString "__next__") hT set_next_slot (wpAny_call_entry set_next_slot hT set_next_entry ?_ (set_next_args _))))
  unfold Builtin.«set_iterator.__next__»
  refine wpAny_bind (wpAny_of_eq (a := (Value.ref I, [])) rfl ?_)
  refine wpAny_bind (wpAny_fieldsOf ho hd ?_)
  dsimp only [rawInt]
  refine wpAny_bind ?_
  unfold setEntries
  refine wpAny_bind (state_ok x hf (wpAny_pure ?_))
  dsimp only
  rw [if_neg (by simp)]
  rcases y with ⟨b1, rfl, b2⟩ | ⟨b1, b2, rfl, ps, ⟨ot, nt, hot, hdt⟩, pp, b3⟩ | ⟨b1, b2, b3, rfl, b4⟩
  · have hi : (pickOrder (w.params.setOrder a ep) es)[i]?.map (·.2) = some v := by
      rw [b2, List.getElem?_map, Array.getElem?_toList] at hv
      exact hv
    cases e : (pickOrder (w.params.setOrder a ep) es)[i]? with
    | none => rw [e] at hi; cases hi
    | some q =>
      rw [e] at hi
      have hq : q.2 = v := Option.some.inj hi
      refine wpAny_bind (show wpAny _ _ (setNext a 0 i ep) _ _ s from next_text b1 x hf ?_)
      rw [e]
      show wpAny _ _ (setField (Value.ref I) 0 (Value.int (0 : Nat) 0) >>= fun _ => setField (Value.ref I) 1 (Value.int ((i : Int) + 1) 0) >>= fun _ => ret q.2) _ _ s
      refine wpAny_bind (put_field ho hd (by simp) fun h1 o1 g1 g2 g3 s1 => ?_)
      refine wpAny_bind (put_field (s := { s with heap := h1 }) g1 g3 (by simp) fun h2 o2 k1 k2 k3 s2 => ?_)
      rw [hq]
      exact wpAny_pure ⟨_, rfl, wpAny_pure (h h2 ⟨rawInt 0, ⟨o2, k1, k2.trans (g2.trans hc), by rw [k3]; simp [rawInt]⟩, .inl ⟨b1, rfl, b2⟩⟩ (s1.trans s2))⟩
  · have hl : ps.length = es.size := by rw [pp.length_eq, List.length_range]
    have hi : i < ps.length := by
      rw [b3, List.getElem?_map] at hv
      cases e : ps[i]? with
      | none => rw [e] at hv; cases hv
      | some q => exact (List.getElem?_eq_some_iff.mp e).1
    have hv' : v = (es.getD ps[i] (0, Value.none)).2 := by
      rw [b3, List.getElem?_map, List.getElem?_eq_getElem hi] at hv
      exact (Option.some.inj hv).symm
    have hlt : ps[i] < es.size := List.mem_range.mp (pp.mem_iff.mp (List.getElem_mem hi))
    refine wpAny_bind (m := seqItems? (Value.ref tp)) (wpAny_seqItems hot hdt ?_)
    dsimp only
    have e : (List.toArray (ps.map fun (p : Nat) => rawInt (p : Int)))[(i : Int).toNat]? = some (Value.int (ps[i] : Nat) 0) := by simp [hi, rawInt]
    rw [e]
    refine wpAny_bind (show wpAny _ _ (setNextDrawn a ps[i] ep) _ _ s from next_drawn x hf hlt ?_)
    refine wpAny_bind (put_field ho hd (by simp) fun h1 o1 g1 g2 g3 s1 => ?_)
    rw [← hv']
    refine wpAny_pure ⟨_, rfl, wpAny_pure ?_⟩
    exact h h1 ⟨.ref tp, ⟨o1, g1, g2.trans hc, by rw [g3]; simp [rawInt]⟩, .inr (.inl ⟨b1, b2, rfl, ps, ⟨ot, nt, (s1.2 tp n2).trans hot, hdt⟩, pp, b3⟩)⟩ s1
  · have hi : i < es.size := by
      rw [b4, List.getElem?_map] at hv
      cases e : es.toList[i]? with
      | none => rw [e] at hv; cases hv
      | some q =>
        have := (List.getElem?_eq_some_iff.mp e).1
        simpa using this
    have hv' : v = (es[i]).2 := by
      rw [b4, List.getElem?_map, List.getElem?_eq_getElem (by simpa using hi)] at hv
      simpa using (Option.some.inj hv).symm
    have hpl : t.place.size = es.size := by
      unfold SetTable.fits at hf
      simp at hf
      exact hf.1
    have hb : SetTable.below t.place (stand t i) = i := by
      cases i with
      | zero => exact below_zero b3.1
      | succ i => exact below_next b3.1 (by omega)
    refine wpAny_bind (show wpAny _ _ (setNext a (stand t i) i ep) _ _ s from next_led b1 b2 b3 x hf ?_)
    rw [hb, Array.getElem?_eq_getElem hi, Array.getElem?_eq_getElem (by omega)]
    show wpAny _ _ (setField (Value.ref I) 0 (Value.int ((t.place[i]'(by omega) + 1 : Nat)) 0) >>= fun _ => setField (Value.ref I) 1 (Value.int ((i : Int) + 1) 0) >>= fun _ => ret (es[i]).2) _ _ s
    refine wpAny_bind (put_field ho hd (by simp) fun h1 o1 g1 g2 g3 s1 => ?_)
    refine wpAny_bind (put_field (s := { s with heap := h1 }) g1 g3 (by simp) fun h2 o2 k1 k2 k3 s2 => ?_)
    rw [← hv']
    have es' : stand t (i + 1) = t.place[i]'(by omega) + 1 := by
      show t.place.getD i 0 + 1 = _
      rw [Array.getD_eq_getD_getElem?, Array.getElem?_eq_getElem (by omega)]
      rfl
    refine wpAny_pure ⟨_, rfl, wpAny_pure (h h2 ⟨rawInt (stand t (i + 1)), ⟨o2, k1, k2.trans (g2.trans hc), ?_⟩, .inr (.inr ⟨b1, b2, b3, rfl, b4⟩)⟩ (s1.trans s2))⟩
    rw [k3, es']
    simp [rawInt]
theorem stop_iter {Q : Option Value → Shared → Prop} {I : Addr} {h0 : Heap} (hh : A.handled = none) (ex : Heap.ExtBut I h0 s.heap) (h : ∀ h', Heap.ExtBut I h0 h' → Q none { s with heap := h' }) :
    wpAny (model prog w) A.in1 (newExc (.type "StopIteration") [] >>= fun e => (raiseNew e : Sem PySem.Fin)) (fun fin s' => ∃ v, fin = Fin.done (Flow.ret v) ∧ wpAny (model prog w) A (pure (some v)) Q E s')
      (fun e s' => wpAny (model prog w) A (isInstance e (.type "StopIteration") >>= fun b => if b = true then pure none else throw e) Q E s') s := by
  refine wpAny_bind ?_
  simp only [newExc, newTuple]
  refine wpAny_bind (wpAny_newObj_type ?_ (by size_fits))
  refine wpAny_bind (m := firstArgMember _ _) (wpAny_of_eq (a := Value.none) (by first | rfl | (simp only [firstArgMember]; rfl)) ?_)
  refine wpAny_newObj_type ?_ (by size_fits)
  simp only [raiseNew]
  refine wpAny_bind (wpAny_handled ?_)
  rw [show A.in1.handled = none from hh]
  refine wpAny_bind (wpAny_pure (wpAny_throw ?_))
  refine wpAny_bind (wpAny_isInstance (T := "StopIteration") (b := true) ⟨_, Heap.get?_push_size _ rfl, rfl⟩ isSubtype_stop ?_)
  exact wpAny_pure (h _ ((ex.push _).push _))
theorem set_end {I tp : Addr} {out : List Value} {Q : Option Value → Shared → Prop} (hh : A.handled = none) (x : SetRaw s.heap a es ep t) (hf : t.fits es.size = true) (y : SIt w s.heap I tp a es ep t out es.size)
    (h : ∀ h', Heap.ExtBut I s.heap h' → Q none { s with heap := h' }) : wpAny (model prog w) A (pyNext (.ref I)) Q E s := by
  obtain ⟨first, ⟨o, ho, hc, hd⟩, y⟩ := y
  have hT : s.TypeIs (.ref I) "set_iterator" := ⟨o, ho, hc⟩
  unfold pyNext
  refine wpAny_bind (wpAny_attempt (wpAny_callSpecial?_slot (name := Str.ofString "__next__") hT set_next_slot (wpAny_call_entry set_next_slot hT set_next_entry ?_ (set_next_args _))))
  unfold Builtin.«set_iterator.__next__»
  refine wpAny_bind (wpAny_of_eq (a := (Value.ref I, [])) rfl ?_)
  refine wpAny_bind (wpAny_fieldsOf ho hd ?_)
  dsimp only [rawInt]
  refine wpAny_bind ?_
  unfold setEntries
  refine wpAny_bind (state_ok x hf (wpAny_pure ?_))
  dsimp only
  rw [if_neg (by simp)]
  rcases y with ⟨b1, rfl, b2⟩ | ⟨b1, b2, rfl, ps, ⟨ot, nt, hot, hdt⟩, pp, b3⟩ | ⟨b1, b2, b3, rfl, b4⟩
  · have hz : (pickOrder (w.params.setOrder a ep) es).size = es.size := by
      have := (pick_perm (w.params.setOrder a ep) es).length_eq
      simpa using this
    refine wpAny_bind (show wpAny _ _ (setNext a 0 es.size ep) _ _ s from next_text b1 x hf ?_)
    rw [Array.getElem?_eq_none (by omega)]
    show wpAny _ _ (setField (Value.ref I) 2 Value.none >>= fun _ => newExc (.type "StopIteration") [] >>= fun e => raiseNew e) _ _ s
    refine wpAny_bind (put_field ho hd (by simp) fun h1 o1 g1 g2 g3 s1 => ?_)
    exact stop_iter (s := { s with heap := h1 }) hh s1.extBut fun h' e => h h' e
  · have hl : ps.length = es.size := by rw [pp.length_eq, List.length_range]
    refine wpAny_bind (m := seqItems? (Value.ref tp)) (wpAny_seqItems hot hdt ?_)
    dsimp only
    have e : (List.toArray (ps.map fun (p : Nat) => rawInt (p : Int)))[(es.size : Int).toNat]? = none := by simp [hl]
    rw [e]
    refine wpAny_bind (put_field ho hd (by simp) fun h1 o1 g1 g2 g3 s1 => ?_)
    refine wpAny_bind (put_field (s := { s with heap := h1 }) g1 g3 (by simp) fun h2 o2 k1 k2 k3 s2 => ?_)
    exact stop_iter (s := { s with heap := h2 }) hh (s1.trans s2).extBut fun h' e => h h' e
  · have hpl : t.place.size = es.size := by
      unfold SetTable.fits at hf
      simp at hf
      exact hf.1
    have hb : SetTable.below t.place (stand t es.size) = es.size := by
      cases e : es.size with
      | zero => exact below_zero b3.1
      | succ i => exact below_next b3.1 (by omega)
    refine wpAny_bind (show wpAny _ _ (setNext a (stand t es.size) es.size ep) _ _ s from next_led b1 b2 b3 x hf ?_)
    rw [hb, Array.getElem?_eq_none (Nat.le_refl _)]
    show wpAny _ _ (setField (Value.ref I) 2 Value.none >>= fun _ => newExc (.type "StopIteration") [] >>= fun e => raiseNew e) _ _ s
    refine wpAny_bind (put_field ho hd (by simp) fun h1 o1 g1 g2 g3 s1 => ?_)
    exact stop_iter (s := { s with heap := h1 }) hh s1.extBut fun h' e => h h' e
theorem SIt.at {h h' : Heap} {I tp : Addr} {out : List Value} {i : Nat} (x : SIt w h I tp a es ep t out i) (e1 : ∀ o, h.get? I = some o → h'.get? I = some o) (e2 : ∀ o, h.get? tp = some o → h'.get? tp = some o) : SIt w h' I tp a es ep t out i := by
  obtain ⟨f, ⟨o, ho, hc⟩, ⟨b1, b2⟩ | ⟨b1, b2, b3, ps, ⟨ot, nt, hot, hdt⟩, b4⟩ | ⟨b1, b2⟩⟩ := x
  · exact ⟨f, ⟨o, e1 o ho, hc⟩, .inl ⟨b1, b2⟩⟩
  · exact ⟨f, ⟨o, e1 o ho, hc⟩, .inr (.inl ⟨b1, b2, b3, ps, ⟨ot, nt, e2 ot hot, hdt⟩, b4⟩)⟩
  · exact ⟨f, ⟨o, e1 o ho, hc⟩, .inr (.inr ⟨b1, b2⟩)⟩
theorem SIt.typeIs {s : Shared} {I tp : Addr} {out : List Value} {i : Nat} (x : SIt w s.heap I tp a es ep t out i) : s.TypeIs (.ref I) "set_iterator" := by
  obtain ⟨f, ⟨o, ho, hc, _⟩, _⟩ := x
  exact ⟨o, ho, hc⟩
theorem seti_iter_slot : Slot "set_iterator" "__iter__" "set_iterator.__iter__" :=
  .of (owner := "set_iterator") (n := "__iter__") (by rw [typeLookup_type, builtinLookup_eq_fast]; kernel_rfl) (by decide +kernel) (by decide +kernel) (by decide +kernel)
    (by first | exact .inl (by decide +kernel) | exact .inr (by decide +kernel)) (by rw [isSubtype_type]; kernel_rfl)
theorem seti_iter_entry : entryFor table "set_iterator.__iter__" = some Builtin.«dict_keyiterator.__iter__» :=
  entryFor_alias (id' := "dict_keyiterator.__iter__") (by kernel_rfl) (by first | rfl | decide +kernel | (unfold String.splitOn; simp +decide [String.splitOnAux])) (by decide +kernel) (by kernel_rfl)
theorem seti_iter_args (a : Value) : argsOk "set_iterator.__iter__" ⟨[a], []⟩ := by
  unfold argsOk
  kernel_rfl
theorem set_walks {I tp : Addr} {out : List Value} (hh : A.handled = none) (hf : t.fits es.size = true) (n1 : a ≠ I) (n2 : tp ≠ I) :
    Walks prog w A I [I, a, tp] [I] es.size (fun i v => out[i]? = some v) (fun i h => SIt w h I tp a es ep t out i ∧ SetRaw h a es ep t) where
  sub := fun b hb => by simp at hb; simp [hb]
  frame := fun _ _ _ st hk => ⟨st.1.at (fun o e => hk I (by simp) o e) (fun o e => hk tp (by simp) o e), st.2.at fun o e => hk a (by simp) o e⟩
  item := fun i s Q E hi st hQ => by
    have hl : out.length = es.size := by rw [st.1.perm.length_eq]; simp
    refine set_next (v := out[i]) st.2 hf st.1 (by simp [hl, hi]) n1 n2 fun h' it' hs' => ?_
    exact hQ _ h' s.toks (by simp [hl, hi]) ⟨it', st.2.at fun o q => hs'.extBut a o n1 q⟩ fun b o hb q => hs'.extBut b o (fun h => hb (by simp [h])) q
  done := fun s Q E st hQ => set_end hh st.2 hf st.1 fun h' he' => hQ h' s.toks fun b o hb q => he' b o (fun h => hb (by simp [h])) q
  self := fun i s Q E st hQ => by
    refine wpAny_pyIter_slot st.1.typeIs seti_iter_slot (wpAny_call_entry seti_iter_slot st.1.typeIs seti_iter_entry ?_ (seti_iter_args _))
    show wpAny _ _ (ret (.ref I)) _ _ s
    exact wpAny_pure ⟨_, rfl, "set_iterator", _, st.1.typeIs, set_next_slot.lookup, hQ⟩
theorem set_hint {r : Addr} {Q : Bool → Shared → Prop} (hT : s.TypeIs (.ref r) "set") (h : Q false s) : wpAny (model prog w) A (Builtin.List.listLengthHint (.ref r)) Q E s := by
  unfold Builtin.List.listLengthHint
  refine wpAny_bind (wpAny_specialOf hT PySem.F.slot_set_len.lookup ?_)
  generalize hid : ("set.__len__" : String) = id0
  wp_delta
  rw [show splitId id0 = some ("set", "__len__") from by subst hid; decide +kernel]
  subst hid
  refine wpAny_bind (wpAny_isInstance (T := "set") (b := true) hT (by rw [isSubtype_type]; kernel_rfl) ?_)
  refine wpAny_ite_split (fun hab => absurd hab (by decide)) (fun _ => ?_)
  refine wpAny_ite_split (fun _ => ?_) (fun hab => absurd (by decide +kernel) hab)
  refine wpAny_bind (wpAny_typeOf hT ?_)
  exact wpAny_pure h
theorem items_out {out : List Value} {acc : Array Value} (hl : out.length = es.size) (h : ItemsOf (fun i v => out[i]? = some v) acc es.size) : acc.toList = out := by
  obtain ⟨h1, h2⟩ := h
  apply List.ext_getElem?
  intro i
  by_cases hi : i < acc.size
  · have := h2 i acc[i] (by simp [hi])
    rw [this]
    simp [hi]
  · rw [List.getElem?_eq_none (by simpa using Nat.le_of_not_lt hi), List.getElem?_eq_none (by omega)]
theorem set_collect {l : List Int} {R : List Value → Shared → Prop} (x : SetI prog w s.heap a l) (hh : A.handled = none)
    (h : ∀ (h' : Heap) (tk : Nat) (d : Drawn) (vs : List Value) (ms : List Int), IntsAre vs ms → ms.Perm l → (∀ b o, s.heap.get? b = some o → h'.get? b = some o) → s.heap.objs.size < h'.objs.size → R vs { s with heap := h', toks := tk, drawn := d }) :
    wpAny (model prog w) A (collect (.ref a)) R E s := by
  obtain ⟨o, es, ep, t, ms, ho, hex, hd, hel, hi, hp, hb, hf, hw⟩ := x
  have raw : SetRaw s.heap a es ep t := ⟨o, ho, hex, hd⟩
  have hz := fits_of_scanBound hb
  have hlt : a < s.heap.objs.size := Heap.lt_size ho
  unfold collect
  refine wpAny_bind (wpAny_runValue (codeAny_builtin entry_proto_collect' ?_))
  rw [Around.under_plainId PySem.F.plain_proto_collect _]
  show wpAny _ A.in1 (newList [] >>= fun l => again (.builtin "list.__iadd__" ⟨[l, .ref a], []⟩)) _ _ s
  refine wpAny_bind (wpAny_newObj_type ?_)
  refine wpAny_pure ⟨plainId_quiet PySem.F.plain_list_iadd _, codeAny_builtin entry_list_iadd' ?_⟩
  rw [Around.under_plainId PySem.F.plain_list_iadd _]
  have hS₁ : (s.heap.push { cls := .type "list", data := .seq ([] : List Value).toArray }).get? s.heap.objs.size = some { cls := .type "list", data := .seq #[] } := Heap.get?_push_size _ rfl
  show wpAny _ A.in1 (Builtin.List.listExtendWith (.ref s.heap.objs.size) (.ref a) (.ref s.heap.objs.size)) _ _ _
  have raw1 : SetRaw (s.heap.push { cls := .type "list", data := .seq ([] : List Value).toArray }) a es ep t := raw.at fun o e => Heap.get?_push_of_some _ e
  unfold Builtin.List.listExtendWith
  refine wpAny_bind (wpAny_typeOf (T := "set") (SetRaw.typeIs (s := { s with heap := s.heap.push { cls := .type "list", data := .seq ([] : List Value).toArray } }) raw1) ?_)
  have h1 : Builtin.List.listSameRef (.ref s.heap.objs.size) (.ref a) = false := by simp [Builtin.List.listSameRef, Nat.ne_of_gt hlt]
  simp only [h1, show (Value.type "set" == Value.type "list") = false by decide, show (Value.type "set" == Value.type "tuple") = false by decide, Bool.or_false, Bool.false_eq_true, if_false]
  refine wpAny_bind (set_iter (s := { s with heap := s.heap.push { cls := .type "list", data := .seq ([] : List Value).toArray } }) raw1 hf hz hw fun h2 d I tp out k2 gI gtp n2 ltI it => ?_)
  have sz1 : (s.heap.push { cls := .type "list", data := .seq ([] : List Value).toArray }).objs.size = s.heap.objs.size + 1 := size_push' _ _
  have gI' : s.heap.objs.size + 1 ≤ I := by rw [← sz1]; exact gI
  have gtp' : s.heap.objs.size + 1 ≤ tp := by rw [← sz1]; exact gtp
  have raw2 : SetRaw h2 a es ep t := raw1.at fun o e => k2 a o e
  have hS₂ := k2 _ _ hS₁
  have hSf : s.heap.objs.size ∉ [I, a, tp] := by
    simp only [List.mem_cons, List.not_mem_nil, or_false, not_or]
    exact ⟨Nat.ne_of_lt (Nat.lt_of_lt_of_le (Nat.lt_succ_self _) gI'), Nat.ne_of_gt hlt, Nat.ne_of_lt (Nat.lt_of_lt_of_le (Nat.lt_succ_self _) gtp')⟩
  have n1 : a ≠ I := Nat.ne_of_lt (Nat.lt_of_lt_of_le (Nat.lt_succ_of_lt hlt) gI')
  have hl : out.length = es.size := by rw [it.perm.length_eq]; simp
  obtain ⟨ms', i', p'⟩ := ints_perm it.perm hi
  have W := (set_walks (prog := prog) (w := w) (A := A.in1) (out := out) (ep := ep) hh hf n1 n2).toS
  have key : ∀ (h3 : Heap) (c₁ tk : Nat), SIt w h3 I tp a es ep t out 0 → SetRaw h3 a es ep t → (∀ b o, b ≠ s.heap.objs.size → h2.get? b = some o → h3.get? b = some o) → h3.get? s.heap.objs.size = some { cls := .type "list", data := .seq #[] c₁ } →
      codeAny (model prog w) A (.builtin "list.extend.loop" ⟨[.ref s.heap.objs.size, .ref I, .ref s.heap.objs.size], []⟩)
        (wants (fun v s' => v = .ref s.heap.objs.size ∧ ∃ h' tk' c', s' = { s with heap := h', toks := tk', drawn := d } ∧ (∀ b o, s.heap.get? b = some o → h'.get? b = some o) ∧ h'.get? s.heap.objs.size = some { cls := .type "list", dict := none, data := .seq out.toArray c', slots := #[] }) (fun _ _ => False))
        { s with heap := h3, toks := tk, drawn := d } := by
    intro h3 c₁ tk it3 raw3 k3 hS₃
    refine codeAny_extend_loopS W hz _ hSf _ es.size 0 _ #[] c₁ rfl (Nat.zero_le _) ⟨it3, raw3⟩ hS₃ (ItemsOf.nil _) fun s' acc' c' hm hS' hacc => ?_
    have ea : acc' = out.toArray := by rw [← items_out hl hacc]
    refine ⟨rfl, s'.heap, s'.toks, c', ?_, fun b o e => ?_, by rw [← ea]; exact hS'⟩
    · have := Moved.eq_with (wr := s.heap.objs.size :: [I]) hm
      rw [this]
    · have lb : b < s.heap.objs.size := Heap.lt_size e
      refine hm.heap b o ?_ (k3 b o (Nat.ne_of_lt lb) (k2 b o (Heap.get?_push_of_some _ e)))
      simp only [List.mem_cons, List.not_mem_nil, or_false, not_or]
      exact ⟨Nat.ne_of_lt lb, Nat.ne_of_lt (Nat.lt_of_lt_of_le (Nat.lt_succ_of_lt lb) gI')⟩
  refine wpAny_bind (wpAny_holding (set_hint (SetRaw.typeIs (s := { s with heap := h2, drawn := d }) raw2) ?_))
  have oth : ∀ (h3 : Heap) (g : Obj → Obj) b o, b ≠ s.heap.objs.size → h3.get? b = some o → (h3.update s.heap.objs.size g).get? b = some o := fun h3 g b o hb e => (Heap.get?_update_other _ _ (Ne.symm hb)).trans e
  refine wpAny_ite_split (fun _ => ?_) (fun _ => wpAny_pure ⟨plainId_quiet PySem.F.plain_extend_loop _, codeAny_mono (key h2 0 _ it raw2 (fun b o _ e => e) hS₂) ?_⟩)
  · refine wpAny_bind (wpAny_rule ?_)
    refine wpAny_bind ?_
    show wpAny _ _ (updateSeq s.heap.objs.size (·.push .none) >>= fun _ => updateSeq s.heap.objs.size (·.pop)) _ _ _
    refine wpAny_bind (wpAny_updateSeq hS₂ rfl ?_)
    have hS₃ := Heap.get?_update_self (Obj.mapSeq (·.push Value.none)) hS₂ rfl
    refine wpAny_updateSeq (hz := by seq_fits) hS₃ rfl ?_
    have hS₄ := Heap.get?_update_self (Obj.mapSeq (·.pop)) hS₃ rfl
    have k4 : ∀ b o, b ≠ s.heap.objs.size → h2.get? b = some o → ((h2.update s.heap.objs.size (Obj.mapSeq (·.push Value.none))).update s.heap.objs.size (Obj.mapSeq (·.pop))).get? b = some o := fun b o hb e => oth _ _ b o hb (oth _ _ b o hb e)
    have nI : I ≠ s.heap.objs.size := Nat.ne_of_gt (Nat.lt_of_lt_of_le (Nat.lt_succ_self _) gI')
    have ntp : tp ≠ s.heap.objs.size := Nat.ne_of_gt (Nat.lt_of_lt_of_le (Nat.lt_succ_self _) gtp')
    refine wpAny_pure ⟨plainId_quiet PySem.F.plain_extend_loop _, codeAny_mono (key _ _ _ (it.at (fun o e => k4 I o nI e) (fun o e => k4 tp o ntp e)) (raw2.at fun o e => k4 a o (Nat.ne_of_lt hlt) e) k4 hS₄) ?_⟩
    intro q s₂ y
    cases q with
    | error e => exact y.elim
    | ok fl =>
      cases fl with
      | ret v =>
        obtain ⟨rfl, h', tk', c', rfl, hk, hS'⟩ := y
        show wpAny _ A (load s.heap.objs.size >>= _) _ _ _
        refine wpAny_bind (wpAny_load hS' ?_)
        exact wpAny_pure (h h' tk' d out ms' i' (p'.trans hp) hk (Heap.lt_size hS'))
      | _ => exact y.elim
  · intro q s₂ y
    cases q with
    | error e => exact y.elim
    | ok fl =>
      cases fl with
      | ret v =>
        obtain ⟨rfl, h', tk', c', rfl, hk, hS'⟩ := y
        show wpAny _ A (load s.heap.objs.size >>= _) _ _ _
        refine wpAny_bind (wpAny_load hS' ?_)
        exact wpAny_pure (h h' tk' d out ms' i' (p'.trans hp) hk (Heap.lt_size hS'))
      | _ => exact y.elim
theorem sorted_set {l : List Int} {R : Value → Shared → Prop} (x : SetI prog w s.heap a l) (hh : A.handled = none) (h64 : l.length < 64)
    (h : ∀ (h' : Heap) (tk : Nat) (d : Drawn) (L : Addr) (c : Nat) (out : Array Value) (ns : List Int), IntsAre out.toList ns → ns.Perm l → ns.Pairwise (· ≤ ·) → (∀ b o, s.heap.get? b = some o → h'.get? b = some o) → s.heap.objs.size ≤ L →
      h'.get? L = some (seqObj "list" out c) → R (.ref L) { s with heap := h', toks := tk, drawn := d }) :
    wpAny (model prog w) A (call (.builtin "sorted") [.ref a]) R E s := by
  refine Calls.call_function_entry kind_sorted plain_sorted entry_sorted (args_sorted1 _) ?_
  unfold Builtin.«sorted»
  refine wpAny_bind (m := checkCount "sorted" 1 1 _) (wpAny_pure ?_)
  refine wpAny_bind (set_collect (A := A.in1) x hh fun h' tk d vs ms iv pm hk ge => ?_)
  have hl : vs.length < 64 := by rw [iv.length, pm.length_eq]; exact h64
  refine wpAny_bind (wpAny_newList ?_ (by rw [sizeLine_eq]; omega))
  have ho : (h'.push (seqObj "list" vs.toArray 0)).get? h'.objs.size = some (seqObj "list" vs.toArray 0) := Heap.get?_push_size _ rfl
  refine wpAny_bind (wpAny_holding (wpAny_call_entry slot_list_sort ⟨_, ho, rfl⟩ entry_list_sort (list_sort_tree (s := { s with heap := h'.push (seqObj "list" vs.toArray 0), toks := tk, drawn := d }) ho iv hl fun out ns i1 i2 i3 => ⟨_, rfl, ?_⟩) (args_list_sort _)))
  obtain ⟨e, he⟩ := sortedHeap_at (out := out) ho
  refine wpAny_pure ⟨_, rfl, h _ tk d _ e out ns i1 (i2.trans pm) i3 (fun b o q => ?_) (Nat.le_of_lt ge) he⟩
  have k1 : (h'.push (seqObj "list" vs.toArray 0)).get? b = some o := Heap.get?_push_of_some _ (hk b o q)
  rw [sortedHeap_old (Nat.ne_of_lt (Heap.lt_size (hk b o q))) (Heap.lt_size k1)]
  exact k1
end
end L2
namespace L2
open PySem PySem.W PySem.Spec PyProof.Rows
theorem fm_nodup (val : Nat → Int) : ∀ i, (firstMet val i).Nodup
  | 0 => by rw [firstMet_zero]; exact List.nodup_nil
  | i + 1 => by
    rw [firstMet_succ]
    unfold step_dedup
    have ih := fm_nodup val i
    split
    · exact ih
    · rename_i c
      refine List.nodup_append.mpr ⟨ih, by simp, fun a ha b hb e => ?_⟩
      have : b = val i := by simpa using hb
      subst this
      exact c (List.any_eq_true.mpr ⟨a, ha, by simp [e]⟩)
theorem range_getD (ns : List Int) : (List.range ns.length).map (fun i => ns.getD i 0) = ns := by
  apply List.ext_getElem
  · simp
  · intro i h1 h2
    simp [h2]
theorem fm_mem {ns : List Int} {z : Int} : z ∈ firstMet (fun i => ns.getD i 0) ns.length ↔ z ∈ ns := by
  have e := firstMet_any (fun i => ns.getD i 0) ns.length z
  rw [range_getD] at e
  constructor
  · intro h
    have a : (firstMet (fun i => ns.getD i 0) ns.length).any (· == z) = true := List.any_eq_true.mpr ⟨z, h, by simp⟩
    rw [e] at a
    obtain ⟨y, hy, ey⟩ := List.any_eq_true.mp a
    have : y = z := by simpa using ey
    exact this ▸ hy
  · intro h
    have a : ns.any (· == z) = true := List.any_eq_true.mpr ⟨z, h, by simp⟩
    rw [← e] at a
    obtain ⟨y, hy, ey⟩ := List.any_eq_true.mp a
    have : y = z := by simpa using ey
    exact this ▸ hy
theorem lt_of_le_nodup : ∀ {l : List Int}, l.Pairwise (· ≤ ·) → l.Nodup → l.Pairwise (· < ·)
  | [], _, _ => .nil
  | x :: l, h, n => by
    rw [List.pairwise_cons] at h ⊢
    rw [List.nodup_cons] at n
    exact ⟨fun y hy => by
      have a := h.1 y hy
      have b : x ≠ y := fun e => n.1 (e ▸ hy)
      omega, lt_of_le_nodup h.2 n.2⟩
section
variable {X : Cx} {e : Expr} {te : TE} {p p2 pos pos2 : Pos}
theorem Inv.draw {pins : List (Addr × Obj)} {σ : St} {H : Hp} {s : Shared} (I : Inv X pins σ H s) (d : Drawn) : Inv X pins σ H { s with drawn := d } :=
  ⟨I.ok, I.os, I.bare, I.base, I.loc, I.cell, I.free, I.freeC, I.pin, I.hok, I.len⟩
def tSortedSet (K : PySem.W.Frag) (te : TE) : TE := fun σ H Q => te σ H fun x H1 => ∃ (a : Addr) (ns : List Int), x = .ref a ∧ SqL K H1 a (ns.map V.int) ∧ ns.length < 64 ∧
  ∀ (l : Addr) (ms : List Int), ms.Pairwise (· < ·) → (∀ z, z ∈ ms ↔ z ∈ ns) → H1 l = none → Q (.ref l) (upd H1 l (.lst (ms.map V.int)))
theorem pe_sortedset (hc : X.calm = true) (hg : Gl X "sorted") (hm : X.mg "sorted" = none) (hg2 : Gl X "set") (hm2 : X.mg "set" = none) (he : PE X e te)
    (hs : starEach [e] X.env = [(false, eval e X.env)] := by rfl)
    (hs2 : starEach [(.Call (.Name "set" p2) [e] [] pos2 : Expr)] X.env = [(false, eval (.Call (.Name "set" p2) [e] [] pos2) X.env)] := by rfl) :
    PE X (.Call (.Name "sorted" p) [.Call (.Name "set" p2) [e] [] pos2] [] pos) (tSortedSet X.K te) := by
  intro pins s σ H Q I h
  refine wpAny_Call_Name_kw (ld_blt I hg hm boot_sorted ?_ (by decide) (by decide))
  refine callWith_builtin1 ?_ hs2 rfl
  rw [hs2]
  refine Calls.spliced_cons ?_
  refine wpAny_Call_Name_kw (ld_blt I hg2 hm2 boot_set ?_ (by decide) (by decide))
  refine callWith_type1 ?_ hs rfl
  rw [hs]
  refine Calls.spliced_cons (thn (he pins s σ H _ I h) fun u s1 ⟨x, H1, I1, r1, a, ns, hx, hq, h64, q⟩ => ?_)
  subst hx
  cases r1
  refine Calls.spliced_nil ?_
  obtain ⟨its, rv, pl, hz⟩ := I1.list hq
  have hi := intsAre_of rv
  have hlen : its.length = ns.length := hi.length
  refine set_of_list (items := its.toArray) (ns := ns) (I1.ok.hd hc) pl.isList (by simpa using hi) (by rw [List.size_toArray, hlen]; unfold scanBound; omega) fun h2 tk2 hS k2 => ?_
  refine Calls.spliced_nil ?_
  have ez : its.toArray.size = ns.length := by rw [List.size_toArray]; exact hlen
  rw [ez] at hS
  have l64 : (firstMet (fun i => ns.getD i 0) ns.length).length < 64 := by
    have := firstMet_length_le (fun i => ns.getD i 0) ns.length
    omega
  have lt2 : s1.heap.objs.size < h2.objs.size := by
    obtain ⟨o, _, _, _, _, ho, _⟩ := hS
    exact Heap.lt_size ho
  refine sorted_set (s := { s1 with heap := h2, toks := tk2 }) hS (I1.ok.hd hc) l64 fun h3 tk3 d L c out ms i1 i2 i3 k3 gL hL => ?_
  have kp : ∀ b o, s1.heap.get? b = some o → h3.get? b = some o := fun b o q => k3 b o (k2 b o (Heap.lt_size q) q)
  have ge : s1.heap.objs.size ≤ L := Nat.le_trans (Nat.le_of_lt lt2) gL
  refine ⟨.ref L, _, (I1.laid (t' := tk3) kp ge (show ObjOk X.prog X.w _ h3 _ (.lst (ms.map V.int)) from ⟨?_, out.toList, c, vals_ints i1, hL⟩)).draw d, rfl, q L ms (lt_of_le_nodup i3 (i2.nodup_iff.mpr (fm_nodup _ _))) (fun z => i2.mem_iff.trans fm_mem) (I1.hok.fresh ge)⟩
  rw [List.length_map, i2.length_eq, sizeLine_eq]
  omega
end
end L2
namespace L2
open PySem PySem.Spec PyProof.Rows
section
variable {X : Cx} {pins : List (Addr × Obj)} {σ : St} {H : Hp} {s : Shared} {h' : Heap}
theorem Inv.laidTurned {t' : Nat} {fp : List Addr} {a : Addr} {o : HO} (I : Inv X pins σ H s) (k : ∀ b u, b ∉ fp → s.heap.get? b = some u → h'.get? b = some u) (hf : ∀ b ∈ fp, FpOk X pins H b) (hp : s.heap.objs.size ≤ a)
    (new : ObjOk X.prog X.w (upd H a o) h' a o) : Inv X pins σ (upd H a o) { s with heap := h', toks := t' } := by
  have nin : ∀ b u, H b = some u → b ∉ fp := fun b u e z => by rw [(hf b z).1] at e; cases e
  have hn : H a = none := I.hok.fresh hp
  refine I.step (g' := s.gens) (d' := s.drawn) (ch := fp) (fun b hb => ?_) (fun b o _ _ hc e _ => k b o hc e) (fun b o _ _ hc e _ => ⟨o.slots, k b o hc e⟩)
    (fun b u _ q n => by rw [upd_ne (Nat.ne_of_lt (Nat.lt_of_lt_of_le (Heap.lt_size q) hp))]; exact n)
    (fun b o hc e => ⟨o, k b o hc e⟩) (fun b xs q => by rw [upd_ne (ne_of_none q hn)]; exact q) (fun b u xs q => by rw [upd_ne (ne_of_none q hn)]; exact q) (fun b ps q => ⟨#[], by rw [upd_ne (ne_of_none q hn), q]; simp⟩) (fun m hm => ?_) (fun b u e => ?_) I.bare
  · obtain ⟨_, f1, _, f3, f4, f5⟩ := hf b hb
    exact ⟨f3, f1, f4, f5⟩
  · obtain ⟨o, es, ep, ho, r⟩ := hm
    exact ⟨o, es, ep, k _ o (fun z => (hf _ z).2.1 rfl) ho, r⟩
  · by_cases hb : b = a
    · subst hb; rw [upd_same] at e; cases e; exact new
    · rw [upd_ne hb] at e
      refine (I.hok b u e).stay (fun c v hc q => k c v ?_ q) (fun c q => by rw [upd_ne (ne_of_none q hn)]; exact q) fun c xs q => by rw [upd_ne (ne_of_none q hn)]; exact q
      rcases hc with z | z
      · rw [z]; exact nin b u e
      · exact nin c _ z
end
def Ite (K : PySem.W.Frag) (a : Addr) : It :=
  ⟨fun i H => ∃ xs x, SqL K H a xs ∧ xs[i]? = some x, fun i H x H' => ∃ T y, x = .ref T ∧ H T = none ∧ H' = upd H T (.tup [.int (i : Int), y]) ∧ ∀ xs, SqL K H a xs → xs[i]? = some y, fun i H => ∃ xs, SqL K H a xs ∧ xs.length ≤ i⟩
theorem turn_enum {P : Program} {w : World} {K : PySem.W.Frag} {es : List Expr} {k : Nat} {pos : Pos} (a e it : Addr) (hne : e ≠ it) :
    Turn P w K (.Tuple es k pos) (Ite K a) [e, it] e (fun i h => (∃ old, IsEnum h e it (i : Nat) old) ∧ h.IsListIter it a i) where
  mem := by simp
  obj := fun i h st b hb => by
    obtain ⟨⟨old, he⟩, o, e1, c, d⟩ := st
    rcases List.mem_cons.mp hb with z | z
    · subst z
      exact ⟨_, he, fun v z => by cases (show Data.fields _ = Data.cell v from z)⟩
    · have z' : b = it := by simpa using z
      subst z'
      exact ⟨o, e1, fun v z => by rw [d] at z; cases z⟩
  keep := fun i h h' st kk => by
    obtain ⟨⟨old, he⟩, st⟩ := st
    exact ⟨⟨old, kk e (by simp) _ he⟩, st.at fun o q => kk it (by simp) o q⟩
  item := by
    intro X hP hw hK hc i pins s σ H E I hf st hg
    subst hP hw hK
    obtain ⟨xs, x, hq, hx⟩ := hg
    obtain ⟨its, rv, p, hz⟩ := I.list hq
    obtain ⟨u, hu, ru⟩ := rv.get hx
    obtain ⟨⟨old, he⟩, hit⟩ := st
    refine wpAny_pyNext_enum_item he hit p.isList (x := u) (by simpa using hu) hne fun h1 ho hit1 hT hsz hk => ⟨_, rfl, ?_⟩
    refine wpAny_letOwnedTupleGo_enum ho fun h2 he2 sb => ?_
    have fr : H s.heap.objs.size = none := I.hok.fresh (Nat.le_refl _)
    have lte : e < s.heap.objs.size := Heap.lt_size he
    have lti : it < s.heap.objs.size := by obtain ⟨o, q, _⟩ := id hit; exact Heap.lt_size q
    refine ⟨.ref s.heap.objs.size, upd H s.heap.objs.size (.tup [.int (i : Int), x]), ?_, rfl, ⟨_, x, rfl, fr, rfl, fun ys hy => by rw [I.list_inj hy hq]; exact hx⟩, ⟨⟨_, by simpa using he2⟩, hit1.at fun o q => (sb.2 it (Ne.symm hne)).trans q⟩, fun b hb => ?_⟩
    · refine I.laidTurned (fp := [e, it]) (t' := s.toks + 1) (fun b o hb q => (sb.2 b (fun z => hb (by simp [z]))).trans (hk b o (fun z => hb (by simp [z])) (fun z => hb (by simp [z])) q)) hf (Nat.le_refl _) ?_
      refine ⟨by show 2 ≤ sizeLine; decide, [.int i s.toks, u], .cons ⟨_, rfl⟩ (.cons ru .nil), ⟨_, (sb.2 _ (Nat.ne_of_gt lte)).trans hT, rfl, _, rfl⟩⟩
    · rw [upd_ne (fun z => ?_)]
      · exact (hf b hb).1
      · rcases List.mem_cons.mp hb with q | q
        · rw [q] at z; exact absurd lte (by rw [z]; exact Nat.lt_irrefl _)
        · have q' : b = it := by simpa using q
          rw [q'] at z; exact absurd lti (by rw [z]; exact Nat.lt_irrefl _)
  done := by
    intro X hP hw hK hc i pins s σ H E I hf st hg
    subst hP hw hK
    obtain ⟨xs, hq, hx⟩ := hg
    obtain ⟨its, rv, p, hz⟩ := I.list hq
    obtain ⟨f0, f1, f2, f3, f4, f5⟩ := hf it (by simp)
    obtain ⟨⟨old, he⟩, hit⟩ := st
    have hl := rv.length
    exact wpAny_pyNext_enum_end (I.ok.hd hc) he hit p.isList (by simp; omega) fun h' eb => ⟨rfl, I.turned (t' := s.toks) (fun b o hb e => eb b o hb e) f0 f1 f3 f4 f5⟩
  self := fun _ _ _ _ _ st h => by
    obtain ⟨⟨old, he⟩, _⟩ := st
    exact wpAny_pyIter_enum he h
section
variable {X : Cx}
def iEnum (K : PySem.W.Frag) (ta : TA) : TI := fun σ H R => ta σ H fun vs H1 => ∃ a, vs = [.ref a] ∧ (∃ xs, SqL K H1 a xs) ∧ R (Ite K a) H1
theorem pi_enum {l : Expr} {ta : TA} {p pos pt : Pos} {es : List Expr} {k : Nat} (hg : Gl X "enumerate") (hm : X.mg "enumerate" = none) (ha : PA X [l] ta) (hs : starEach [l] X.env = [(false, eval l X.env)] := by rfl) :
    PI X (.Tuple es k pt) (.Call (.Name "enumerate" p) [l] [] pos) (iEnum X.K ta) := by
  intro pins s σ H R I h
  refine Call_ (ld_blt I hg hm boot_enumerate (PyProof.Rows.callWith_type1 (thn (ha pos pins s σ H _ I h) fun us s1 ⟨vs, H1, I1, r1, q1⟩ => ?_) hs rfl))
  obtain ⟨a, e, ⟨xs, hq⟩, q⟩ := q1
  subst e
  cases r1 with
  | cons r rr =>
    cases rr
    cases r
    obtain ⟨its, rv, pl, hz⟩ := I1.list hq
    refine call_enumerate_list pl.isList fun h' he hit hsz hk => ?_
    refine wpAny_pyIter_enum (s := { s1 with heap := h' }) he ?_
    refine ⟨s1.heap.objs.size + 1, [s1.heap.objs.size + 1, s1.heap.objs.size], _, _, H1, rfl, I1.kept (t' := s1.toks) hk, turn_enum a _ _ (Nat.succ_ne_self _), ⟨⟨_, he⟩, hit⟩, fun b hb => ?_, q⟩
    have ge : s1.heap.objs.size ≤ b := by
      rcases List.mem_cons.mp hb with z | z
      · rw [z]; exact Nat.le_succ _
      · have z' : b = s1.heap.objs.size := by simpa using z
        rw [z']; exact Nat.le_refl _
    exact I1.fpOk ge (I1.hok.fresh ge)
end
theorem for_enum {K : PySem.W.Frag} {a : Addr} {xs : List V} {g : TG} {tb : TS} {D : Ends} {σ : St} {H : Hp} (Pv : Nat → St → Hp → Prop) (h0 : Pv 0 σ H) (hl : ∀ i σ H, i ≤ xs.length → Pv i σ H → SqL K H a xs)
    (hs : ∀ i x T σ H, xs[i]? = some x → Pv i σ H → H T = none → g (.ref T) σ (upd H T (.tup [.int (i : Int), x])) fun σ2 H2 => tb { D with nx := Pv (i + 1), ct := Pv (i + 1), bk := D.nx } σ2 H2) (hd : ∀ σ H, Pv xs.length σ H → D.nx σ H) :
    ∃ W : Nat → Nat → St → Hp → Prop, (∃ m, W 0 m σ H) ∧ ∀ i m σ H, W i m σ H →
      ((Ite K a).stop i H ∧ D.nx σ H) ∨ ((Ite K a).go i H ∧ ∃ N : St → Hp → Prop, (∀ σ' H', N σ' H' → ∃ m', m' < m ∧ W (i + 1) m' σ' H') ∧ ∀ x H', (Ite K a).yld i H x H' → g x σ H' fun σ2 H2 => tb { D with nx := N, ct := N, bk := D.nx } σ2 H2) := by
  refine ⟨fun i m σ H => m = xs.length - i ∧ i ≤ xs.length ∧ Pv i σ H, ⟨xs.length, by simp, Nat.zero_le _, h0⟩, ?_⟩
  rintro i m σ H ⟨rfl, hi, p⟩
  have q := hl i σ H hi p
  by_cases hlt : i < xs.length
  · refine .inr ⟨⟨xs, xs[i], q, by simp [hlt]⟩, Pv (i + 1), fun σ' H' p' => ⟨xs.length - (i + 1), by omega, rfl, hlt, p'⟩, fun x H' y => ?_⟩
    obtain ⟨T, y, rfl, hT, rfl, hy⟩ := y
    exact hs i y T σ H (hy xs q) p hT
  · have e : i = xs.length := by omega
    subst e
    exact .inl ⟨⟨xs, q, Nat.le_refl _⟩, hd σ H p⟩
section
variable {X : Cx}
theorem vals_bools : ∀ {bs : List Bool} {us : List Value}, Vals (bs.map V.bl) us → us = bs.map Value.bool
  | [], _, .nil => rfl
  | _ :: _, _, .cons r rr => by
    cases r
    rw [vals_bools rr]
    rfl
theorem all_range (bs : List Bool) : (List.range bs.length).all (fun i => bs.getD i false) = bs.all id := by
  rw [Bool.eq_iff_iff, List.all_eq_true, List.all_eq_true]
  constructor
  · intro h b hb
    obtain ⟨i, hi, rfl⟩ := List.mem_iff_getElem.mp hb
    have := h i (List.mem_range.mpr hi)
    simpa [List.getD_eq_getElem?_getD, hi] using this
  · intro h i hi
    have hi' := List.mem_range.mp hi
    have := h _ (List.getElem_mem hi')
    simpa [List.getD_eq_getElem?_getD, hi'] using this
theorem any_range (bs : List Bool) : (List.range bs.length).any (fun i => bs.getD i false) = bs.any id := by
  rw [Bool.eq_iff_iff, List.any_eq_true, List.any_eq_true]
  constructor
  · rintro ⟨i, hi, h⟩
    have hi' := List.mem_range.mp hi
    exact ⟨_, List.getElem_mem hi', by simpa [List.getD_eq_getElem?_getD, hi'] using h⟩
  · rintro ⟨b, hb, h⟩
    obtain ⟨i, hi, rfl⟩ := List.mem_iff_getElem.mp hb
    exact ⟨i, List.mem_range.mpr hi, by simpa [List.getD_eq_getElem?_getD, hi] using h⟩
theorem truth_bools {P : Program} {w : World} {A : Around} {bs : List Bool} : TruthOf P w A (fun i v => (bs.map Value.bool).toArray[i]? = some v) (fun i => bs.getD i false) := by
  intro i v s Q E hP hQ
  have hP' : (bs.map Value.bool)[i]? = some v := by simpa using hP
  rw [List.getElem?_map] at hP'
  cases e : bs[i]? with
  | none => rw [e] at hP'; cases hP'
  | some b =>
    rw [e] at hP'
    have : Value.bool b = v := Option.some.inj hP'
    subst this
    refine wpAny_truthy_bool ?_
    have e2 : bs.getD i false = b := by rw [List.getD_eq_getElem?_getD, e]; rfl
    dsimp only at hQ
    rw [e2] at hQ
    exact hQ
theorem call_all (hc : X.calm = true) {K : PySem.W.Frag} (hK : X.K = K := by rfl) : CallR X (.builtin "all") (fun xs H Q => ∃ (a : Addr) (bs : List Bool), xs = [.ref a] ∧ SqL K H a (bs.map V.bl) ∧ Q (.bl (bs.all id)) H) := by
  subst hK
  intro pins s σ H xs us Q I r h
  obtain ⟨a, bs, rfl, hq, q⟩ := h
  obtain ⟨u, rfl, rx⟩ := vals1 r
  cases rx
  obtain ⟨its, rv, pl, hz⟩ := I.list hq
  have ei := vals_bools rv
  subst ei
  have lt : a < s.heap.objs.size := by obtain ⟨o, q, _⟩ := pl.isList; exact Heap.lt_size q
  refine call_all_walk (wpAny_pyIter_list pl.isList ?_)
  refine ⟨_, _, _, _, _, _, _, rfl, Walks.list (A := X.A.in1) (I.ok.hd hc) s.heap.objs.size a (Nat.ne_of_lt lt) (bs.map Value.bool).toArray, ⟨⟨_, Heap.get?_push_size _ rfl, rfl, rfl⟩, pl.isList.at fun o q => Heap.get?_push_of_some _ q⟩, truth_bools, fun h' tk hk => ?_⟩
  rw [List.size_toArray, List.length_map, all_range]
  exact ⟨.bl _, H, I.kept (t' := tk) fun b o q => hk b o (by simpa using Nat.ne_of_lt (Heap.lt_size q)) (Heap.get?_push_of_some _ q), rfl, q⟩
theorem call_any (hc : X.calm = true) {K : PySem.W.Frag} (hK : X.K = K := by rfl) : CallR X (.builtin "any") (fun xs H Q => ∃ (a : Addr) (bs : List Bool), xs = [.ref a] ∧ SqL K H a (bs.map V.bl) ∧ Q (.bl (bs.any id)) H) := by
  subst hK
  intro pins s σ H xs us Q I r h
  obtain ⟨a, bs, rfl, hq, q⟩ := h
  obtain ⟨u, rfl, rx⟩ := vals1 r
  cases rx
  obtain ⟨its, rv, pl, hz⟩ := I.list hq
  have ei := vals_bools rv
  subst ei
  have lt : a < s.heap.objs.size := by obtain ⟨o, q, _⟩ := pl.isList; exact Heap.lt_size q
  refine call_any_walk (wpAny_pyIter_list pl.isList ?_)
  refine ⟨_, _, _, _, _, _, _, rfl, Walks.list (A := X.A.in1) (I.ok.hd hc) s.heap.objs.size a (Nat.ne_of_lt lt) (bs.map Value.bool).toArray, ⟨⟨_, Heap.get?_push_size _ rfl, rfl, rfl⟩, pl.isList.at fun o q => Heap.get?_push_of_some _ q⟩, truth_bools, fun h' tk hk => ?_⟩
  rw [List.size_toArray, List.length_map, any_range]
  exact ⟨.bl _, H, I.kept (t' := tk) fun b o q => hk b o (by simpa using Nat.ne_of_lt (Heap.lt_size q)) (Heap.get?_push_of_some _ q), rfl, q⟩
end
end L2
namespace L2
open PySem PySem.Spec PyProof.Rows
def tCompT (n : Nat) (wi : TI) (g : TG) (tt : TT) (te : TE) : TE := fun σ H Q => wi σ H fun J H1 => ∀ D, H1 D = none → ∃ W : Nat → Nat → List V → Hp → Prop, (∃ m, W 0 m [] (upd H1 D (.lst []))) ∧ ∀ i m ys H2, W i m ys H2 →
  H2 D = some (.lst ys) ∧ ((J.stop i H2 ∧ Q (.ref D) H2) ∨ (J.go i H2 ∧ ys.length < sizeLine ∧ ∀ x H3, J.yld i H2 x H3 → ∀ os : St, os.length = n → g x (σ ++ os) H3 fun σ4 H4 => (∃ os' : St, σ4 = σ ++ os' ∧ os'.length = n) ∧ tt σ4 H4 fun b H5 => if b = true then te σ4 H5 fun y H6 => H6 D = some (.lst ys) ∧ ∃ m', m' < m ∧ W (i + 1) m' (ys ++ [y]) (upd H6 D (.lst (ys ++ [y])))
    else ∃ m', m' < m ∧ W (i + 1) m' ys H5))
structure CompNs (N Nc : List Str) (xs : List Str) (sc fsc : Scope) : Prop where
  kind : sc.kind = .function
  cell : ∀ y ∈ sc.names, y.2 ≠ .cell
  nm : ∀ y ∈ sc.names, y.2 = .local → sc.names.lookup y.1 = some .local
  own : ∀ x ∈ xs, sc.names.lookup x = some .local
  fr : ∀ y ∈ sc.names, y.2 = .free → fsc.names.lookup y.1 = some .cell ∨ fsc.names.lookup y.1 = some .free
  len : Nc.length = N.length + xs.length
  nd : Nc.Nodup
  last : Nc.drop N.length = xs
  slot : ((List.range N.length).all fun i => match Nc[i]? with
    | some y => (match sc.names.lookup y with | some .free => N[i]? == some y | some .local => false | some .cell => false | _ => true)
    | none => true) = true
theorem CompNs.at {N Nc : List Str} {xs : List Str} {sc fsc : Scope} (C : CompNs N Nc xs sc fsc) {i : Nat} {y : Str} (hi : i < N.length) (h : Nc[i]? = some y) : sc.names.lookup y ≠ some .local ∧ sc.names.lookup y ≠ some .cell ∧ (sc.names.lookup y = some .free → N[i]? = some y) := by
  have q := List.all_eq_true.mp C.slot i (List.mem_range.mpr hi)
  rw [h] at q
  dsimp only at q
  cases e : sc.names.lookup y with
  | none => exact ⟨fun z => (nomatch z), fun z => (nomatch z), fun z => (nomatch z)⟩
  | some k =>
    rw [e] at q
    cases k with
    | «local» => exact absurd (show false = true from q) Bool.false_ne_true
    | cell => exact absurd (show false = true from q) Bool.false_ne_true
    | free => exact ⟨fun z => (nomatch z), fun z => (nomatch z), fun _ => by simpa using q⟩
    | _ => exact ⟨fun z => (nomatch z), fun z => (nomatch z), fun z => (nomatch z)⟩
theorem pgc_name {X : Cx} {N Nc xs : List Str} {sc fsc : Scope} {cl : List (Str × Addr)} {s : Shared} {H : Hp} {ex : List Addr} {x : Str} {px : Pos} {j n : Nat} (cn : CompNs N Nc xs sc fsc) (hj : xs[j]? = some x) (hn : n = N.length + j) : PG (X.inComp Nc sc cl s H ex) (.Name x px) (gName n) := by
  have own : (relabel sc X.env).names.lookup x = some .local := by
    have e := lookup_relabel X.env sc.names x
    rw [cn.own x (List.mem_of_getElem? hj)] at e
    exact e
  refine pg_name (X := X.inComp Nc sc cl s H ex) cn.nd ?_ (.inl own) (.inr own)
  show Nc[n]? = some x
  rw [hn, ← List.getElem?_drop, cn.last]
  exact hj
theorem loopT {prog : Program} {w : World} {A : Around} {R : Result → Shared → Prop} {s : Shared} {elt tg iter : Expr} {ifs : List Expr} {scope : Scope} {pos : Pos} {it acc : Value} {env : Env} (I : Nat → Shared → Prop)
    (turn : ∀ n s, I n s → wpAny (model prog w) A (pyNext it) (fun r s₁ => match r with
      | none => R (.ok .next) s₁
      | some v => wpAny (model prog w) A (letOwnedTupleGo tg it v) (fun _ z => wpAny (model prog w) A (assign tg env v) (fun _ s₂ =>
          wpAny (model prog w) A (forIn ifs true fun c r => if r = true then do let ok ← isTrue c env (eval c env); pure (ForInStep.yield ok) else pure (ForInStep.yield r)) (fun ok s₃ =>
            if ok = true then wpAny (model prog w) A (eval elt env) (fun x s₄ => wpAny (model prog w) A (call (.builtin "list.append") [acc, x]) (fun _ s₅ => ∃ m, m < n ∧ I m s₅) (fun _ _ => False) s₄) (fun _ _ => False) s₃
            else ∃ m, m < n ∧ I m s₃) (fun _ _ => False) s₂) (fun _ _ => False) z) (fun _ _ => False) s₁) (fun _ _ => False) s)
    (n : Nat) (h : I n s) : codeAny (model prog w) A (.compLoop (.ListComp elt [⟨tg, iter, ifs, 0⟩] scope pos) 0 it acc env) R s := by
  refine codeAny_loop rfl I (fun k z y => ?_) n h
  show wpAny _ A ((compTurn (.ListComp elt [⟨tg, iter, ifs, 0⟩] scope pos) 0 it acc env).onRaise fun x => do noteFrame x env; theTreesLotGoes x) _ _ z
  refine wpAny_noted ?_
  rw [compTurn_list]
  refine wpAny_bind (wpAny_standAt (wpAny_bind (thnF (turn k z y) fun r s₁ q1 => ?_)))
  cases r with
  | none => exact wpAny_pure q1
  | some v =>
    refine wpAny_bind (thnF q1 fun _ z q2 => wpAny_bind (thnF q2 fun _ s₂ q3 => wpAny_bind (thnF q3 fun ok s₃ q4 => ?_)))
    cases ok with
    | false => exact wpAny_pure ⟨rfl, q4⟩
    | true => exact wpAny_bind (wpAny_bind (thnF q4 fun x s₄ q5 => wpAny_bind (thnF q5 fun _ s₅ q6 => wpAny_pure (wpAny_pure ⟨rfl, q6⟩))))
section
variable {X : Cx} {elt iter : Expr} {xs : List Str} {tg : Expr} {g : TG} {pos : Pos} {ifs : List Expr} {sc fsc : Scope} {N Nc : List Str} {wi : TI} {tt : TT} {te : TE}
theorem comp_coreT (hE : X.env.scope = fsc) (hXN : X.N = N) (cn : CompNs N Nc xs sc fsc) (hc : X.calm = true)
    (hg : ∀ cl s H ex, PG (X.inComp Nc sc cl s H ex) tg g) (ht : ∀ cl s H ex, PIfs (X.inComp Nc sc cl s H ex) ifs tt) (he : ∀ cl s H ex, PE (X.inComp Nc sc cl s H ex) elt te)
    {cl : List (Str × Addr)} (clS : ∀ y c, cl.lookup y = some c → X.env.cells.lookup y = some c) (clH : ∀ y ∈ sc.names, y.2 = .free → ∃ c, cl.lookup y.1 = some c)
    {pins : List (Addr × Obj)} {σ : St} {H2 : Hp} {s2 : Shared} {it : Addr} {fp : List Addr} {tn : Nat → Heap → Prop} {J : It} {Q : VK} {E : Value → Shared → Prop}
    (I2 : Inv X pins σ H2 s2) (T : Turn X.prog X.w X.K tg J fp it tn) (st2 : tn 0 s2.heap) (f2 : ∀ b ∈ fp, FpOk X pins H2 b)
    (h2 : ∀ D, H2 D = none → ∃ W : Nat → Nat → List V → Hp → Prop, (∃ m, W 0 m [] (upd H2 D (.lst []))) ∧ ∀ i m ys H2, W i m ys H2 →
      H2 D = some (.lst ys) ∧ ((J.stop i H2 ∧ Q (.ref D) H2) ∨ (J.go i H2 ∧ ys.length < sizeLine ∧ ∀ x H3, J.yld i H2 x H3 → ∀ os : St, os.length = xs.length → g x (σ ++ os) H3 fun σ4 H4 => (∃ os' : St, σ4 = σ ++ os' ∧ os'.length = xs.length) ∧ tt σ4 H4 fun b H5 => if b = true then te σ4 H5 fun y H6 => H6 D = some (.lst ys) ∧ ∃ m', m' < m ∧ W (i + 1) m' (ys ++ [y]) (upd H6 D (.lst (ys ++ [y])))
        else ∃ m', m' < m ∧ W (i + 1) m' ys H5))) :
    wpAny (model X.prog X.w) X.A (newList []) (fun acc s₃ => wpAny (model X.prog X.w) X.A (newFunctionEnv sc X.env.globals cl [] X.env.qual none .none (some X.env)) (fun cenv s₄ =>
      codeAny (model X.prog X.w) X.A (.compStart (.ListComp elt [⟨tg, iter, ifs, 0⟩] sc pos) 0 (.ref it) acc { cenv with scope := relabel sc X.env })
        (fun r s' => r = .ok .next ∧ ∃ D H', acc = .ref D ∧ Inv X pins σ H' s' ∧ Q (.ref D) H' ∧ CLoc X pins H' cenv.locals ∧ ∃ m, s'.heap.Ns cenv.locals m) s₄) E s₃) E s2 := by
  refine wpAny_newObj_type (wpAny_newFunctionEnv cn.cell (by intro y hy; simp at hy) (fun h₁ hns₁ hsb₁ => ?_) cn.kind)
  dsimp only at hns₁ hsb₁ ⊢
  have hD : H2 s2.heap.objs.size = none := I2.hok.fresh (Nat.le_refl _)
  obtain ⟨W, ⟨m0, w0⟩, turn⟩ := h2 s2.heap.objs.size hD
  have I3 : Inv X pins σ (upd H2 s2.heap.objs.size (.lst [])) { s2 with heap := s2.heap.push { cls := .type "list", dict := none, data := .seq ([] : List Value).toArray } } :=
    I2.laid (t' := s2.toks) (fun b u e => Heap.get?_push_of_some _ e) (Nat.le_refl _) ⟨Nat.zero_le _, [], 0, .nil, Heap.get?_push_size _ rfl⟩
  generalize hs3 : ({ s2 with heap := s2.heap.push { cls := .type "list", dict := none, data := .seq ([] : List Value).toArray } } : Shared) = s3 at I3
  have eh : s3.heap = s2.heap.push { cls := .type "list", dict := none, data := .seq ([] : List Value).toArray } := by rw [← hs3]
  have e2 : ({ s2 with heap := h₁, toks := s2.toks + ([] : List (Str × Value)).length } : Shared) = { s3 with heap := h₁, toks := s3.toks } := by rw [← hs3]; rfl
  generalize hH3 : upd H2 s2.heap.objs.size (.lst []) = H3 at I3 w0
  rw [← eh] at hns₁ hsb₁ ⊢
  rw [e2]
  have below2 : ∀ b, b ∈ fp → b < s3.heap.objs.size := fun b hb => by
    obtain ⟨o, e, _⟩ := T.obj _ _ st2 b hb
    have : s2.heap.objs.size ≤ s3.heap.objs.size := by rw [eh, Heap.size_push]; exact Nat.le_succ _
    exact Nat.lt_of_lt_of_le (Heap.lt_size e) this
  have old : ∀ b o, s3.heap.get? b = some o → h₁.get? b = some o := fun b o e => (hsb₁.2 b (Nat.ne_of_lt (Heap.lt_size e))).trans (Heap.get?_push_of_some _ e)
  have old2 : ∀ b o, s2.heap.get? b = some o → s3.heap.get? b = some o := fun b o e => by rw [eh]; exact Heap.get?_push_of_some _ e
  have hsz3 : s2.heap.objs.size < s3.heap.objs.size := by rw [eh, Heap.size_push]; exact Nat.lt_succ_self _
  have fpFree : ∀ b ∈ fp, H3 b = none := fun b hb => by
    rw [← hH3, upd_ne (fun z => ?_)]
    · exact (f2 b hb).1
    · obtain ⟨o, e, _⟩ := T.obj _ _ st2 b hb
      have := Heap.lt_size e
      rw [z] at this
      exact Nat.lt_irrefl _ this
  have rl : ∀ y, (relabel sc X.env).names.lookup y = (sc.names.lookup y).map fun k => if (k == NameKind.free && X.env.scope.kind == .function && X.env.kindOf y == some .cell) then NameKind.cell else k := fun y => lookup_relabel X.env sc.names y
  have freeOf : ∀ y, sc.names.lookup y = some .free → ∃ c, cl.lookup y = some c := fun y e => clH (y, .free) (PySem.mem_of_lookup e) rfl
  have noCell : ∀ y, sc.names.lookup y ≠ some .cell := fun y e => cn.cell (y, .cell) (PySem.mem_of_lookup e) rfl
  have isFree : ∀ y, ((relabel sc X.env).names.lookup y = some .cell ∨ (relabel sc X.env).names.lookup y = some .free) → sc.names.lookup y = some .free := fun y h => by
    rw [rl y] at h
    cases e : sc.names.lookup y with
    | none => rw [e] at h; rcases h with z | z <;> exact absurd z (by simp)
    | some k =>
      rw [e] at h
      cases k with
      | free => rfl
      | cell => exact absurd e (noCell y)
      | «local» => rcases h with z | z <;> exact absurd z (by simp)
      | _ => rcases h with z | z <;> exact absurd z (by simp)
  have exOk : ∀ b ∈ fp, b ≠ s3.heap.objs.size ∧ (∀ y c, X.env.cells.lookup y = some c → c ≠ b) ∧ b ∉ frs X.stack := fun b hb => by
    obtain ⟨g0, g1, g2, g3, g4, g5⟩ := f2 b hb
    refine ⟨Nat.ne_of_lt (below2 b hb), g4, fun z => ?_⟩
    rcases List.mem_cons.mp (I2.stkSub b z) with z | z
    · exact g1 z
    · exact g2 z
  have hCnew : X.s₀.heap.objs.size ≤ s3.heap.objs.size := I3.sz
  have hCcell : ∀ y c, X.env.cells.lookup y = some c → c ≠ s3.heap.objs.size := fun y c e z => by
    obtain ⟨v, q⟩ := I3.cell y c e
    have := q.lt
    rw [z] at this
    exact Nat.lt_irrefl _ this
  have hCpin : ∀ p ∈ X.pn ++ pins, p.1 ≠ s3.heap.objs.size := fun p hp z => by
    have := Heap.lt_size (I3.pin p hp).1
    rw [z] at this
    exact Nat.lt_irrefl _ this
  have okc : (X.inComp Nc sc cl s3 H3 fp).Ok := by
    refine ⟨I3.ok.mod, cn.kind, I3.ok.glob, I3.ok.blt, Nat.le_refl _, fun y z c h1 h2 => I3.ok.inj y z c (clS y c h1) (clS z c h2), fun y hy => freeOf y (isFree y hy), fun y c hf => absurd (show false = true from hf) Bool.false_ne_true, I3.ok.hd, I3.ok.frames, .inl rfl,
      fun b hb => ⟨(exOk b hb).1, fun y c e => (exOk b hb).2.1 y c (clS y c e)⟩, fun b o e => I3.bs b o e, Nat.le_trans I3.ok.bsz I3.sz, fun b o e hb => ?_, fun b hb => (exOk b hb).2.2, I3.stack, I3.stkFree⟩
    obtain ⟨g0, g1, g2, g3, g4, g5⟩ := f2 b hb
    rcases g3 with z | z
    · exact I3.ok.noex b o e z
    · exact absurd (Heap.lt_size (I3.ok.bs b o e).1) (Nat.not_lt.mpr z)
  have hlen : σ.length = N.length := by rw [I3.len, hXN]
  have Ic : Inv (X.inComp Nc sc cl s3 H3 fp) [] (σ ++ List.replicate xs.length none) H3 { s3 with heap := h₁, toks := s3.toks } := by
    refine ⟨okc, rfl, I3.bare, Un.kept old, ⟨_, hns₁, fun i y v h1 h2 h3 => ?_⟩, fun y c e => ?_, I3.hok.fresh (Nat.le_refl _), fun y c e => I3.freeC y c (clS y c e), fun p hp => absurd (show p ∈ ([] : List (Addr × Obj)) from hp) (by simp), I3.hok.kept old, ?_⟩
    · have hi : i < σ.length := by
        by_cases hi : i < σ.length
        · exact hi
        · rw [List.getElem?_append_right (Nat.not_lt.mp hi)] at h2
          rw [List.getElem?_replicate] at h2
          split at h2 <;> cases h2
      rw [List.getElem?_append_left hi] at h2
      have hi' : i < N.length := by rw [← hlen]; exact hi
      obtain ⟨n1, n2, n3⟩ := cn.at hi' h1
      have hf : sc.names.lookup y = some .free := by
        rcases h3 with z | z
        · exfalso
          have z' : (relabel sc X.env).names.lookup y = some .local := z
          rw [rl y] at z'
          cases e : sc.names.lookup y with
          | none => rw [e] at z'; simp at z'
          | some k =>
            rw [e] at z'
            cases k with
            | «local» => exact n1 e
            | cell => exact n2 e
            | free =>
              simp only [Option.map_some, Option.some.injEq] at z'
              split at z' <;> cases z'
            | _ => simp at z'
        · exact isFree y z
      have hN : X.N[i]? = some y := by rw [hXN]; exact n3 hf
      obtain ⟨m, hn, hl⟩ := I3.loc
      have hv : fsc.names.lookup y = some .cell ∨ fsc.names.lookup y = some .free := cn.fr (y, .free) (PySem.mem_of_lookup hf) rfl
      have hv' : X.env.scope.names.lookup y = some .cell ∨ X.env.scope.names.lookup y = some .free := by rw [hE]; exact hv
      obtain ⟨u, ru, lk⟩ := hl i y v hN h2 (.inr hv')
      refine ⟨u, ru, .inr ⟨?_, ?_⟩⟩
      · show (relabel sc X.env).names.lookup y = some .cell ∨ (relabel sc X.env).names.lookup y = some .free
        rw [rl y, hf]
        simp only [Option.map_some, Option.some.injEq]
        split
        · exact .inl rfl
        · exact .inr rfl
      · rcases lk with ⟨kl, _⟩ | ⟨_, c, hc, hcell⟩
        · exfalso
          have kl' : X.env.scope.names.lookup y = some .local := kl
          rw [kl'] at hv'
          rcases hv' with z | z <;> cases z
        · obtain ⟨d, hd⟩ := freeOf y hf
          have ed := clS y d hd
          rw [hc] at ed
          cases ed
          exact ⟨c, hd, hcell.keeps old⟩
    · obtain ⟨v, q⟩ := I3.cell y c (clS y c e)
      exact ⟨v, q.keeps old⟩
    · show (σ ++ List.replicate xs.length none).length = Nc.length
      rw [List.length_append, hlen, cn.len, List.length_replicate]
  have stc : tn 0 ({ s3 with heap := h₁, toks := s3.toks } : Shared).heap := T.keep _ _ _ st2 fun b _ o e => old b o (old2 b o e)
  have hDf : s2.heap.objs.size ∉ fp := fun hm => by
    obtain ⟨o, e, _⟩ := T.obj _ _ st2 _ hm
    exact Nat.lt_irrefl _ (Heap.lt_size e)
  have fpc : ∀ {pins' : List (Addr × Obj)} {H' : Hp}, pins' = [] → (∀ b ∈ fp, H' b = none) → ∀ b ∈ fp, FpOk (X.inComp Nc sc cl s3 H3 fp) pins' H' b := fun {pins' H'} hp hn b hb => by
    subst hp
    exact ⟨hn b hb, (exOk b hb).1, (exOk b hb).2.2, .inl hb, fun y c e => (exOk b hb).2.1 y c (clS y c e), fun p hp => absurd (show p ∈ ([] : List (Addr × Obj)) from hp) (by simp)⟩
  have loop : ∀ s₄ : Shared, s₄ = { s3 with heap := h₁, toks := s3.toks } →
      codeAny (model X.prog X.w) X.A (.compLoop (.ListComp elt [⟨tg, iter, ifs, 0⟩] sc pos) 0 (.ref it) (.ref s2.heap.objs.size) (compEnvC sc cl s3.heap.objs.size X.env))
        (fun r s' => r = .ok .next ∧ ∃ D H', (Value.ref s2.heap.objs.size) = .ref D ∧ Inv X pins σ H' s' ∧ Q (.ref D) H' ∧ CLoc X pins H' s3.heap.objs.size ∧ ∃ m, s'.heap.Ns s3.heap.objs.size m) s₄ := by
    rintro s₄ rfl
    refine loopT (fun n s' => ∃ (i : Nat) (o : St) (H' : Hp) (ys : List V), o.length = xs.length ∧ Inv (X.inComp Nc sc cl s3 H3 fp) [] (σ ++ o) H' s' ∧ tn i s'.heap ∧ (∀ b ∈ fp, H' b = none) ∧ W i n ys H') ?_ m0 ⟨0, _, H3, [], List.length_replicate .., Ic, stc, fpFree, w0⟩
    rintro n s' ⟨i, o, H', ys, lo, I', st', fr', w'⟩
    obtain ⟨hDl, tw⟩ := turn i n ys H' w'
    rcases tw with ⟨stop, q⟩ | ⟨go, hz, step⟩
    ·
      refine thn (T.done (X.inComp Nc sc cl s3 H3 fp) rfl rfl rfl hc i [] s' _ H' _ I' (fpc rfl fr') st' stop) fun r s5 ⟨hr, I5⟩ => ?_
      subst hr
      have Ix : Inv X pins σ H' s5 := I3.call' (ch := fp) I5.os I5.base I5.hok I5.bare fun b hb => by
        obtain ⟨g0, g1, g2, g3, g4, g5⟩ := f2 b hb
        exact ⟨g3, g1, g4, g5⟩
      have hCf : H' s3.heap.objs.size = none := I5.free
      obtain ⟨m, hn, _⟩ := I5.loc
      exact ⟨rfl, s2.heap.objs.size, H', rfl, Ix, q, ⟨hCf, fun z => Nat.lt_irrefl _ (by have := I3.lt; rw [← z] at this; exact this), hCnew, hCcell, hCpin⟩, m, hn⟩
    ·
      refine thn (T.item (X.inComp Nc sc cl s3 H3 fp) rfl rfl rfl hc i [] s' _ H' _ I' (fpc rfl fr') st' go) fun r s5 ⟨u, hr, h4⟩ => ?_
      subst hr
      dsimp only
      refine thnF h4 fun _ s6 ⟨xv, H5, I5, r5, y5, st5, fr5⟩ => ?_
      have I5' := I5.pinned (fpc rfl fr5) (T.obj _ _ st5)
      have again : ∀ {o' : St} {H7 : Hp} {s7 : Shared} {m' : Nat} {ys' : List V}, o'.length = xs.length → Inv (X.inComp Nc sc cl s3 H3 fp) ([] ++ pinsAt fp s6.heap) (σ ++ o') H7 s7 → m' < n → W (i + 1) m' ys' H7 →
          ∃ m, m < n ∧ ∃ (i : Nat) (o : St) (H' : Hp) (ys : List V), o.length = xs.length ∧ Inv (X.inComp Nc sc cl s3 H3 fp) [] (σ ++ o) H' s7 ∧ tn i s7.heap ∧ (∀ b ∈ fp, H' b = none) ∧ W i m ys H' := fun {o' H7 s7 m' ys'} lo' I7 hm w7 => by
        refine ⟨m', hm, i + 1, o', H7, ys', lo', I7.unpinned, T.keep _ _ _ st5 fun b hb o e => (I7.pin (b, o) (List.mem_append_right _ (List.mem_append_right _ (mem_pinsAt hb e)))).1, fun b hb => ?_, w7⟩
        obtain ⟨o', e, d⟩ := T.obj _ _ st5 b hb
        exact (I7.pin (b, o') (List.mem_append_right _ (List.mem_append_right _ (mem_pinsAt hb e)))).2.1
      refine thnF (hg cl s3 H3 fp _ s6 _ H5 xv u _ I5' r5 (step xv _ y5 o lo)) fun _ s7 ⟨σ7, H7, I7, ⟨o7, e7, lo7⟩, q7⟩ => ?_
      subst e7
      refine thnF (ht cl s3 H3 fp _ s7 _ _ _ I7 q7) fun b s8 ⟨H8, I8, q8⟩ => ?_
      cases b with
      | false =>
        rw [if_neg Bool.false_ne_true] at q8 ⊢
        obtain ⟨m', hm, w8⟩ := q8
        exact again lo7 I8 hm w8
      | true =>
        rw [if_pos rfl] at q8 ⊢
        refine thnF (he cl s3 H3 fp _ s8 _ H8 _ I8 q8) fun y s9 ⟨yv, H9, I9, r9, hD9, m', hm, w9⟩ => ?_
        refine thnF (mt_append _ s9 _ H9 (.ref s2.heap.objs.size) [yv] (.ref s2.heap.objs.size) [y] (fun v H => v = .non ∧ H = upd H9 s2.heap.objs.size (.lst (ys ++ [yv]))) I9 rfl (.cons r9 .nil) ⟨_, ys, yv, rfl, rfl, hD9, hz, rfl, rfl⟩) fun _ s10 ⟨v10, H10, I10, r10, e10, e11⟩ => ?_
        subst e11
        exact again lo7 I10 hm w9
  exact codeAny_compStart_list (loop _ rfl) (T.self _ 0 _ _ _ stc (loop _ rfl))
theorem comp_hasT (I : ∀ y, (X.env.kindOf y = some .cell ∨ X.env.kindOf y = some .free) → ∃ c, X.env.cells.lookup y = some c) (hE : X.env.scope = fsc) (cn : CompNs N Nc xs sc fsc) : ∀ y ∈ sc.names, y.2 = .free → ∃ c, X.env.cells.lookup y.1 = some c := fun y hy hf => by
  refine I y.1 ?_
  show X.env.scope.names.lookup y.1 = some .cell ∨ X.env.scope.names.lookup y.1 = some .free
  rw [hE]
  exact cn.fr y hy hf
theorem pe_compT (hE : X.env.scope = fsc) (hXN : X.N = N) (cn : CompNs N Nc xs sc fsc) (hc : X.calm = true) (hi : PI X tg iter wi)
    (hg : ∀ cl s H ex, PG (X.inComp Nc sc cl s H ex) tg g) (ht : ∀ cl s H ex, PIfs (X.inComp Nc sc cl s H ex) ifs tt) (he : ∀ cl s H ex, PE (X.inComp Nc sc cl s H ex) elt te)
    (hs : ∀ v, foldedSetIterable iter X.env v = pure v := by intro _; rfl) : PE X (.ListComp elt [⟨tg, iter, ifs, 0⟩] sc pos) (tCompT xs.length wi g tt te) := by
  intro pins s σ H Q I h
  obtain ⟨cl, hcl, clS, clH⟩ := closure_ok (env := X.env) (sc := sc) (comp_hasT I.ok.has hE cn)
  rw [eval_ListComp]
  refine wpAny_comprehension_free (use := none) rfl hs hcl cn.kind cn.nm (thn (hi pins s σ H _ I h) fun v s1 h1 => thn h1 fun itv s2 h2 => ?_)
  obtain ⟨it, fp, tn, J, H2, rfl, I2, T, st2, f2, h2⟩ := h2
  refine thn (comp_coreT (pos := pos) (iter := iter) hE hXN cn hc hg ht he clS clH I2 T st2 f2 h2) fun acc s3 h3 => thn h3 fun cenv s4 h4 => codeAny_mono h4 fun r s' h5 => ?_
  obtain ⟨rfl, D, H', rfl, I', q, cloc, m, hn⟩ := h5
  exact ⟨m, hn, fun h' k => ⟨.ref D, H', I'.sameBut cloc k, rfl, q⟩⟩
end
theorem comp_pairs {K : PySem.W.Frag} {a : Addr} {zs : List V} {tt : TT} {te : TE} {σ : St} {H1 : Hp} {Q : Addr → Hp → Prop} {n m : Nat} (hn : n = σ.length) (hm : m = σ.length + 1) (hz : zs.length ≤ sizeLine) (Pv : Addr → Nat → List V → Hp → Prop)
    (h0 : ∀ D, H1 D = none → Pv D 0 [] (upd H1 D (.lst []))) (hD : ∀ D i ys H, Pv D i ys H → H D = some (.lst ys) ∧ ys.length ≤ i) (hl : ∀ D i ys H, H1 D = none → Pv D i ys H → SqL K H a zs)
    (hs : ∀ D i x ys H (K1 : VK) (K2 : Hp → Prop), H1 D = none → zs[i]? = some x → Pv D i ys H → (∀ y H5, H5 D = some (.lst ys) → Pv D (i + 1) (ys ++ [y]) (upd H5 D (.lst (ys ++ [y]))) → K1 y H5) → (∀ H4, Pv D (i + 1) ys H4 → K2 H4) →
      ∃ t v w, x = .ref t ∧ SqT K H t [v, w] ∧ tt (σ ++ [some v, some w]) H fun b H4 => if b = true then te (σ ++ [some v, some w]) H4 K1 else K2 H4)
    (hd : ∀ D ys H, H1 D = none → Pv D zs.length ys H → Q D H) :
    ∀ D, H1 D = none → ∃ W : Nat → Nat → List V → Hp → Prop, (∃ m, W 0 m [] (upd H1 D (.lst []))) ∧ ∀ i k ys H2, W i k ys H2 →
      H2 D = some (.lst ys) ∧ (((Itl K a).stop i H2 ∧ Q D H2) ∨ ((Itl K a).go i H2 ∧ ys.length < sizeLine ∧ ∀ x H3, (Itl K a).yld i H2 x H3 → ∀ os : St, os.length = 2 → gTup K 2 (gCons (gName n) (gCons (gName m) gNil)) x (σ ++ os) H3 fun σ4 H4 => (∃ os' : St, σ4 = σ ++ os' ∧ os'.length = 2) ∧ tt σ4 H4 fun b H5 => if b = true then te σ4 H5 fun y H6 => H6 D = some (.lst ys) ∧ ∃ m', m' < k ∧ W (i + 1) m' (ys ++ [y]) (upd H6 D (.lst (ys ++ [y])))
        else ∃ m', m' < k ∧ W (i + 1) m' ys H5)) := by
  intro D hDn
  subst hn hm
  refine ⟨fun i m ys H => m = zs.length - i ∧ i ≤ zs.length ∧ Pv D i ys H, ⟨zs.length, rfl, Nat.zero_le _, h0 D hDn⟩, ?_⟩
  rintro i m ys H2 ⟨rfl, hi, p⟩
  obtain ⟨e, l⟩ := hD D i ys H2 p
  have q := hl D i ys H2 hDn p
  refine ⟨e, ?_⟩
  by_cases hlt : i < zs.length
  · refine .inr ⟨⟨zs, zs[i], q, by simp [hlt]⟩, Nat.lt_of_le_of_lt l (Nat.lt_of_lt_of_le hlt hz), fun x H3 y os ho => ?_⟩
    obtain ⟨e1, y⟩ := y
    subst e1
    obtain ⟨t, v, w, rfl, ht, q5⟩ := hs D i x ys _ (fun y H6 => H6 D = some (.lst ys) ∧ ∃ m', m' < zs.length - i ∧ m' = zs.length - (i + 1) ∧ i + 1 ≤ zs.length ∧ Pv D (i + 1) (ys ++ [y]) (upd H6 D (.lst (ys ++ [y])))) (fun H5 => ∃ m', m' < zs.length - i ∧ m' = zs.length - (i + 1) ∧ i + 1 ≤ zs.length ∧ Pv D (i + 1) ys H5) hDn (y zs q) p (fun y H5 h5 p5 => ⟨h5, zs.length - (i + 1), by omega, rfl, hlt, p5⟩) fun H4 p4 => ⟨zs.length - (i + 1), by omega, rfl, hlt, p4⟩
    match os, ho with
    | [o1, o2], _ =>
      have e2 : ((σ ++ [o1, o2]).set σ.length (some v)).set (σ.length + 1) (some w) = σ ++ [some v, some w] := by
        rw [List.set_append_right _ _ (Nat.le_refl _), Nat.sub_self, List.set_append_right _ _ (Nat.le_succ _)]
        rw [show (List.length σ + 1) - List.length σ = 1 by omega]
        rfl
      refine ⟨t, [v, w], rfl, ht, rfl, v, [w], rfl, w, [], rfl, rfl, ?_⟩
      refine ⟨⟨[some v, some w], e2, rfl⟩, ?_⟩
      rw [e2]
      exact q5
  · have ei : i = zs.length := by omega
    subst ei
    exact .inl ⟨⟨zs, q, Nat.le_refl _⟩, hd D ys H2 hDn p⟩
section
variable {X : Cx} {elt iter : Expr} {x1 x2 x3 : Str} {p1 p2 p3 pt pos : Pos} {k : Nat} {ifs : List Expr} {sc fsc : Scope} {N Nc : List Str} {wi : TI} {tt : TT} {te : TE}
theorem pe_comp2 (hE : X.env.scope = fsc) (hXN : X.N = N) (cn : CompNs N Nc [x1, x2] sc fsc) (hc : X.calm = true) (hi : PI X (.Tuple [.Name x1 p1, .Name x2 p2] k pt) iter wi)
    (ht : ∀ cl s H ex, PIfs (X.inComp Nc sc cl s H ex) ifs tt) (he : ∀ cl s H ex, PE (X.inComp Nc sc cl s H ex) elt te) (hs : ∀ v, foldedSetIterable iter X.env v = pure v := by intro _; rfl) :
    PE X (.ListComp elt [⟨.Tuple [.Name x1 p1, .Name x2 p2] k pt, iter, ifs, 0⟩] sc pos) (tCompT 2 wi (gTup X.K 2 (gCons (gName N.length) (gCons (gName (N.length + 1)) gNil))) tt te) :=
  pe_compT hE hXN cn hc hi (fun cl s H ex => pg_tup (X := X.inComp Nc sc cl s H ex) hc (pgs_cons (pgc_name (j := 0) cn rfl rfl) (pgs_cons (pgc_name (j := 1) cn rfl rfl) pgs_nil))) ht he hs
end
end L2
namespace L2
open PySem PySem.Spec PyProof.Rows
section
variable {X : Cx}
end
section
variable {X : Cx}
end
theorem eqv_ints : ∀ ns ms : List Int, PyData.eqvAll (ns.map .int) (ms.map .int) = decide (ns = ms)
  | [], [] => rfl
  | [], _ :: _ => rfl
  | _ :: _, [] => rfl
  | n :: ns, m :: ms => by
    show ((n == m) && PyData.eqvAll (ns.map .int) (ms.map .int)) = _
    rw [eqv_ints ns ms]
    by_cases h : n = m
    · by_cases k : ns = ms
      · subst h; subst k; simp
      · simp [h, k]
    · simp [h]
theorem lay_ints : ∀ ns : List Int, PyData.canLayAll0 (ns.map .int) = true ∧ PyData.depthAll (ns.map .int) ≤ 0
  | [] => ⟨rfl, Nat.le_refl _⟩
  | n :: ns => by
    obtain ⟨h1, h2⟩ := lay_ints ns
    refine ⟨?_, ?_⟩
    · show (true && PyData.canLayAll0 (ns.map .int)) = true
      rw [h1]; rfl
    · show max 0 (PyData.depthAll (ns.map .int)) ≤ 0
      omega
theorem shape_ints (ns : List Int) : SeqAt.shaped (.tuple (ns.map .int)) = true ∧ SeqAt.shaped (.list (ns.map .int)) = true := by
  obtain ⟨h1, h2⟩ := lay_ints ns
  constructor
  · unfold SeqAt.shaped
    rw [Bool.and_eq_true]
    refine ⟨h1, decide_eq_true ?_⟩
    show PyData.depthAll (ns.map .int) + 1 ≤ 64
    omega
  · unfold SeqAt.shaped
    rw [Bool.and_eq_true]
    refine ⟨h1, decide_eq_true ?_⟩
    show PyData.depthAll (ns.map .int) + 1 ≤ 64
    omega
section
variable {X : Cx}
end
end L2
namespace L2
open PySem PySem.Spec PyProof.Rows
namespace CutT
open HT
section
variable {prog : Program} {w : World} {A : Around} {E : Value → Shared → Prop} {s : Shared}
end
end CutT
end L2
namespace L2
open PySem PySem.Spec PyProof.Rows
section
variable {prog : Program} {w : World} {A : Around} {E : Value → Shared → Prop} {s : Shared}
end
section
variable {M : Model} {A : Around} {E : Value → Shared → Prop} {s : Shared} {env : Env}
end
section
variable {X : Cx}
end
end L2
namespace L2
open PySem PySem.Spec PyProof.Rows
theorem map_erase {α β : Type} (f : α → β) : ∀ (xs : List α) (j : Nat), (xs.map f).eraseIdx j = (xs.eraseIdx j).map f
  | [], _ => rfl
  | _ :: _, 0 => rfl
  | x :: xs, j + 1 => congrArg (f x :: ·) (map_erase f xs j)
section
variable {X : Cx}
def rRemove : V → List V → Hp → VK → Prop := fun x vs H Q => ∃ (l : Addr) (ns : List Int) (k : Int), x = .ref l ∧ vs = [.int k] ∧ H l = some (.lst (ns.map V.int)) ∧ k ∈ ns ∧ Q .non (upd H l (.lst ((ns.eraseIdx (ns.idxOf k)).map V.int)))
theorem mt_remove : MtM X "list.remove" rRemove := by
  intro pins s σ H x vs v us Q I rx rv h
  obtain ⟨l, ns, k, rfl, rfl, hH, hk, q⟩ := h
  cases rx
  obtain ⟨u, rfl, ru⟩ := rv.one
  obtain ⟨t, rfl⟩ := ru
  obtain ⟨z, its, n, r, hl, e⟩ := I.lstM hH
  have hi := intsAre_of r
  have hn := hi.length
  have hj : ns.idxOf k < ns.length := List.idxOf_lt_length_iff.mpr hk
  have ml : (ns.map V.int).length = ns.length := List.length_map ..
  refine call_meets PySem.F.slot_list_remove ⟨_, e, rfl⟩ PySem.F.entry_list_remove (PySem.F.args_list_remove_2 _ _) (MeetsSeq.list_remove l its.toArray n (.int k t) (isInt k) (fun y hy => eq_isInt k t hi y (by simpa using hy)) (ns.idxOf k) (by rw [List.size_toArray]; omega) ?_ ?_ (by rw [List.size_toArray]; omega)) ⟨e, ?_⟩
  · have : isInt k its[ns.idxOf k] = true := by rw [isInt_at k hi _ (by omega) hj]; simpa using List.getElem_idxOf hj
    exact this
  · intro j hjs hlt
    have : isInt k its[j] = false := by rw [isInt_at k hi j (by simpa using hjs) (by omega)]; exact ne_of_lt_idxOf hlt _
    exact this
  · rw [← map_erase] at q
    refine ⟨.non, _, I.lset (its' := its.eraseIdx (ns.idxOf k)) hH e ?_ (r.eraseIdx (ns.idxOf k)) ?_, rfl, q⟩
    · show its.toArray.eraseIdxIfInBounds (ns.idxOf k) = (its.eraseIdx (ns.idxOf k)).toArray
      rw [List.eraseIdxIfInBounds_toArray]
    · have := len_erase (ns.map V.int) (ns.idxOf k)
      omega
end
theorem vals_get : ∀ {xs : List V} {us : List Value}, xs.length = us.length → (∀ (i : Nat) x u, xs[i]? = some x → us[i]? = some u → RelV x u) → Vals xs us
  | [], [], _, _ => .nil
  | [], _ :: _, h, _ => by cases h
  | _ :: _, [], h, _ => by cases h
  | x :: xs, u :: us, h, k => .cons (k 0 x u rfl rfl) (vals_get (Nat.succ.inj h) fun i y v h1 h2 => k (i + 1) y v h1 h2)
section
variable {X : Cx} {e : Expr} {te : TE} {p p2 pos pos2 : Pos}
def tLRange (te : TE) : TE := fun σ H Q => te σ H fun x H1 => ∃ n : Nat, x = .int (n : Int) ∧ n < 1000 ∧ ∀ l, H1 l = none → Q (.ref l) (upd H1 l (.lst ((List.range n).map fun i : Nat => V.int (i : Int))))
theorem pe_listrange (hc : X.calm = true) (hg : Gl X "list") (hm : X.mg "list" = none) (hg2 : Gl X "range") (hm2 : X.mg "range" = none) (he : PE X e te)
    (hs : starEach [e] X.env = [(false, eval e X.env)] := by rfl)
    (hs2 : starEach [(.Call (.Name "range" p2) [e] [] pos2 : Expr)] X.env = [(false, eval (.Call (.Name "range" p2) [e] [] pos2) X.env)] := by rfl) :
    PE X (.Call (.Name "list" p) [.Call (.Name "range" p2) [e] [] pos2] [] pos) (tLRange te) := by
  intro pins s σ H Q I h
  refine wpAny_Call_Name_kw (ld_blt I hg hm boot_list ?_ (by decide) (by decide))
  refine callWith_type1 ?_ hs2 rfl
  rw [hs2]
  refine Calls.spliced_cons ?_
  refine wpAny_Call_Name_kw (ld_blt I hg2 hm2 boot_range ?_ (by decide) (by decide))
  refine callWith_type1 ?_ hs rfl
  rw [hs]
  refine Calls.spliced_cons (thn (he pins s σ H _ I h) fun u s1 ⟨x, H1, I1, r1, n, hx, hn, q⟩ => ?_)
  subst hx
  obtain ⟨t, rfl⟩ := r1
  refine Calls.spliced_nil ?_
  refine call_range_1 ?_
  refine Calls.spliced_nil ?_
  refine call_list_range (n := n) (I1.ok.hd hc) (IsRange.new ..) (small_one (by omega) (by omega) (by omega) (by omega)) (by rw [rangeSize_one]; split <;> omega) (by omega) fun h' tk acc c' kp eS it => ?_
  have kp' : ∀ b o, s1.heap.get? b = some o → h'.get? b = some o := fun b o e => kp b o (Heap.get?_push_of_some _ e)
  have hp : s1.heap.objs.size ≤ (s1.heap.push { cls := .type "range", data := .fields #[.int 0 s1.toks, .int (n : Int) t, .int 1 (s1.toks + 1)] }).objs.size := by simp [Heap.push]
  have rv : Vals ((List.range n).map fun i : Nat => V.int (i : Int)) acc.toList := by
    refine vals_get (by simp [it.1]) fun i x u hx hu => ?_
    rw [List.getElem?_map] at hx
    obtain ⟨t', e⟩ := it.2 i u (by simpa using hu)
    have hi : i < n := by
      have := (List.getElem?_eq_some_iff.mp hu).1
      rw [Array.length_toList, it.1] at this
      exact this
    rw [List.getElem?_range hi] at hx
    have hx' : x = V.int (i : Int) := (Option.some.inj hx).symm
    subst hx'
    exact ⟨t', by rw [e]; simp⟩
  have hz : ((List.range n).map fun i : Nat => V.int (i : Int)).length ≤ sizeLine := by rw [List.length_map, List.length_range]; exact Nat.le_of_lt (small1000 (by omega))
  exact ⟨.ref _, _, I1.laid (t' := tk) kp' hp (show ObjOk X.prog X.w _ h' _ (.lst ((List.range n).map fun i : Nat => V.int (i : Int))) from ⟨hz, acc.toList, c', rv, by simpa using eS⟩), rfl, q _ (I1.hok.fresh hp)⟩
end
section
variable {prog : Program} {w : World} {A : Around} {E : Value → Shared → Prop} {s : Shared}
end
section
variable {X : Cx}
end
end L2
namespace L2
open PySem PySem.Spec PyProof.Rows
section
variable {P : Program} {w : World} {K : PySem.W.Frag} {mg : Str → Option Value} {base : Heap}
end
section
variable {X : Cx} {k : Nat} {f : Addr} {fd : FuncData} {ps : List Str} {sp : Sp} {x : Str} {p pos : Pos} {e : Expr} {es : List Expr} {t : TA}
end
section
variable {X : Cx}
end
end L2
namespace L2
open PySem PySem.Spec PyProof.Rows
section
variable {prog : Program} {w : World} {A : Around} {E : Value → Shared → Prop} {s : Shared}
end
section
variable {X : Cx}
end
end L2
namespace L2
open PySem PySem.Spec PyProof.Rows
structure FunD (K : PySem.W.Frag) (x qual : Str) (st : Stmt) (f : Addr) (fd : FuncData) : Prop where
  ex : ∃ (oc : Value) (od : Option Addr) (dV kV doc pm : Value) (an : Option Addr) (cdv ct : Value) (osl : Array (Option Value)),
    fd = PySem.W.fnOf x qual (defArgs st) (defBody st) (defScope st) dV kV doc pm an cdv ct ∧ K.lookup f = some ⟨oc, od, .func fd, osl⟩ ∧ PySem.W.codeIn K cdv qual = true
  kp : PySem.W.keepIn K (.ref f) = true
section
variable {P : Program} {w : World} {K : PySem.W.Frag} {mg : Str → Option Value} {base : Heap}
theorem FunD.ok {x qual : Str} {st : Stmt} {f : Addr} {fd : FuncData} {N ps : List Str} {k : Nat} {sp : Sp} (F : FunD K x qual st f fd) (S : FnScope N ps (defScope st)) (len : ∀ vs H Q E, sp vs H Q E → vs.length = ps.length)
    (hbody : ∀ (cdv : Value) (A : Around) (outer : List Env) (s : Shared) (H : Hp) (vs : List V) (Q : VK) (E : XK), Room k (A.deeper (envOfC qual (defScope st) s.heap.objs.size f cdv)) → sp vs H Q E →
      ∃ t, PSs (cxOf CX0 P w K mg base N qual (defScope st) f cdv A outer s H E).nox (defBody st) t ∧ t { nx := fun _ H' => Q .non H', rt := Q } (start N vs) H) : FnOk P w K mg base CX0 (k + 1) f fd ps sp := by
  obtain ⟨oc, od, dV, kV, doc, pm, an, cdv, ct, osl, rfl, lk, hcd⟩ := F.ex
  refine fn_of lk hcd S len fun A outer s H vs Q E hr hsp => ?_
  obtain ⟨t, h, q⟩ := hbody cdv A outer s H vs Q E hr hsp
  exact ⟨t, h.nox, q⟩
theorem fund_mk {x qual : Str} {st : Stmt} {f : Addr} {oc : Value} {od an : Option Addr} {osl : Array (Option Value)} {dV kV doc pm cdv ct : Value} (l : K.lookup f = some ⟨oc, od, .func (PySem.W.fnOf x qual (defArgs st) (defBody st) (defScope st) dV kV doc pm an cdv ct), osl⟩)
    (c : PySem.W.codeIn K cdv qual = true) (k : PySem.W.keepIn K (.ref f) = true) : FunD K x qual st f (PySem.W.fnOf x qual (defArgs st) (defBody st) (defScope st) dV kV doc pm an cdv ct) := ⟨⟨oc, od, dV, kV, doc, pm, an, cdv, ct, osl, rfl, l, c⟩, k⟩
end
section
variable {X : Cx} {CX : CXT} {W : St → XK} {k : Nat} {f C : Addr} {fd : FuncData} {ps : List Str} {sp : Sp} {dvs : List V} {ds : List Value} {E : XK} {x m : Str} {p pos apos : Pos} {e o : Expr} {es : List Expr} {ta : TE} {t : TA}
end
end L2
namespace L2
open PySem PySem.Spec PyProof.Rows
def Cx.inCompC (X : Cx) (Nc : List Str) (sc : Scope) (x : Str) (cl : List (Str × Addr)) (s : Shared) (H : Hp) (ex : List Addr) : Cx :=
  { X with N := Nc, s₀ := s, H₀ := H, env := compEnvC sc ((x, s.heap.objs.size + 1) :: cl) s.heap.objs.size X.env, outer := X.stack, stack := X.stack, ex := ex, fn := fun y => decide (y = x), pn := [], xe := fun _ _ => False }
structure CompNC (N Nc : List Str) (x : Str) (sc fsc : Scope) : Prop where
  kind : sc.kind = .function
  one : (sc.names.filter fun y => y.2 == .cell) = [(x, .cell)]
  nm : ∀ y ∈ sc.names, y.2 = .local → sc.names.lookup y.1 = some .local
  own : sc.names.lookup x = some .cell
  fr : ∀ y ∈ sc.names, y.2 = .free → fsc.names.lookup y.1 = some .cell ∨ fsc.names.lookup y.1 = some .free
  len : Nc.length = N.length + 1
  nd : Nc.Nodup
  last : Nc[N.length]? = some x
  slot : ((List.range N.length).all fun i => match Nc[i]? with
    | some y => (match sc.names.lookup y with | some .free => N[i]? == some y | some .local => false | some .cell => false | _ => true)
    | none => true) = true
theorem CompNC.at {N Nc : List Str} {x : Str} {sc fsc : Scope} (C : CompNC N Nc x sc fsc) {i : Nat} {y : Str} (hi : i < N.length) (h : Nc[i]? = some y) : sc.names.lookup y ≠ some .local ∧ sc.names.lookup y ≠ some .cell ∧ (sc.names.lookup y = some .free → N[i]? = some y) := by
  have q := List.all_eq_true.mp C.slot i (List.mem_range.mpr hi)
  rw [h] at q
  dsimp only at q
  cases e : sc.names.lookup y with
  | none => exact ⟨fun z => (nomatch z), fun z => (nomatch z), fun z => (nomatch z)⟩
  | some k =>
    rw [e] at q
    cases k with
    | «local» => exact absurd (show false = true from q) Bool.false_ne_true
    | cell => exact absurd (show false = true from q) Bool.false_ne_true
    | free => exact ⟨fun z => (nomatch z), fun z => (nomatch z), fun _ => by simpa using q⟩
    | _ => exact ⟨fun z => (nomatch z), fun z => (nomatch z), fun z => (nomatch z)⟩
theorem cellsFrom_filter : ∀ (names : List (Str × NameKind)) (n : Nat) (acc : List (Str × Addr)), cellsFrom n names acc = cellsFrom n (names.filter fun y => y.2 == .cell) acc
  | [], _, _ => rfl
  | (y, k) :: r, n, acc => by
    rw [List.filter_cons]
    cases e : k == NameKind.cell with
    | true => simp only [if_true, cellsFrom, e]; exact cellsFrom_filter r _ _
    | false => simp only [Bool.false_eq_true, if_false, cellsFrom, e]; exact cellsFrom_filter r _ _
theorem pushCells_filter : ∀ (names : List (Str × NameKind)) (h : Heap), pushCells h names = pushCells h (names.filter fun y => y.2 == .cell)
  | [], _ => rfl
  | (y, k) :: r, h => by
    rw [List.filter_cons]
    cases e : k == NameKind.cell with
    | true => simp only [if_true, pushCells, e]; exact pushCells_filter r _
    | false => simp only [Bool.false_eq_true, if_false, pushCells, e]; exact pushCells_filter r _
theorem wpAny_newEnvC {M : Model} {A : Around} {E : Value → Shared → Prop} {s : Shared} {scope : Scope} {globals : Addr} {closure : List (Str × Addr)} {qual : Str} {outer : Env} {x : Str} {Q : Env → Shared → Prop}
    (one : (scope.names.filter fun y => y.2 == .cell) = [(x, .cell)])
    (hQ : Q (newEnv scope s.heap.objs.size globals ((x, s.heap.objs.size + 1) :: closure) qual none .none (some outer) builtinsNs) { s with heap := (s.heap.push { cls := .type "dict", data := .dict #[] }).push { cls := .type "cell", data := .cell none } }) :
    wpAny M A (newFunctionEnv scope globals closure [] qual none .none (some outer)) Q E s := by
  simp only [newFunctionEnv, Option.isSome_some, if_true]
  refine wpAny_bind (wpAny_alloc ?_)
  refine wpAny_bind (wpAny_layCells _ (fun name kind cells => by cases hkc : kind == NameKind.cell <;> simp [hkc]) _ _ _ _ ?_)
  rw [cellsFrom_filter, pushCells_filter, one]
  rw [show ({ s with heap := s.heap.push { cls := .type "dict", data := .dict #[] } } : Shared).heap.objs.size = s.heap.objs.size + 1 from Heap.size_push ..]
  rw [List.forIn_nil]
  exact wpAny_bind (wpAny_pure (wpAny_pure hQ))
section
variable {X : Cx} {elt iter : Expr} {x : Str} {px pos : Pos} {ifs : List Expr} {sc fsc : Scope} {N Nc : List Str} {wi : TI} {tt : TT} {te : TE}
theorem comp_coreC (hE : X.env.scope = fsc) (hXN : X.N = N) (cn : CompNC N Nc x sc fsc) (hc : X.calm = true)
    (ht : ∀ cl s H ex, PIfs (X.inCompC Nc sc x cl s H ex) ifs tt) (he : ∀ cl s H ex, PE (X.inCompC Nc sc x cl s H ex) elt te)
    {cl : List (Str × Addr)} (clS : ∀ y c, cl.lookup y = some c → X.env.cells.lookup y = some c) (clH : ∀ y ∈ sc.names, y.2 = .free → ∃ c, cl.lookup y.1 = some c)
    {pins : List (Addr × Obj)} {σ : St} {H2 : Hp} {s2 : Shared} {it : Addr} {fp : List Addr} {tn : Nat → Heap → Prop} {J : It} {Q : VK} {E : Value → Shared → Prop}
    (I2 : Inv X pins σ H2 s2) (T : Turn X.prog X.w X.K (.Name x px) J fp it tn) (st2 : tn 0 s2.heap) (f2 : ∀ b ∈ fp, FpOk X pins H2 b)
    (h2 : ∀ D, H2 D = none → ∃ W : Nat → Nat → List V → Hp → Prop, (∃ m, W 0 m [] (upd H2 D (.lst []))) ∧ ∀ i m ys H2, W i m ys H2 →
      H2 D = some (.lst ys) ∧ ((J.stop i H2 ∧ Q (.ref D) H2) ∨ (J.go i H2 ∧ ys.length < sizeLine ∧ ∀ x H3, J.yld i H2 x H3 → tt (σ ++ [some x]) H3 fun b H4 => if b = true then te (σ ++ [some x]) H4 fun y H5 => H5 D = some (.lst ys) ∧ ∃ m', m' < m ∧ W (i + 1) m' (ys ++ [y]) (upd H5 D (.lst (ys ++ [y])))
        else ∃ m', m' < m ∧ W (i + 1) m' ys H4))) :
    wpAny (model X.prog X.w) X.A (newList []) (fun acc s₃ => wpAny (model X.prog X.w) X.A (newFunctionEnv sc X.env.globals cl [] X.env.qual none .none (some X.env)) (fun cenv s₄ =>
      codeAny (model X.prog X.w) X.A (.compStart (.ListComp elt [⟨.Name x px, iter, ifs, 0⟩] sc pos) 0 (.ref it) acc { cenv with scope := relabel sc X.env })
        (fun r s' => r = .ok .next ∧ ∃ D H', acc = .ref D ∧ Inv X pins σ H' s' ∧ Q (.ref D) H' ∧ CLoc X pins H' cenv.locals ∧ ∃ m, s'.heap.Ns cenv.locals m) s₄) E s₃) E s2 := by
  refine wpAny_newObj_type (wpAny_newEnvC cn.one ?_)
  dsimp only
  have hD : H2 s2.heap.objs.size = none := I2.hok.fresh (Nat.le_refl _)
  obtain ⟨W, ⟨m0, w0⟩, turn⟩ := h2 s2.heap.objs.size hD
  have I3 : Inv X pins σ (upd H2 s2.heap.objs.size (.lst [])) { s2 with heap := s2.heap.push { cls := .type "list", dict := none, data := .seq ([] : List Value).toArray } } :=
    I2.laid (t' := s2.toks) (fun b u e => Heap.get?_push_of_some _ e) (Nat.le_refl _) ⟨Nat.zero_le _, [], 0, .nil, Heap.get?_push_size _ rfl⟩
  generalize hs3 : ({ s2 with heap := s2.heap.push { cls := .type "list", dict := none, data := .seq ([] : List Value).toArray } } : Shared) = s3 at I3
  have eh : s3.heap = s2.heap.push { cls := .type "list", dict := none, data := .seq ([] : List Value).toArray } := by rw [← hs3]
  generalize hH3 : upd H2 s2.heap.objs.size (.lst []) = H3 at I3 w0
  rw [← eh]
  have hns₁ : ((s3.heap.push { cls := .type "dict", data := .dict #[] }).push { cls := .type "cell", data := .cell none }).Ns s3.heap.objs.size (fun _ => none) := (Heap.Ns.new s3.heap (.type "dict")).keeps fun b o e => Heap.get?_push_of_some _ e
  have hcell₁ : ((s3.heap.push { cls := .type "dict", data := .dict #[] }).push { cls := .type "cell", data := .cell none }).IsCell (s3.heap.objs.size + 1) none := by
    refine ⟨{ cls := .type "cell", data := .cell none }, ?_, rfl⟩
    have := Heap.get?_push_size (s3.heap.push { cls := .type "dict", data := .dict #[] }) (o := { cls := .type "cell", data := .cell none }) rfl
    rw [Heap.size_push] at this
    exact this
  have old : ∀ b o, s3.heap.get? b = some o → ((s3.heap.push { cls := .type "dict", data := .dict #[] }).push { cls := .type "cell", data := .cell none }).get? b = some o := fun b o e => Heap.get?_push_of_some _ (Heap.get?_push_of_some _ e)
  have e2 : ({ s2 with heap := (s3.heap.push { cls := .type "dict", data := .dict #[] }).push { cls := .type "cell", data := .cell none } } : Shared) = { s3 with heap := (s3.heap.push { cls := .type "dict", data := .dict #[] }).push { cls := .type "cell", data := .cell none }, toks := s3.toks } := by rw [← hs3]
  rw [e2]
  generalize (s3.heap.push { cls := .type "dict", data := .dict #[] }).push { cls := .type "cell", data := .cell none } = h₁ at hns₁ hcell₁ old ⊢
  have below2 : ∀ b, b ∈ fp → b < s3.heap.objs.size := fun b hb => by
    obtain ⟨o, e, _⟩ := T.obj _ _ st2 b hb
    have : s2.heap.objs.size ≤ s3.heap.objs.size := by rw [eh, Heap.size_push]; exact Nat.le_succ _
    exact Nat.lt_of_lt_of_le (Heap.lt_size e) this
  have old2 : ∀ b o, s2.heap.get? b = some o → s3.heap.get? b = some o := fun b o e => by rw [eh]; exact Heap.get?_push_of_some _ e
  have hsz3 : s2.heap.objs.size < s3.heap.objs.size := by rw [eh, Heap.size_push]; exact Nat.lt_succ_self _
  have fpFree : ∀ b ∈ fp, H3 b = none := fun b hb => by
    rw [← hH3, upd_ne (fun z => ?_)]
    · exact (f2 b hb).1
    · obtain ⟨o, e, _⟩ := T.obj _ _ st2 b hb
      have := Heap.lt_size e
      rw [z] at this
      exact Nat.lt_irrefl _ this
  have rl : ∀ y, (relabel sc X.env).names.lookup y = (sc.names.lookup y).map fun k => if (k == NameKind.free && X.env.scope.kind == .function && X.env.kindOf y == some .cell) then NameKind.cell else k := fun y => lookup_relabel X.env sc.names y
  have freeOf : ∀ y, sc.names.lookup y = some .free → ∃ c, cl.lookup y = some c := fun y e => clH (y, .free) (PySem.mem_of_lookup e) rfl
  have onlyX : ∀ y, sc.names.lookup y = some .cell → y = x := fun y e => by
    have m : (y, NameKind.cell) ∈ sc.names.filter fun y => y.2 == .cell := List.mem_filter.mpr ⟨PySem.mem_of_lookup e, rfl⟩
    rw [cn.one] at m
    exact (Prod.mk.inj (List.mem_singleton.mp m)).1
  have clD : ∀ y c, ((x, s3.heap.objs.size + 1) :: cl).lookup y = some c → (y = x ∧ c = s3.heap.objs.size + 1) ∨ (y ≠ x ∧ cl.lookup y = some c) := fun y c e => by
    rw [List.lookup_cons] at e
    cases hb : y == x with
    | true => rw [hb] at e; exact .inl ⟨by simpa using hb, (Option.some.inj e).symm⟩
    | false => rw [hb] at e; exact .inr ⟨by simpa using hb, e⟩
  have clN : ∀ y c, y ≠ x → cl.lookup y = some c → ((x, s3.heap.objs.size + 1) :: cl).lookup y = some c := fun y c n e => by
    rw [List.lookup_cons, show (y == x) = false by simpa using n]
    exact e
  have clX : ((x, s3.heap.objs.size + 1) :: cl).lookup x = some (s3.heap.objs.size + 1) := by rw [List.lookup_cons, show (x == x) = true by simp]
  have isFree : ∀ y, ((relabel sc X.env).names.lookup y = some .cell ∨ (relabel sc X.env).names.lookup y = some .free) → (sc.names.lookup y = some .free ∨ y = x) := fun y h => by
    rw [rl y] at h
    cases e : sc.names.lookup y with
    | none => rw [e] at h; rcases h with z | z <;> exact absurd z (by simp)
    | some k =>
      rw [e] at h
      cases k with
      | free => exact .inl rfl
      | cell => exact .inr (onlyX y e)
      | «local» => rcases h with z | z <;> exact absurd z (by simp)
      | _ => rcases h with z | z <;> exact absurd z (by simp)
  have ownC : (relabel sc X.env).names.lookup x = some .cell := by rw [rl x, cn.own]; rfl
  have exOk : ∀ b ∈ fp, b ≠ s3.heap.objs.size ∧ (∀ y c, X.env.cells.lookup y = some c → c ≠ b) ∧ b ∉ frs X.stack := fun b hb => by
    obtain ⟨g0, g1, g2, g3, g4, g5⟩ := f2 b hb
    refine ⟨Nat.ne_of_lt (below2 b hb), g4, fun z => ?_⟩
    rcases List.mem_cons.mp (I2.stkSub b z) with z | z
    · exact g1 z
    · exact g2 z
  have hCnew : X.s₀.heap.objs.size ≤ s3.heap.objs.size := I3.sz
  have hCcell : ∀ y c, X.env.cells.lookup y = some c → c ≠ s3.heap.objs.size := fun y c e z => by
    obtain ⟨v, q⟩ := I3.cell y c e
    have := q.lt
    rw [z] at this
    exact Nat.lt_irrefl _ this
  have hCpin : ∀ p ∈ X.pn ++ pins, p.1 ≠ s3.heap.objs.size := fun p hp z => by
    have := Heap.lt_size (I3.pin p hp).1
    rw [z] at this
    exact Nat.lt_irrefl _ this
  have ltC : ∀ y c, X.env.cells.lookup y = some c → c < s3.heap.objs.size := fun y c e => by
    obtain ⟨v, q⟩ := I3.cell y c e
    exact q.lt
  have injC : ∀ y z c, ((x, s3.heap.objs.size + 1) :: cl).lookup y = some c → ((x, s3.heap.objs.size + 1) :: cl).lookup z = some c → y = z := fun y z c h1 h2 => by
    rcases clD y c h1 with ⟨e1, e2⟩ | ⟨_, e2⟩ <;> rcases clD z c h2 with ⟨f1, f2'⟩ | ⟨_, f2'⟩
    · rw [e1, f1]
    · exact absurd (ltC z c (clS z c f2')) (by rw [e2]; exact Nat.not_lt.mpr (Nat.le_succ _))
    · exact absurd (ltC y c (clS y c e2)) (by rw [f2']; exact Nat.not_lt.mpr (Nat.le_succ _))
    · exact I3.ok.inj y z c (clS y c e2) (clS z c f2')
  have hasC : ∀ y, ((relabel sc X.env).names.lookup y = some .cell ∨ (relabel sc X.env).names.lookup y = some .free) → ∃ c, ((x, s3.heap.objs.size + 1) :: cl).lookup y = some c := fun y hy => by
    by_cases e : y = x
    · exact ⟨_, by rw [e]; exact clX⟩
    · rcases isFree y hy with f | f
      · obtain ⟨c, hc⟩ := freeOf y f
        exact ⟨c, clN y c e hc⟩
      · exact absurd f e
  have exC : ∀ b ∈ fp, ∀ y c, ((x, s3.heap.objs.size + 1) :: cl).lookup y = some c → c ≠ b := fun b hb y c h => by
    rcases clD y c h with ⟨_, e2⟩ | ⟨_, e2⟩
    · exact fun z => absurd (below2 b hb) (by rw [← z, e2]; exact Nat.not_lt.mpr (Nat.le_succ _))
    · exact (exOk b hb).2.1 y c (clS y c e2)
  have okc : (X.inCompC Nc sc x cl s3 H3 fp).Ok := by
    refine ⟨I3.ok.mod, cn.kind, I3.ok.glob, I3.ok.blt, Nat.le_refl _, injC, hasC, fun y c hf e => ?_, I3.ok.hd, I3.ok.frames, .inl rfl,
      fun b hb => ⟨(exOk b hb).1, exC b hb⟩, fun b o e => I3.bs b o e, Nat.le_trans I3.ok.bsz I3.sz, fun b o e hb => ?_, fun b hb => (exOk b hb).2.2, I3.stack, I3.stkFree⟩
    · have ey : y = x := of_decide_eq_true hf
      rcases clD y c e with ⟨_, e2⟩ | ⟨n, _⟩
      · show s3.heap.objs.size ≤ c
        omega
      · exact absurd ey n
    obtain ⟨g0, g1, g2, g3, g4, g5⟩ := f2 b hb
    rcases g3 with z | z
    · exact I3.ok.noex b o e z
    · exact absurd (Heap.lt_size (I3.ok.bs b o e).1) (Nat.not_lt.mpr z)
  have hlen : σ.length = N.length := by rw [I3.len, hXN]
  have Ic : Inv (X.inCompC Nc sc x cl s3 H3 fp) [] (σ ++ [none]) H3 { s3 with heap := h₁, toks := s3.toks } := by
    refine ⟨okc, rfl, I3.bare, Un.kept old, ⟨_, hns₁, fun i y v h1 h2 h3 => ?_⟩, fun y c e => ?_, I3.hok.fresh (Nat.le_refl _), fun y c e => ?_, fun p hp => absurd (show p ∈ ([] : List (Addr × Obj)) from hp) (by simp), I3.hok.kept old, ?_⟩
    · have hi : i < σ.length := by
        by_cases hi : i < σ.length
        · exact hi
        · rw [List.getElem?_append_right (Nat.not_lt.mp hi)] at h2
          cases e : i - σ.length with
          | zero => rw [e] at h2; cases h2
          | succ k => rw [e] at h2; simp at h2
      rw [List.getElem?_append_left hi] at h2
      have hi' : i < N.length := by rw [← hlen]; exact hi
      obtain ⟨n1, n2, n3⟩ := cn.at hi' h1
      have hf : sc.names.lookup y = some .free := by
        rcases h3 with z | z
        · exfalso
          have z' : (relabel sc X.env).names.lookup y = some .local := z
          rw [rl y] at z'
          cases e : sc.names.lookup y with
          | none => rw [e] at z'; simp at z'
          | some k =>
            rw [e] at z'
            cases k with
            | «local» => exact n1 e
            | cell => exact n2 e
            | free =>
              simp only [Option.map_some, Option.some.injEq] at z'
              split at z' <;> cases z'
            | _ => simp at z'
        · rcases isFree y z with f | f
          · exact f
          · exact absurd (by rw [f]; exact cn.own) n2
      have hN : X.N[i]? = some y := by rw [hXN]; exact n3 hf
      obtain ⟨m, hn, hl⟩ := I3.loc
      have hv : fsc.names.lookup y = some .cell ∨ fsc.names.lookup y = some .free := cn.fr (y, .free) (PySem.mem_of_lookup hf) rfl
      have hv' : X.env.scope.names.lookup y = some .cell ∨ X.env.scope.names.lookup y = some .free := by rw [hE]; exact hv
      obtain ⟨u, ru, lk⟩ := hl i y v hN h2 (.inr hv')
      refine ⟨u, ru, .inr ⟨?_, ?_⟩⟩
      · show (relabel sc X.env).names.lookup y = some .cell ∨ (relabel sc X.env).names.lookup y = some .free
        rw [rl y, hf]
        simp only [Option.map_some, Option.some.injEq]
        split
        · exact .inl rfl
        · exact .inr rfl
      · rcases lk with ⟨kl, _⟩ | ⟨_, c, hc, hcell⟩
        · exfalso
          have kl' : X.env.scope.names.lookup y = some .local := kl
          rw [kl'] at hv'
          rcases hv' with z | z <;> cases z
        · obtain ⟨d, hd⟩ := freeOf y hf
          have ed := clS y d hd
          rw [hc] at ed
          cases ed
          exact ⟨c, clN y c (fun z => n2 (by rw [z]; exact cn.own)) hd, hcell.keeps old⟩
    · rcases clD y c e with ⟨_, e2⟩ | ⟨_, e2⟩
      · exact ⟨none, by rw [e2]; exact hcell₁⟩
      · obtain ⟨v, q⟩ := I3.cell y c (clS y c e2)
        exact ⟨v, q.keeps old⟩
    · rcases clD y c e with ⟨_, e2⟩ | ⟨_, e2⟩
      · exact I3.hok.fresh (by omega)
      · exact I3.freeC y c (clS y c e2)
    · show (σ ++ [none]).length = Nc.length
      rw [List.length_append, hlen, cn.len]
      rfl
  have stc : tn 0 ({ s3 with heap := h₁, toks := s3.toks } : Shared).heap := T.keep _ _ _ st2 fun b _ o e => old b o (old2 b o e)
  have hDf : s2.heap.objs.size ∉ fp := fun hm => by
    obtain ⟨o, e, _⟩ := T.obj _ _ st2 _ hm
    exact Nat.lt_irrefl _ (Heap.lt_size e)
  have fpc : ∀ {pins' : List (Addr × Obj)} {H' : Hp}, pins' = [] → (∀ b ∈ fp, H' b = none) → ∀ b ∈ fp, FpOk (X.inCompC Nc sc x cl s3 H3 fp) pins' H' b := fun {pins' H'} hp hn b hb => by
    subst hp
    exact ⟨hn b hb, (exOk b hb).1, (exOk b hb).2.2, .inl hb, exC b hb, fun p hp => absurd (show p ∈ ([] : List (Addr × Obj)) from hp) (by simp)⟩
  have hg : PG (X.inCompC Nc sc x cl s3 H3 fp) (.Name x px) (gName σ.length) := pg_name (X := X.inCompC Nc sc x cl s3 H3 fp) cn.nd (by show Nc[σ.length]? = some x; rw [hlen]; exact cn.last) (.inr ownC) (.inl (decide_eq_true rfl))
  have loop : ∀ s₄ : Shared, s₄ = { s3 with heap := h₁, toks := s3.toks } →
      codeAny (model X.prog X.w) X.A (.compLoop (.ListComp elt [⟨.Name x px, iter, ifs, 0⟩] sc pos) 0 (.ref it) (.ref s2.heap.objs.size) (compEnvC sc ((x, s3.heap.objs.size + 1) :: cl) s3.heap.objs.size X.env))
        (fun r s' => r = .ok .next ∧ ∃ D H', (Value.ref s2.heap.objs.size) = .ref D ∧ Inv X pins σ H' s' ∧ Q (.ref D) H' ∧ CLoc X pins H' s3.heap.objs.size ∧ ∃ m, s'.heap.Ns s3.heap.objs.size m) s₄ := by
    rintro s₄ rfl
    refine codeAny_compLoop_tests (fun n s' => ∃ (i : Nat) (o : Option V) (H' : Hp) (ys : List V), Inv (X.inCompC Nc sc x cl s3 H3 fp) [] (σ ++ [o]) H' s' ∧ tn i s'.heap ∧ (∀ b ∈ fp, H' b = none) ∧ W i n ys H') ?_ m0 ⟨0, none, H3, [], Ic, stc, fpFree, w0⟩
    rintro n s' ⟨i, o, H', ys, I', st', fr', w'⟩
    obtain ⟨hDl, tw⟩ := turn i n ys H' w'
    rcases tw with ⟨stop, q⟩ | ⟨go, hz, step⟩
    ·
      refine thn (T.done (X.inCompC Nc sc x cl s3 H3 fp) rfl rfl rfl hc i [] s' _ H' _ I' (fpc rfl fr') st' stop) fun r s5 ⟨hr, I5⟩ => ?_
      subst hr
      have Ix : Inv X pins σ H' s5 := I3.call' (ch := fp) I5.os I5.base I5.hok I5.bare fun b hb => by
        obtain ⟨g0, g1, g2, g3, g4, g5⟩ := f2 b hb
        exact ⟨g3, g1, g4, g5⟩
      have hCf : H' s3.heap.objs.size = none := I5.free
      obtain ⟨m, hn, _⟩ := I5.loc
      exact ⟨rfl, s2.heap.objs.size, H', rfl, Ix, q, ⟨hCf, fun z => Nat.lt_irrefl _ (by have := I3.lt; rw [← z] at this; exact this), hCnew, hCcell, hCpin⟩, m, hn⟩
    ·
      refine thn (T.item (X.inCompC Nc sc x cl s3 H3 fp) rfl rfl rfl hc i [] s' _ H' _ I' (fpc rfl fr') st' go) fun r s5 ⟨u, hr, h4⟩ => ?_
      subst hr
      dsimp only
      have e0 : letOwnedTupleGo (.Name x px) (.ref it) u = pure () := rfl
      have e1 : (letOwnedTupleGo (.Name x px) (.ref it) u >>= fun _ => assign (.Name x px) (compEnvC sc ((x, s3.heap.objs.size + 1) :: cl) s3.heap.objs.size X.env) u) = assign (.Name x px) (compEnvC sc ((x, s3.heap.objs.size + 1) :: cl) s3.heap.objs.size X.env) u := by rw [e0, pure_bind]
      rw [← e1]
      refine wpAny_bind (thn h4 fun _ s6 ⟨xv, H5, I5, r5, y5, st5, fr5⟩ => ?_)
      have I5' := I5.pinned (fpc rfl fr5) (T.obj _ _ st5)
      have again : ∀ {H7 : Hp} {s7 : Shared} {m' : Nat} {ys' : List V}, Inv (X.inCompC Nc sc x cl s3 H3 fp) ([] ++ pinsAt fp s6.heap) (σ ++ [some xv]) H7 s7 → m' < n → W (i + 1) m' ys' H7 →
          ∃ m, m < n ∧ ∃ (i : Nat) (o : Option V) (H' : Hp) (ys : List V), Inv (X.inCompC Nc sc x cl s3 H3 fp) [] (σ ++ [o]) H' s7 ∧ tn i s7.heap ∧ (∀ b ∈ fp, H' b = none) ∧ W i m ys H' := fun {H7 s7 m' ys'} I7 hm w7 => by
        refine ⟨m', hm, i + 1, some xv, H7, ys', I7.unpinned, T.keep _ _ _ st5 fun b hb o e => (I7.pin (b, o) (List.mem_append_right _ (List.mem_append_right _ (mem_pinsAt hb e)))).1, fun b hb => ?_, w7⟩
        obtain ⟨o', e, d⟩ := T.obj _ _ st5 b hb
        exact (I7.pin (b, o') (List.mem_append_right _ (List.mem_append_right _ (mem_pinsAt hb e)))).2.1
      refine thnF (hg _ s6 _ H5 xv u (fun σ' H'' => σ' = σ ++ [some xv] ∧ H'' = H5) I5' r5 ⟨set_last, rfl⟩) fun _ s7 ⟨σ7, H7, I7, e7, e7'⟩ => ?_
      subst e7
      subst e7'
      refine thnF (ht cl s3 H3 fp _ s7 _ _ _ I7 (step xv _ y5)) fun b s8 ⟨H8, I8, q8⟩ => ?_
      cases b with
      | false =>
        rw [if_neg Bool.false_ne_true] at q8 ⊢
        obtain ⟨m', hm, w8⟩ := q8
        exact again I8 hm w8
      | true =>
        rw [if_pos rfl] at q8 ⊢
        refine thnF (he cl s3 H3 fp _ s8 _ H8 _ I8 q8) fun y s9 ⟨yv, H9, I9, r9, hD9, m', hm, w9⟩ => ?_
        refine thnF (mt_append _ s9 _ H9 (.ref s2.heap.objs.size) [yv] (.ref s2.heap.objs.size) [y] (fun v H => v = .non ∧ H = upd H9 s2.heap.objs.size (.lst (ys ++ [yv]))) I9 rfl (.cons r9 .nil) ⟨_, ys, yv, rfl, rfl, hD9, hz, rfl, rfl⟩) fun _ s10 ⟨v10, H10, I10, r10, e10, e11⟩ => ?_
        subst e11
        exact again I10 hm w9
  exact codeAny_compStart_list (loop _ rfl) (T.self _ 0 _ _ _ stc (loop _ rfl))
theorem comp_hasC (I : ∀ y, (X.env.kindOf y = some .cell ∨ X.env.kindOf y = some .free) → ∃ c, X.env.cells.lookup y = some c) (hE : X.env.scope = fsc) (cn : CompNC N Nc x sc fsc) : ∀ y ∈ sc.names, y.2 = .free → ∃ c, X.env.cells.lookup y.1 = some c := fun y hy hf => by
  refine I y.1 ?_
  show X.env.scope.names.lookup y.1 = some .cell ∨ X.env.scope.names.lookup y.1 = some .free
  rw [hE]
  exact cn.fr y hy hf
theorem pe_compC (hE : X.env.scope = fsc) (hXN : X.N = N) (cn : CompNC N Nc x sc fsc) (hc : X.calm = true) (hi : PI X (.Name x px) iter wi)
    (ht : ∀ cl s H ex, PIfs (X.inCompC Nc sc x cl s H ex) ifs tt) (he : ∀ cl s H ex, PE (X.inCompC Nc sc x cl s H ex) elt te)
    (hs : ∀ v, foldedSetIterable iter X.env v = pure v := by intro _; rfl) : PE X (.ListComp elt [⟨.Name x px, iter, ifs, 0⟩] sc pos) (tComp wi tt te) := by
  intro pins s σ H Q I h
  obtain ⟨cl, hcl, clS, clH⟩ := closure_ok (env := X.env) (sc := sc) (comp_hasC I.ok.has hE cn)
  rw [eval_ListComp]
  refine wpAny_comprehension_free (use := none) rfl hs hcl cn.kind cn.nm (thn (hi pins s σ H _ I h) fun v s1 h1 => thn h1 fun itv s2 h2 => ?_)
  obtain ⟨it, fp, tn, J, H2, rfl, I2, T, st2, f2, h2⟩ := h2
  refine thn (comp_coreC (pos := pos) (iter := iter) hE hXN cn hc ht he clS clH I2 T st2 f2 h2) fun acc s3 h3 => thn h3 fun cenv s4 h4 => codeAny_mono h4 fun r s' h5 => ?_
  obtain ⟨rfl, D, H', rfl, I', q, cloc, m, hn⟩ := h5
  exact ⟨m, hn, fun h' k => ⟨.ref D, H', I'.sameBut cloc k, rfl, q⟩⟩
end
def relab (sc fsc : Scope) : Scope := { sc with names := sc.names.map fun (n, k) => if (k == .free && fsc.kind == .function && fsc.names.lookup n == some .cell) then (n, .cell) else (n, k) }
theorem relab_eq {X : Cx} {sc fsc : Scope} (h : X.env.scope = fsc) : relabel sc X.env = relab sc fsc := by
  subst h
  rfl
section
variable {X : Cx} {elt iter : Expr} {x y : Str} {py pos : Pos} {ifs : List Expr} {sc sc2 fsc : Scope} {Nc Nd : List Str} {wi : TI} {tt : TT} {te : TE} {cl : List (Str × Addr)} {s : Shared} {H : Hp} {ex : List Addr}
theorem pe_compIn (hE : X.env.scope = fsc) (cn : CompN Nc Nd y sc2 (relab sc fsc)) (hc : X.calm = true) (hi : PI (X.inCompC Nc sc x cl s H ex) (.Name y py) iter wi)
    (ht : ∀ cl' s' H' ex', PIfs ((X.inCompC Nc sc x cl s H ex).inComp Nd sc2 cl' s' H' ex') ifs tt) (he : ∀ cl' s' H' ex', PE ((X.inCompC Nc sc x cl s H ex).inComp Nd sc2 cl' s' H' ex') elt te)
    (hs : ∀ v, foldedSetIterable iter (X.inCompC Nc sc x cl s H ex).env v = pure v := by intro _; rfl) : PE (X.inCompC Nc sc x cl s H ex) (.ListComp elt [⟨.Name y py, iter, ifs, 0⟩] sc2 pos) (tComp wi tt te) :=
  pe_comp (X := X.inCompC Nc sc x cl s H ex) (fsc := relab sc fsc) (N := Nc) (relab_eq hE) rfl cn hc hi ht he hs
theorem pe_compIn0 (hE : X.env.scope = fsc) (cn : CompN Nc Nd y sc2 (relab sc fsc)) (hc : X.calm = true) (hi : PI (X.inComp Nc sc cl s H ex) (.Name y py) iter wi)
    (ht : ∀ cl' s' H' ex', PIfs ((X.inComp Nc sc cl s H ex).inComp Nd sc2 cl' s' H' ex') ifs tt) (he : ∀ cl' s' H' ex', PE ((X.inComp Nc sc cl s H ex).inComp Nd sc2 cl' s' H' ex') elt te)
    (hs : ∀ v, foldedSetIterable iter (X.inComp Nc sc cl s H ex).env v = pure v := by intro _; rfl) : PE (X.inComp Nc sc cl s H ex) (.ListComp elt [⟨.Name y py, iter, ifs, 0⟩] sc2 pos) (tComp wi tt te) :=
  pe_comp (X := X.inComp Nc sc cl s H ex) (fsc := relab sc fsc) (N := Nc) (relab_eq hE) rfl cn hc hi ht he hs
end
theorem pi_listK {X : Cx} {tg e : Expr} {te : TE} (K : PySem.W.Frag) (he : PE X e te) (h : X.K = K := by rfl) : PI X tg e (iList K te) := by
  subst h
  exact pi_list he
end L2
namespace L2
open PySem PySem.W PySem.Spec PyProof.Rows
def CodeO (c : Addr) (q : Str) : HO := .ext fun h => h.CodeRec (.ref c) q
structure LamB (base : Heap) (mg : Str → Option Value) (c P : Addr) : Prop where
  hd : CodeHd base c P
  bm : ∃ bm ob, mg "__builtins__" = some (.ref bm) ∧ bm ≠ builtinsNs ∧ base.get? bm = some ob ∧ ob.cls = .type "module" ∧ ob.dict = some builtinsNs ∧ ob.data = .plain
  out : base.get? P = none
def Lam1 (P : Addr) (pos : Pos) (q : Str) (H : Hp) : Prop := ∃ c, H P = some (.tbl #[rawInt pos.line, rawInt pos.col, .ref c]) ∧ H c = some (CodeO c q)
def LamT (P : Addr) (pos : Pos) (q : Str) (H : Hp) : Prop := H P = some (.tbl #[]) ∨ Lam1 P pos q H
def SmL (P : Addr) (H H' : Hp) : Prop := ∀ b u, b ≠ P → H b = some u → H' b = some u
theorem Lam1.same {P : Addr} {pos : Pos} {q : Str} {H H' : Hp} (x : Lam1 P pos q H) (e : Same H H') : Lam1 P pos q H' := let ⟨c, h1, h2⟩ := x; ⟨c, e _ _ h1, e _ _ h2⟩
theorem Lam1.put {P l : Addr} {pos : Pos} {q : Str} {H : Hp} {xs : List V} {o : HO} (t : Lam1 P pos q H) (e : H l = some (.lst xs)) : Lam1 P pos q (upd H l o) := by
  obtain ⟨c, h1, h2⟩ := t
  exact ⟨c, by rw [upd_ne (fun z => by rw [z, e] at h1; cases h1)]; exact h1, by rw [upd_ne (fun z => by rw [z, e] at h2; cases h2)]; exact h2⟩
theorem LamT.put {P l : Addr} {pos : Pos} {q : Str} {H : Hp} {xs : List V} {o : HO} (t : LamT P pos q H) (e : H l = some (.lst xs)) : LamT P pos q (upd H l o) := by
  rcases t with t | t
  · exact .inl (by rw [upd_ne (fun z => by rw [z, e] at t; cases t)]; exact t)
  · exact .inr (t.put e)
theorem LamT.same {P : Addr} {pos : Pos} {q : Str} {H H' : Hp} (t : LamT P pos q H) (s : Same H H') : LamT P pos q H' := t.elim (fun t => .inl (s _ _ t)) fun t => .inr (t.same s)
theorem among_nil (pos : Pos) : codeAmong pos (#[] : Array Value).toList = none := rfl
theorem among_one (pos : Pos) (c : Addr) : codeAmong pos (#[rawInt pos.line, rawInt pos.col, .ref c] : Array Value).toList = some (.ref c) := by
  simp [codeAmong, rawInt]
theorem codeO_ok {P : Program} {w : World} {H : Hp} {h : Heap} {c : Addr} {q : Str} (x : h.CodeRec (.ref c) q) : ObjOk P w H h c (CodeO c q) := by
  refine ⟨x, ?_, fun h1 h2 y k => ?_⟩
  · obtain ⟨c', o, vs, t, e, g, _⟩ := x
    cases e
    exact ⟨o, g⟩
  · obtain ⟨c', o, vs, t, e, g, r⟩ := y
    cases e
    exact ⟨c, o, vs, t, rfl, k o g, r⟩
theorem codeO_rec {P : Program} {w : World} {H : Hp} {h : Heap} {c : Addr} {q : Str} (x : ObjOk P w H h c (CodeO c q)) : h.CodeRec (.ref c) q := x.1
section
variable {X : Cx} {pins : List (Addr × Obj)} {σ : St} {H : Hp} {s : Shared} {c P : Addr} {pos : Pos} {params : Arguments} {body : Expr} {sc : Scope} {cl : List (Str × Addr)} {q : Str} {M : Model} {A : Around} {E : Value → Shared → Prop} {Q : Value → Shared → Prop}
theorem LamB.at (LB : LamB X.base X.mg c P) (I : Inv X pins σ H s) (hp : ∃ ps, H P = some (.tbl ps)) : s.heap.Ns mainGlobals X.mg ∧ CodeHd s.heap c P ∧ mainGlobals ≠ P ∧ s.heap.BuiltinsAt X.mg P := by
  have G : s.heap.Ns mainGlobals X.mg := I.mod.glob.keeps I.bk
  have gP : mainGlobals ≠ P := fun z => by
    obtain ⟨o, _, _, e, _⟩ := I.mod.glob
    rw [z, LB.out] at e; cases e
  obtain ⟨bm, ob, b1, b2, b3, b4, b5, b6⟩ := LB.bm
  refine ⟨G, LB.hd.keeps I.bk, gP, bm, ob, b1, b2, fun z => ?_, fun z => ?_, I.bk _ _ b3, b4, b5, b6⟩
  · obtain ⟨o, es, ep, e, hd, _⟩ := I.mod.glob
    rw [← z, b3] at e; cases e; rw [b6] at hd; cases hd
  · rw [z, LB.out] at b3; cases b3
theorem Inv.pin1 {f : Addr} {o : Obj} (I : Inv X pins σ H s) (c : CLoc X pins H f) (e : s.heap.get? f = some o) (hf : f ∉ X.fs) (d : ∀ v, o.data ≠ .cell v) : Inv X ((f, o) :: pins) σ H s :=
  I.pins_of fun p hp => by
    rcases List.mem_cons.mp hp with rfl | hp
    · exact ⟨e, c.free, c.ne, hf, d⟩
    · exact I.pin p (List.mem_append_right _ hp)
theorem Inv.cloc {f : Addr} (I : Inv X pins σ H s) (h : s.heap.objs.size ≤ f) : CLoc X pins H f := by
  obtain ⟨g0, g1, g2, g3, g4, g5⟩ := I.fpOk h (I.hok.fresh h)
  exact ⟨g0, g1, Nat.le_trans I.sz h, g4, g5⟩
theorem lam_make (LB : LamB X.base X.mg c P) (hcode : X.env.code = .ref c) (hcl : closureFor sc X.env = pure cl) (I : Inv X pins σ H s) (t : LamT P pos q H)
    (h : ∀ (f c' : Addr) (pm ctv : Value) (H' : Hp) (s' : Shared), Inv X ((f, kla_obj "<lambda>" q params body sc cl pm c' ctv) :: pins) σ H' s' → H' c' = some (CodeO c' q) → CLoc X pins H' f → Lam1 P pos q H' → SmL P H H' → (Lam1 P pos q H → H = H') → (∀ b, H' b = none → H b = none) → Q (.ref f) s') :
    wpAny M A (makeFunction "<lambda>" q params (.expr body) sc X.env [] [] [] pos pos.line) Q E s := by
  rcases t with t | ⟨c', t1, t2⟩
  · obtain ⟨G, C, gP, B⟩ := LB.at I ⟨_, t⟩
    have hP : s.heap.get? P = some (tabObj #[]) := I.hok P _ t
    refine kla_makeFunction (mg := X.mg) hcl I.ok.glob G hcode C hP trivial (among_nil pos) gP B fun c' ctv h' tk hx hge hlt hrec htb => ?_
    have hc' : H c' = none := I.hok.fresh hge
    have cP : c' ≠ P := fun z => by rw [z, t] at hc'; cases hc'
    have nP : ∀ {b : Addr}, H b = none → b ≠ P := fun e z => by rw [z, t] at e; cases e
    have htb' : h'.get? P = some (tabObj (#[] ++ #[rawInt pos.line, rawInt pos.col, .ref c'])) := htb
    have ht0 : ((#[] : Array Value) ++ #[rawInt pos.line, rawInt pos.col, .ref c']) = #[rawInt pos.line, rawInt pos.col, .ref c'] := rfl
    generalize eH : upd (upd H P (.tbl #[rawInt pos.line, rawInt pos.col, .ref c'])) c' (CodeO c' q) = H'
    have hb : ∀ {b : Addr}, b ≠ P → b ≠ c' → H' b = H b := fun n1 n2 => by rw [← eH, upd_ne n2, upd_ne n1]
    have hPH : H' P = some (.tbl #[rawInt pos.line, rawInt pos.col, .ref c']) := by rw [← eH, upd_ne (Ne.symm cP), upd_same]
    have hcH : H' c' = some (CodeO c' q) := by rw [← eH, upd_same]
    have ne' : ∀ {b : Addr} {o : Obj}, s.heap.get? b = some o → b ≠ c' := fun e => Nat.ne_of_lt (Nat.lt_of_lt_of_le (Heap.lt_size e) hge)
    have neH : ∀ {b : Addr} {u : HO}, H b = some u → b ≠ c' := fun e z => by rw [z, hc'] at e; cases e
    have U : Un X.fs [] H H' s.heap h' := ⟨fun b o e n _ _ => hx b o (nP n) e, fun b o e n _ _ => ⟨o.slots, hx b o (nP n) e⟩, fun b o e n _ => by rw [hb (nP n) (ne' e)]; exact n, fun b o e _ => by
        by_cases z : b = P
        · rw [z]; exact ⟨_, htb⟩
        · exact ⟨o, hx b o z e⟩, fun b xs e => by
        rw [hb (fun z => by rw [z, t] at e; cases e) (neH e)]; exact e, fun b o u e => by
        rw [hb (fun z => by rw [z, t] at e; cases e) (neH e)]; exact e, fun b ps e => by
        by_cases z : b = P
        · rw [z, t] at e
          cases e
          exact ⟨#[rawInt pos.line, rawInt pos.col, .ref c'], by rw [z, hPH]; rfl⟩
        · exact ⟨#[], by rw [hb z (neH e), e]; simp⟩⟩
    have hok : HOk X.prog X.w H' h' := fun a o e => by
      by_cases z : a = P
      · subst z
        rw [hPH] at e
        cases e
        exact htb
      · by_cases z2 : a = c'
        · subst z2
          rw [hcH] at e
          cases e
          exact codeO_ok hrec
        · rw [hb z z2] at e
          refine (I.hok a o e).stay (fun b u hbu g => ?_) (fun b g => ?_) fun b xs g => ?_
          · refine hx b u (fun y => ?_) g
            rcases hbu with rfl | hbu
            · exact z y
            · rw [y, t] at hbu; cases hbu
          · rw [hb (fun y => by rw [y, t] at g; cases g) (neH g)]; exact g
          · rw [hb (fun y => by rw [y, t] at g; cases g) (neH g)]; exact g
    have I1 : Inv X pins σ H' { s with heap := h', toks := tk } := I.un U hok
    have I2 := I1.kept (t' := tk) (h' := h'.push (kla_obj "<lambda>" q params body sc cl ((X.mg "__name__").getD .none) c' ctv)) fun b u e => Heap.get?_push_of_some _ e
    have cf : CLoc X pins H' h'.objs.size := I1.cloc (Nat.le_refl _)
    refine h _ c' _ ctv H' _ (I2.pin1 cf (Heap.get?_push_size _ rfl) (I1.nofs (Nat.le_refl _)) (fun v z => by cases z)) hcH cf ⟨c', hPH, hcH⟩ (fun b u n e => by rw [hb n (neH e)]; exact e) (fun ⟨_, y, _⟩ => by rw [t] at y; cases y) fun b e => ?_
    rw [hb (fun z => by rw [z, hPH] at e; cases e) (fun z => by rw [z, hcH] at e; cases e)] at e
    exact e
  · obtain ⟨G, C, gP, B⟩ := LB.at I ⟨_, t1⟩
    have hP : s.heap.get? P = some (tabObj #[rawInt pos.line, rawInt pos.col, .ref c']) := I.hok P _ t1
    refine kla_makeFunctionHit (mg := X.mg) hcl I.ok.glob G hcode C hP trivial (among_one pos c') B fun ctv h' tk hk hsz => ?_
    have I1 : Inv X pins σ H { s with heap := h', toks := tk } := I.kept hk
    have I2 := I1.kept (t' := tk) (h' := h'.push (kla_obj "<lambda>" q params body sc cl ((X.mg "__name__").getD .none) c' ctv)) fun b u e => Heap.get?_push_of_some _ e
    have cf : CLoc X pins H h'.objs.size := I1.cloc (Nat.le_refl _)
    exact h _ c' _ ctv H _ (I2.pin1 cf (Heap.get?_push_size _ rfl) (I1.nofs (Nat.le_refl _)) (fun v z => by cases z)) t2 cf ⟨c', t1, t2⟩ (fun _ _ _ e => e) (fun _ => rfl) fun _ e => e
end
def Cx.inLam (X : Cx) (A : Around) (Nc : List Str) (q : Str) (sc : Scope) (cl : List (Str × Addr)) (f c' : Addr) (s : Shared) (H : Hp) : Cx :=
  { X with A := A.deeper (envX q sc s.heap.objs.size f (.ref c') cl), N := Nc, s₀ := s, H₀ := H, env := envX q sc s.heap.objs.size f (.ref c') cl, outer := X.stack, stack := envX q sc s.heap.objs.size f (.ref c') cl :: X.stack, ex := [], fn := fun _ => false, calm := true, pn := [], xe := fun _ _ => False }
section
variable {X : Cx} {pins : List (Addr × Obj)} {σ : St} {H : Hp} {s : Shared} {params : Arguments} {body : Expr} {sc fsc : Scope} {cl : List (Str × Addr)} {q x : Str} {A : Around} {N Nc : List Str} {f c' : Addr} {te : TE} {E : Value → Shared → Prop}
theorem inv_lam (hE : X.env.scope = fsc) (hXN : X.N = N) (cn : CompN N Nc x sc fsc)
    (clS : ∀ y c, cl.lookup y = some c → X.env.cells.lookup y = some c) (clH : ∀ y ∈ sc.names, y.2 = .free → ∃ c, cl.lookup y.1 = some c) (hA : A.frames = X.A.frames) (hh : A.handled = none)
    (I : Inv X pins σ H s) {v : V} {u : Value} (rv : RelV v u) {h₁ : Heap} {tk : Nat} (hns : h₁.Ns s.heap.objs.size fun y => [(x, u)].reverse.lookup y) (old : ∀ b o, s.heap.get? b = some o → h₁.get? b = some o) :
    Inv (X.inLam A Nc q sc cl f c' s H) [] (σ ++ [some v]) H { s with heap := h₁, toks := tk } := by
  have hlen : σ.length = N.length := by rw [I.len, hXN]
  have noE : ∀ b : Addr, b ∉ (X.inLam A Nc q sc cl f c' s H).ex := fun b z => absurd (show b ∈ ([] : List Addr) from z) (by simp)
  have freeOf : ∀ y, sc.names.lookup y = some .free → ∃ c, cl.lookup y = some c := fun y e => clH (y, .free) (PySem.mem_of_lookup e) rfl
  have noCell : ∀ y, sc.names.lookup y ≠ some .cell := fun y e => cn.cell (y, .cell) (PySem.mem_of_lookup e) rfl
  refine ⟨⟨I.ok.mod, cn.kind, rfl, rfl, Nat.le_refl _, fun y z c e1 e2 => I.ok.inj y z c (clS _ _ e1) (clS _ _ e2), fun y hy => ?_, fun y c z => absurd (show false = true from z) Bool.false_ne_true, fun _ => hh, Around.frames_deeper (hA.trans I.ok.frames), .inr ⟨rfl, rfl⟩, fun b z => absurd z (noE b), I.bs, Nat.le_trans I.ok.bsz I.sz, fun b _ _ => noE b, fun b z => absurd z (noE b), I.stack, I.stkFree⟩,
    rfl, I.bare, Un.kept old, ⟨_, hns, fun i y v' h1 h2 h3 => ?_⟩, fun y c e => ?_, I.hok.fresh (Nat.le_refl _), fun y c e => I.freeC y c (clS y c e), fun p hp => absurd (show p ∈ ([] : List (Addr × Obj)) from hp) (by simp), I.hok.kept old, ?_⟩
  · have hy : sc.names.lookup y = some .cell ∨ sc.names.lookup y = some .free := hy
    rcases hy with hy | hy
    · exact absurd hy (noCell y)
    · exact freeOf y hy
  · have h1 : Nc[i]? = some y := h1
    have h3 : sc.names.lookup y = some .local ∨ sc.names.lookup y = some .cell ∨ sc.names.lookup y = some .free := h3
    by_cases hi : i < N.length
    · obtain ⟨n1, n2, n3⟩ := cn.at hi h1
      have hf : sc.names.lookup y = some .free := by
        rcases h3 with z | z | z
        · exact absurd z n1
        · exact absurd z n2
        · exact z
      rw [List.getElem?_append_left (by omega)] at h2
      have hN : X.N[i]? = some y := by rw [hXN]; exact n3 hf
      obtain ⟨m, hn, hl⟩ := I.loc
      have hv : fsc.names.lookup y = some .cell ∨ fsc.names.lookup y = some .free := cn.fr (y, .free) (PySem.mem_of_lookup hf) rfl
      have hv' : X.env.scope.names.lookup y = some .cell ∨ X.env.scope.names.lookup y = some .free := by rw [hE]; exact hv
      obtain ⟨u', ru, lk⟩ := hl i y v' hN h2 (.inr hv')
      refine ⟨u', ru, .inr ⟨.inr hf, ?_⟩⟩
      rcases lk with ⟨kl, _⟩ | ⟨_, c, hc, hcell⟩
      · exfalso
        have kl' : X.env.scope.names.lookup y = some .local := kl
        rw [kl'] at hv'
        rcases hv' with z | z <;> cases z
      · obtain ⟨d, hd⟩ := freeOf y hf
        have ed := clS y d hd
        rw [hc] at ed
        cases ed
        exact ⟨c, hd, hcell.keeps old⟩
    · have hi' : i < (σ ++ [some v]).length := (List.getElem?_eq_some_iff.mp h2).1
      rw [List.length_append, List.length_singleton] at hi'
      have ei : i = N.length := by omega
      subst ei
      rw [cn.last] at h1
      cases h1
      rw [List.getElem?_append_right (by omega), hlen, Nat.sub_self] at h2
      cases h2
      exact ⟨u, rv, .inl ⟨cn.own, by simp⟩⟩
  · obtain ⟨w, z⟩ := I.cell y c (clS y c e)
    exact ⟨w, z.keeps old⟩
  · show (σ ++ [some v]).length = Nc.length
    rw [List.length_append, hlen, cn.len]
    rfl
theorem lam_call (hE : X.env.scope = fsc) (hXN : X.N = N) (cn : CompN N Nc x sc fsc) (hco : sc.isCoroutine = false) (hgen : sc.isGenerator = false)
    (clS : ∀ y c, cl.lookup y = some c → X.env.cells.lookup y = some c) (clH : ∀ y ∈ sc.names, y.2 = .free → ∃ c, cl.lookup y.1 = some c) (hA : A.frames = X.A.frames) (hh : A.handled = none) (hroom : A.depth < recursionLimit)
    (he : ∀ s H, PE (X.inLam A Nc q sc cl f c' s H) body te)
    (hbind : ∀ pm ctv u, bindArgs (kla_fn "<lambda>" q params body sc cl pm (.ref c') ctv) ⟨[u], []⟩ = pure [(x, u)])
    (I : Inv X pins σ H s) {pm ctv : Value} (hf : (f, kla_obj "<lambda>" q params body sc cl pm c' ctv) ∈ pins) (hc : H c' = some (CodeO c' q)) {v : V} {u : Value} (rv : RelV v u) {R : VK} (h : te (σ ++ [some v]) H R) :
    wpAny (model X.prog X.w) A (call (.ref f) [u]) (fun u' s' => ∃ y H', Inv X pins σ H' s' ∧ RelV y u' ∧ R y H') E s := by
  have lim : s.heap.NoLimit := I.nolimit
  refine wpAny_call (kla_callFunE hroom (I.pin _ (List.mem_append_right _ hf)).1 rfl hco hgen rfl (codeO_rec (I.hok _ _ hc)) ?_)
  rw [hbind]
  refine wpAny_pure (wpAny_newFunctionEnv cn.cell (fun y hy => ?_) (fun h₁ hns hsb => ⟨lim.fresh _ hsb, ?_⟩) cn.kind)
  · rw [List.mem_singleton.mp hy]
    exact cn.own
  · show codeAny _ _ (.expr body (envX q sc s.heap.objs.size f (.ref c') cl)) _ _
    have old : ∀ b o, s.heap.get? b = some o → h₁.get? b = some o := fun b o e => hsb.extBut b o (Nat.ne_of_lt (Heap.lt_size e)) (Heap.get?_push_of_some _ e)
    have Ic := inv_lam (q := q) (f := f) (c' := c') (tk := s.toks + [(x, u)].length) hE hXN cn clS clH hA hh I rv hns old
    refine kla_codeExpr (wpAny_mono (he s H [] _ (σ ++ [some v]) H R Ic h) (fun u' s' ⟨y, H', I', r', q'⟩ => ?_) fun _ _ z => z.elim)
    exact ⟨y, H', I.call' (ch := []) I'.os I'.base I'.hok I'.bare (fun b hb => absurd hb (by simp)), r', q'⟩
end
section
variable {X : Cx} {pins : List (Addr × Obj)} {σ : St} {H : Hp}
theorem Inv.sub {ps : List (Addr × Obj)} {s : Shared} (I : Inv X pins σ H s) (h : ∀ p ∈ ps, p ∈ pins) : Inv X ps σ H s := I.pins_of fun p hp => I.pin p (List.mem_append_right _ (h p hp))
theorem CLoc.cons {C S : Addr} {o : Obj} (c : CLoc X pins H C) (n : S ≠ C) : CLoc X ((S, o) :: pins) H C := ⟨c.free, c.ne, c.new, c.cells, fun p hp => by
  rcases List.mem_append.mp hp with hp | hp
  · exact c.pins p (List.mem_append_left _ hp)
  · rcases List.mem_cons.mp hp with rfl | hp
    · exact n
    · exact c.pins p (List.mem_append_right _ hp)⟩
theorem Inv.repin {s : Shared} {C : Addr} {o o' : Obj} {h' : Heap} {t' : Nat} (I : Inv X ((C, o) :: pins) σ H s) (c : CLoc X pins H C) (k : ∀ b u, b ≠ C → s.heap.get? b = some u → h'.get? b = some u) (e : h'.get? C = some o') (d : ∀ v, o'.data ≠ .cell v) :
    Inv X ((C, o') :: pins) σ H { s with heap := h', toks := t' } := by
  obtain ⟨_, _, _, nf, _⟩ := I.pin (C, o) (List.mem_append_right _ (List.mem_cons_self ..))
  have I0 : Inv X pins σ H s := I.sub fun p hp => List.mem_cons_of_mem _ hp
  exact (I0.turned (t' := t') k c.free c.ne (.inr c.new) c.cells c.pins).pin1 c e nf d
variable {xs : List V} {l f I S : Addr}
theorem max_loop (hc : X.calm = true) (kf : Nat → Int) {R : Result → Shared → Prop} (hq : SqL X.K H l xs) (hlI : l ≠ I) (hSI : S ≠ I) (cI : CLoc X pins H I) (cS : CLoc X pins H S)
    (turn : ∀ (i : Nat) (x : V) (u : Value) (ps : List (Addr × Obj)) (s : Shared), xs[i]? = some x → RelV x u → (∀ p ∈ pins, p ∈ ps) → Inv X ps σ H s → wpAny (model X.prog X.w) X.A.in1 (call (.ref f) [u]) (fun v s' => Inv X ps σ H s' ∧ ∃ t, v = .int (kf i) t) (fun _ _ => False) s)
    (hR : ∀ (i : Nat) (x : V) (v : Value) (s : Shared), xs[i]? = some x → RelV x v → (∀ j, j < xs.length → kf j ≤ kf i ∧ (j < i → kf j < kf i)) → Inv X pins σ H s → R (.ok (.ret v)) s) :
    ∀ (r j i : Nat) (s : Shared) (vb : Value) (x : V) (tb : Tok) (c : Nat) (oI : Obj), xs.length - (j + 1) = r → j + 1 ≤ xs.length → Inv X ((S, seqObj "list" #[vb, .int (kf i) tb] c) :: (I, oI) :: pins) σ H s → s.heap.IsListIter I l (j + 1) → xs[i]? = some x → RelV x vb → i ≤ j →
      (∀ j', j' ≤ j → kf j' ≤ kf i ∧ (j' < i → kf j' < kf i)) → codeAny (model X.prog X.w) X.A (.builtin "max.loop" ⟨[.ref I, .ref f, .ref S], []⟩) R s := by
  have hname : (toString "max" ++ toString ".loop" : String) = "max.loop" := by decide
  intro r
  induction r with
  | zero =>
    intro j i s vb x tb c oI hr hj Iv hit hx rx hij hbest
    obtain ⟨its, rv, pl, hz⟩ := Iv.list hq
    have hlen : xs.length = its.length := rv.length
    have W := Walks.list (prog := X.prog) (w := X.w) (A := X.A.in1) (Iv.ok.hd hc) I l hlI its.toArray
    have hsz : its.toArray.size = its.length := List.size_toArray ..
    have hin : j + 1 = its.length := by omega
    have gS := (Iv.pin _ (List.mem_append_right _ (List.mem_cons_self ..))).1
    refine codeAny_builtin PySem.F.entry_max_loop ?_
    rw [Around.under_plainId PySem.F.plain_max_loop _]
    show wpAny _ X.A.in1 (seqItems? (.ref S) >>= _) _ _ _
    refine wpAny_bind (wpAny_seqItems gS rfl ?_)
    show wpAny _ X.A.in1 (tryCatch (pyNext (.ref I)) _ >>= _) _ _ _
    refine wpAny_bind (wpAny_tryCatch (W.done _ _ _ ⟨by rw [hsz, ← hin]; exact hit, pl.isList⟩ fun h' tk' hk' => ?_))
    have I0 : Inv X pins σ H s := Iv.sub fun p hp => List.mem_cons_of_mem _ (List.mem_cons_of_mem _ hp)
    have I1 := I0.turned (t' := tk') (it := I) (h' := h') (fun b o n e => hk' b o (by simpa using n) e) cI.free cI.ne (.inr cI.new) cI.cells cI.pins
    have hS' := hk' S _ (by simpa using hSI) gS
    have s1 := Heap.SameBut.update h' S (Obj.mapSeq fun _ => (#[] : Array Value))
    show wpAny _ X.A.in1 (updateSeq S (fun _ => #[]) >>= _) _ _ _
    refine wpAny_bind ?_
    refine wpAny_updateSeq hS' rfl (wpAny_bind (wpAny_letGo (wpAny_pure ?_)))
    exact hR i x vb _ hx rx (fun j' hj' => hbest j' (by omega)) (I1.turned (t' := tk') (it := S) (fun b o n e => (s1.2 b n).trans e) cS.free cS.ne (.inr cS.new) cS.cells cS.pins)
  | succ r ih =>
    intro j i s vb x tb c oI hr hj Iv hit hx rx hij hbest
    obtain ⟨its, rv, pl, hz⟩ := Iv.list hq
    have hlen : xs.length = its.length := rv.length
    have W := Walks.list (prog := X.prog) (w := X.w) (A := X.A.in1) (Iv.ok.hd hc) I l hlI its.toArray
    have hsz : its.toArray.size = its.length := List.size_toArray ..
    have hlt : j + 1 < its.length := by omega
    have gS := (Iv.pin _ (List.mem_append_right _ (List.mem_cons_self ..))).1
    refine codeAny_builtin PySem.F.entry_max_loop ?_
    rw [Around.under_plainId PySem.F.plain_max_loop _]
    show wpAny _ X.A.in1 (seqItems? (.ref S) >>= _) _ _ _
    refine wpAny_bind (wpAny_seqItems gS rfl ?_)
    show wpAny _ X.A.in1 (tryCatch (pyNext (.ref I)) _ >>= _) _ _ _
    refine wpAny_bind (wpAny_tryCatch (W.item (j + 1) _ _ _ (by rw [hsz]; exact hlt) ⟨hit, pl.isList⟩ fun v h' tk' hP hst' hk' => ?_))
    have hv : its[j + 1]? = some v := by simpa using hP
    obtain ⟨oI', hoI', hoc, hod⟩ := id hst'.1
    obtain ⟨x2, hx2⟩ : ∃ x2, xs[j + 1]? = some x2 := ⟨_, List.getElem?_eq_getElem (by omega)⟩
    obtain ⟨v2, hv2, rx2⟩ := rv.get hx2
    rw [hv] at hv2
    cases hv2
    have Ia : Inv X ((I, oI) :: (S, seqObj "list" #[vb, .int (kf i) tb] c) :: pins) σ H s := Iv.sub fun p hp => by
      rcases List.mem_cons.mp hp with rfl | hp
      · exact List.mem_cons_of_mem _ (List.mem_cons_self ..)
      · rcases List.mem_cons.mp hp with rfl | hp
        · exact List.mem_cons_self ..
        · exact List.mem_cons_of_mem _ (List.mem_cons_of_mem _ hp)
    have I1 := Ia.repin (t' := tk') (h' := h') (o' := oI') (cI.cons hSI) (fun b o n e => hk' b o (by simpa using n) e) hoI' (fun z y => by rw [hod] at y; cases y)
    show wpAny _ X.A.in1 (tryCatch (holding [v] (call (.ref f) [v])) _ >>= _) _ _ _
    refine wpAny_bind (wpAny_tryCatch (wpAny_holding (wpAny_mono (turn (j + 1) x2 v _ _ hx2 rx2 (fun p hp => List.mem_cons_of_mem _ (List.mem_cons_of_mem _ hp)) I1) (fun y s2 he => ?_) fun _ _ hF => hF.elim)))
    obtain ⟨I2, t2, rfl⟩ := he
    have gI2 := (I2.pin _ (List.mem_append_right _ (List.mem_cons_self ..))).1
    have gS2 := (I2.pin _ (List.mem_append_right _ (List.mem_cons_of_mem _ (List.mem_cons_self ..)))).1
    have hit2 : s2.heap.IsListIter I l (j + 1 + 1) := ⟨oI', gI2, hoc, hod⟩
    have I2' : Inv X ((S, seqObj "list" #[vb, .int (kf i) tb] c) :: (I, oI') :: pins) σ H s2 := I2.sub fun p hp => by
      rcases List.mem_cons.mp hp with rfl | hp
      · exact List.mem_cons_of_mem _ (List.mem_cons_self ..)
      · rcases List.mem_cons.mp hp with rfl | hp
        · exact List.mem_cons_self ..
        · exact List.mem_cons_of_mem _ (List.mem_cons_of_mem _ hp)
    show wpAny _ X.A.in1 (tryCatch (holding [v, .int (kf (j + 1)) t2] (richCompare .Gt (.int (kf (j + 1)) t2) (.int (kf i) tb) >>= _)) _ >>= _) _ _ _
    refine wpAny_bind (wpAny_tryCatch (wpAny_holding (wpAny_bind (CmpOf.ints_gt (prog := X.prog) (w := X.w) (A := X.A.in1) (P := fun i v => ∃ t, v = .int (kf i) t) kf (fun i v h => h) (j + 1) i _ _ _ _ _ ⟨t2, rfl⟩ ⟨tb, rfl⟩ ?_))))
    refine wpAny_bind (wpAny_holding (wpAny_truthy_bool ?_))
    refine wpAny_bind (wpAny_letGo (wpAny_pure ?_))
    by_cases hb' : kf (j + 1) > kf i
    · have s1 := Heap.SameBut.update s2.heap S (Obj.mapSeq fun _ => #[v, .int (kf (j + 1)) t2])
      obtain ⟨c2, hc2⟩ : ∃ c2, (s2.heap.update S (Obj.mapSeq fun _ => #[v, .int (kf (j + 1)) t2])).get? S = some (seqObj "list" #[v, .int (kf (j + 1)) t2] c2) := ⟨_, get?_update_seq gS2 fun _ => #[v, .int (kf (j + 1)) t2]⟩
      simp only [hb', decide_true, if_true]
      refine wpAny_bind ?_
      refine wpAny_updateSeq gS2 rfl (wpAny_bind (wpAny_letGo ?_))
      rw [hname]
      have I3 := I2'.repin (t' := s2.toks) (o' := seqObj "list" #[v, .int (kf (j + 1)) t2] c2) (cS.cons (Ne.symm hSI)) (fun b o n e => (s1.2 b n).trans e) hc2 (fun z y => by cases y)
      refine wpAny_pure ⟨plainId_quiet PySem.F.plain_max_loop _, ih (j + 1) (j + 1) _ v x2 t2 c2 oI' (by omega) (by omega) I3 ⟨oI', (s1.2 I hSI.symm).trans gI2, hoc, hod⟩ hx2 rx2 (Nat.le_refl _) fun j' hj' => ?_⟩
      by_cases e : j' = j + 1
      · subst e
        exact ⟨by omega, fun z => by omega⟩
      · have hb1 := (hbest j' (by omega)).1
        exact ⟨by omega, fun _ => by omega⟩
    · simp only [hb', decide_false, Bool.false_eq_true, if_false]
      refine wpAny_bind (wpAny_letGo ?_)
      rw [hname]
      refine wpAny_pure ⟨plainId_quiet PySem.F.plain_max_loop _, ih (j + 1) i _ vb x tb c oI' (by omega) (by omega) I2' hit2 hx rx (by omega) fun j' hj' => ?_⟩
      by_cases e : j' = j + 1
      · subst e
        exact ⟨by omega, fun z => by omega⟩
      · exact hbest j' (by omega)
theorem max_key (hc : X.calm = true) (kf : Nat → Int) {s : Shared} {Q : Value → Shared → Prop} {E : Value → Shared → Prop} (hq : SqL X.K H l xs) (hne : 0 < xs.length) (Iv : Inv X pins σ H s)
    (turn : ∀ (i : Nat) (x : V) (u : Value) (ps : List (Addr × Obj)) (s : Shared), xs[i]? = some x → RelV x u → (∀ p ∈ pins, p ∈ ps) → Inv X ps σ H s → wpAny (model X.prog X.w) X.A.in1 (call (.ref f) [u]) (fun v s' => Inv X ps σ H s' ∧ ∃ t, v = .int (kf i) t) (fun _ _ => False) s)
    (hQ : ∀ (i : Nat) (x : V) (v : Value) (s : Shared), xs[i]? = some x → RelV x v → (∀ j, j < xs.length → kf j ≤ kf i ∧ (j < i → kf j < kf i)) → Inv X pins σ H s → Q v s) :
    wpAny (model X.prog X.w) X.A (call (.builtin "max") [.ref l] [(Str.ofString "key", .ref f)]) Q E s := by
  have hname : (toString "max" ++ toString ".loop" : String) = "max.loop" := by decide
  obtain ⟨its, rv, pl, hz⟩ := Iv.list hq
  have hlen : xs.length = its.length := rv.length
  have hls := pl.isList
  obtain ⟨ol, hol, _⟩ := id hls
  have hll : l < s.heap.objs.size := Heap.lt_size hol
  refine kmk_tree PySem.F.kind_max PySem.F.plain_max PySem.F.entry_max (kmk_max_key _ _) ?_
  show wpAny _ X.A.in1 (Builtin.Builtins.bindParams "max" ["key", "default"] 0 ⟨[], [(Str.ofString "key", .ref f)]⟩ >>= _) _ _ s
  refine wpAny_bind (wpAny_of_eq (show Builtin.Builtins.bindParams "max" ["key", "default"] 0 ⟨[], [(Str.ofString "key", .ref f)]⟩ = pure [some (.ref f), none] from rfl) ?_)
  refine wpAny_bind (wpAny_pure ?_)
  refine wpAny_bind (wpAny_pyIter_list hls ?_)
  refine wpAny_bind (wpAny_newList ?_ (Nat.zero_le _))
  rw [hname]
  have hS : (s.heap.push { cls := .type "list_iterator", data := .fields #[.ref l, .int 0 0] }).objs.size = s.heap.objs.size + 1 := size_push' ..
  have hlI : l ≠ s.heap.objs.size := Nat.ne_of_lt hll
  have hSI : (s.heap.push { cls := .type "list_iterator", data := .fields #[.ref l, .int 0 0] }).objs.size ≠ s.heap.objs.size := by rw [hS]; exact Nat.ne_of_gt (Nat.lt_succ_self _)
  have I1 := Iv.kept (t' := s.toks) (h' := s.heap.push { cls := .type "list_iterator", data := .fields #[.ref l, .int 0 0] }) fun b u e => Heap.get?_push_of_some _ e
  have cI : CLoc X pins H s.heap.objs.size := Iv.cloc (Nat.le_refl _)
  have cS : CLoc X pins H (s.heap.push { cls := .type "list_iterator", data := .fields #[.ref l, .int 0 0] }).objs.size := I1.cloc (Nat.le_refl _)
  have nfI := Iv.nofs (Nat.le_refl _)
  have nfS := I1.nofs (Nat.le_refl _)
  have I2 := I1.kept (t' := s.toks) (h' := (s.heap.push { cls := .type "list_iterator", data := .fields #[.ref l, .int 0 0] }).push (seqObj "list" #[] 0)) fun b u e => Heap.get?_push_of_some _ e
  have gI : ((s.heap.push { cls := .type "list_iterator", data := .fields #[.ref l, .int 0 0] }).push (seqObj "list" #[] 0)).get? s.heap.objs.size = some { cls := .type "list_iterator", data := .fields #[.ref l, .int 0 0] } :=
    Heap.get?_push_of_some _ (Heap.get?_push_size _ rfl)
  have gS : ((s.heap.push { cls := .type "list_iterator", data := .fields #[.ref l, .int 0 0] }).push (seqObj "list" #[] 0)).get? (s.heap.push { cls := .type "list_iterator", data := .fields #[.ref l, .int 0 0] }).objs.size = some (seqObj "list" #[] 0) := Heap.get?_push_size _ rfl
  generalize (s.heap.push { cls := .type "list_iterator", data := .fields #[.ref l, .int 0 0] }).objs.size = S at hSI cS nfS gS ⊢
  generalize hI : s.heap.objs.size = I at hSI cI nfI gI hlI ⊢
  have I3 := (I2.pin1 cS gS nfS (fun z y => by cases y)).pin1 (cI.cons hSI) gI nfI (fun z y => by cases y)
  refine wpAny_pure ⟨plainId_quiet PySem.F.plain_max_loop _, ?_⟩
  obtain ⟨its, rv, pl, hz⟩ := I3.list hq
  have hlen : xs.length = its.length := rv.length
  have W := Walks.list (prog := X.prog) (w := X.w) (A := X.A.in1) (I3.ok.hd hc) I l hlI its.toArray
  have hsz : its.toArray.size = its.length := List.size_toArray ..
  refine codeAny_builtin PySem.F.entry_max_loop ?_
  rw [Around.under_plainId PySem.F.plain_max_loop _]
  show wpAny _ X.A.in1 (seqItems? (.ref _) >>= _) _ _ _
  refine wpAny_bind (wpAny_seqItems gS rfl ?_)
  show wpAny _ X.A.in1 (tryCatch (pyNext (.ref I)) _ >>= _) _ _ _
  refine wpAny_bind (wpAny_tryCatch (W.item 0 _ _ _ (by rw [hsz, ← hlen]; exact hne) ⟨⟨_, gI, rfl, rfl⟩, pl.isList⟩ fun v h' tk' hP hst' hk' => ?_))
  have hv : its[0]? = some v := by simpa using hP
  obtain ⟨oI', hoI', hoc, hod⟩ := id hst'.1
  obtain ⟨x2, hx2⟩ : ∃ x2, xs[0]? = some x2 := ⟨_, List.getElem?_eq_getElem hne⟩
  obtain ⟨v2, hv2, rx2⟩ := rv.get hx2
  rw [hv] at hv2
  cases hv2
  have I4 := I3.repin (t' := tk') (h' := h') (o' := oI') (cI.cons hSI) (fun b o n e => hk' b o (by simpa using n) e) hoI' (fun z y => by rw [hod] at y; cases y)
  show wpAny _ X.A.in1 (tryCatch (holding [v] (call (.ref f) [v])) _ >>= _) _ _ _
  refine wpAny_bind (wpAny_tryCatch (wpAny_holding (wpAny_mono (turn 0 x2 v _ _ hx2 rx2 (fun p hp => List.mem_cons_of_mem _ (List.mem_cons_of_mem _ hp)) I4) (fun y s2 he => ?_) fun _ _ hF => hF.elim)))
  obtain ⟨I5, t2, rfl⟩ := he
  have gI2 := (I5.pin _ (List.mem_append_right _ (List.mem_cons_self ..))).1
  have gS2 := (I5.pin _ (List.mem_append_right _ (List.mem_cons_of_mem _ (List.mem_cons_self ..)))).1
  have I5' : Inv X ((S, seqObj "list" #[] 0) :: (I, oI') :: pins) σ H s2 := I5.sub fun p hp => by
    rcases List.mem_cons.mp hp with rfl | hp
    · exact List.mem_cons_of_mem _ (List.mem_cons_self ..)
    · rcases List.mem_cons.mp hp with rfl | hp
      · exact List.mem_cons_self ..
      · exact List.mem_cons_of_mem _ (List.mem_cons_of_mem _ hp)
  have s1 := Heap.SameBut.update s2.heap S (Obj.mapSeq fun _ => #[v, .int (kf 0) t2])
  obtain ⟨c2, hc2⟩ : ∃ c2, (s2.heap.update S (Obj.mapSeq fun _ => #[v, .int (kf 0) t2])).get? S = some (seqObj "list" #[v, .int (kf 0) t2] c2) := ⟨_, get?_update_seq gS2 fun _ => #[v, .int (kf 0) t2]⟩
  show wpAny _ X.A.in1 (updateSeq S (fun _ => #[v, .int (kf 0) t2]) >>= _) _ _ _
  refine wpAny_bind ?_
  refine wpAny_updateSeq gS2 rfl ?_
  rw [hname]
  have I6 := I5'.repin (t' := s2.toks) (o' := seqObj "list" #[v, .int (kf 0) t2] c2) (cS.cons (Ne.symm hSI)) (fun b o n e => (s1.2 b n).trans e) hc2 (fun z y => by cases y)
  refine wpAny_pure ⟨plainId_quiet PySem.F.plain_max_loop _, max_loop hc kf hq hlI hSI cI cS turn hQ _ 0 0 _ v x2 t2 c2 oI' rfl hne I6 ⟨oI', (s1.2 I hSI.symm).trans gI2, hoc, hod⟩ hx2 rx2 (Nat.le_refl _) fun j' hj' => ?_⟩
  have e : j' = 0 := by omega
  subst e
  exact ⟨by omega, fun z => absurd z (Nat.lt_irrefl _)⟩
end
theorem Fun.okC {P : Program} {w : World} {K : PySem.W.Frag} {mg : Str → Option Value} {base : Heap} {x qual : Str} {st : Stmt} {f : Addr} {fd : FuncData} {N ps : List Str} {k : Nat} {sp : Sp} (F : Fun K x qual st f fd) (S : FnScope N ps (defScope st)) (len : ∀ vs H Q E, sp vs H Q E → vs.length = ps.length)
    (hbody : ∀ (cdv : Value), fd.code = cdv → ∀ (A : Around) (outer : List Env) (s : Shared) (H : Hp) (vs : List V) (Q : VK) (E : XK), Room k (A.deeper (envOfC qual (defScope st) s.heap.objs.size f cdv)) → sp vs H Q E →
      ∃ t, PSs (cxOf CX0 P w K mg base N qual (defScope st) f cdv A outer s H E).nox (defBody st) t ∧ t { nx := fun _ H' => Q .non H', rt := Q } (start N vs) H) : FnOk P w K mg base CX0 (k + 1) f fd ps sp := by
  obtain ⟨oc, od, kV, doc, pm, an, cdv, ct, osl, rfl, lk, hcd⟩ := F.ex
  refine fn_of lk hcd S len fun A outer s H vs Q E hr hsp => ?_
  obtain ⟨t, h, q⟩ := hbody cdv rfl A outer s H vs Q E hr hsp
  exact ⟨t, h.nox, q⟩
section
variable {M : Model} {A : Around} {E : Value → Shared → Prop} {s : Shared} {env : Env}
theorem with_kwB {pos : Pos} {T : String} {e : Expr} {kws : List Keyword} {Q : Value → Shared → Prop}
    (h : wpAny M A (spliced (backTo pos (starEach [e] env))) (fun vs z => wpAny M A (evalAll ((backToKw pos (keywordEach kws env)).map (·.2))) (fun us y => wpAny M A (call (.builtin T) vs (((backToKw pos (keywordEach kws env)).filterMap (·.1)).zip us)) Q E y) E z) E s)
    (he : backTo pos (starEach [e] env) = (false, eval e env) :: backTo pos (starEach [] env)) (hp : (backTo pos (starEach [e] env)).any (·.1) = false)
    (ha : (backToKw pos (keywordEach kws env)).all (·.1.isSome) = true) (hk : (backToKw pos (keywordEach kws env)).any (·.1.isNone) = false) :
    wpAny M A (callWith pos (.builtin T) [] (backTo pos (starEach [e] env)) (backToKw pos (keywordEach kws env))) Q E s := by
  unfold callWith
  have y : wpAny M A (evalArgs (.builtin T) true (backTo pos (starEach [e] env)) (backToKw pos (keywordEach kws env))) (fun a z => wpAny M A (call (.builtin T) ([] ++ a.pos) a.kw) Q E z) E s := by
    rw [he] at h ⊢
    exact evalArgs_kwB ha h
  refine wpAny_bind (wpAny_holding (wpAny_mono y (fun a z q => wpAny_bind (wpAny_standAt ?_)) fun _ _ x => x))
  simp only [hp, hk, Bool.or_false]
  refine wpAny_bind (wpAny_pure (wpAny_bind ?_))
  exact wpAny_mono q (fun r z hr => wpAny_bind (wpAny_holding (wpAny_point (wpAny_pure hr)))) fun _ _ x => x
end
def tMaxKey (K : PySem.W.Frag) (P : Addr) (lpos : Pos) (q : Str) (tl tb : TE) : TE := fun σ H Q => tl σ H fun x H1 => ∃ (a : Addr) (xs : List V) (kf : Nat → Int), x = .ref a ∧ 0 < xs.length ∧ LamT P lpos q H1 ∧
  ∀ H2, Lam1 P lpos q H2 → SmL P H1 H2 → (Lam1 P lpos q H1 → H1 = H2) → (∀ b, H2 b = none → H1 b = none) →
    SqL K H2 a xs ∧ (∀ i x, xs[i]? = some x → tb (σ ++ [some x]) H2 fun y H3 => y = .int (kf i) ∧ H3 = H2) ∧ ∀ i x, xs[i]? = some x → (∀ j, j < xs.length → kf j ≤ kf i ∧ (j < i → kf j < kf i)) → Q x H2
section
variable {X : Cx} {c P : Addr} {e body : Expr} {tl tb : TE} {sc fsc : Scope} {N Nc : List Str} {x : Str} {params : Arguments} {lpos kp p pos : Pos}
theorem pe_maxkey (hc : X.calm = true) (LB : LamB X.base X.mg c P) (hcode : X.env.code = .ref c) (hr : Room 1 X.A) (hg : Gl X "max") (hm : X.mg "max" = none) (hE : X.env.scope = fsc) (hXN : X.N = N) (cn : CompN N Nc x sc fsc) (hco : sc.isCoroutine = false) (hgen : sc.isGenerator = false) (he : PE X e tl)
    (hb : ∀ cl f c' s H, PE (X.inLam X.A.in1 Nc (X.env.qual ++ "<lambda>") sc cl f c' s H) body tb)
    (hbind : ∀ cl c' pm ctv u, bindArgs (kla_fn "<lambda>" (X.env.qual ++ "<lambda>") params body sc cl pm (.ref c') ctv) ⟨[u], []⟩ = pure [(x, u)] := by intros; rfl) (hdef : defaultsOf params X.env = ([], []) := by rfl)
    (h1 : backTo pos (starEach [e] X.env) = (false, eval e X.env) :: backTo pos (starEach [] X.env) := by rfl) (h2 : (backTo pos (starEach [e] X.env)).any (·.1) = false := by rfl)
    (h3 : (backToKw pos (keywordEach [⟨some "key", .Lambda params body sc lpos, kp⟩] X.env)).all (·.1.isSome) = true := by rfl) (h4 : (backToKw pos (keywordEach [⟨some "key", .Lambda params body sc lpos, kp⟩] X.env)).any (·.1.isNone) = false := by rfl)
    (h5 : (backToKw pos (keywordEach [⟨some "key", .Lambda params body sc lpos, kp⟩] X.env)).filterMap (·.1) = [("key" : Str)] := by rfl) :
    PE X (.Call (.Name "max" p) [e] [⟨some "key", .Lambda params body sc lpos, kp⟩] pos) (tMaxKey X.K P lpos (X.env.qual ++ "<lambda>") tl tb) := by
  intro pins s σ H Q I h
  obtain ⟨cl, hcl, clS, clH⟩ := closure_ok (env := X.env) (sc := sc) (comp_has I.ok.has hE cn)
  refine wpAny_Call_Name_kw (ld_blt I hg hm boot_max ?_ (by decide) (by decide))
  refine with_kwB ?_ h1 h2 h3 h4
  rw [h1]
  refine Calls.spliced_cons (thn (he pins s σ H _ I h) fun u s1 ⟨y, H1, I1, r1, a, xs, kf, hx, hne, lt, q⟩ => ?_)
  subst hx
  cases r1
  refine Calls.spliced_nil ?_
  refine kws_cons (kla_eval hdef (lam_make LB hcode hcl I1 lt fun f c' pm ctv H2 s2 I2 hc2 cf l2 sm l12 fr => kws_nil ?_))
  rw [h5]
  show wpAny (model X.prog X.w) X.A (call (.builtin "max") [.ref a] [(Str.ofString "key", .ref f)]) _ _ s2
  obtain ⟨hq, keys, fin⟩ := q H2 l2 sm l12 fr
  refine max_key hc kf hq hne I2 (fun i z u ps s3 hz rz hps I3 => ?_) fun i z v s3 hz rz best I3 => ?_
  · refine thn (lam_call hE hXN cn hco hgen clS clH (A := X.A.in1) rfl hr.hd (by have := hr.dp; show X.A.depth < _; omega) (fun s H => hb cl f c' s H) (fun pm ctv u => hbind cl c' pm ctv u) I3 (hps _ (List.mem_cons_self ..)) hc2 rz (keys i z hz)) fun v s4 ⟨y, H4, I4, r4, e1, e2⟩ => ?_
    subst e1 e2
    exact ⟨I4, r4⟩
  · exact ⟨z, H2, I3.sub fun p hp => List.mem_cons_of_mem _ hp, rz, fin i z hz best⟩
end
def noTab (K : PySem.W.Frag) : Bool := K.all fun p => match p.2.data with
  | .fields v => !(v.isEmpty && p.2.cls == Value.none)
  | _ => true
theorem mem_look {α : Type} {a : Addr} {v : α} : ∀ {l : List (Addr × α)}, l.lookup a = some v → (a, v) ∈ l
  | (k, u) :: r, h => by
    rw [List.lookup_cons] at h
    cases hx : (a == k) with
    | true =>
      rw [hx] at h
      have e : a = k := by simpa using hx
      cases h
      rw [e]
      exact List.mem_cons_self ..
    | false =>
      rw [hx] at h
      exact List.mem_cons_of_mem _ (mem_look h)
theorem noTab_look {K : PySem.W.Frag} (h : noTab K = true) {P : Addr} : K.lookup P ≠ some (tabObj #[]) := fun e => by
  have := List.all_eq_true.mp h _ (mem_look e)
  exact absurd (show (!((#[] : Array Value).isEmpty && (Value.none == Value.none))) = true from this) (by decide)
theorem law_callT {P : Program} {w : World} {K : PySem.W.Frag} {mg mb : Str → Option Value} {CX : CXT} {k : Nat} {fa a c Pt : Addr} {fd : FuncData} {x : Str} {sp : Sp} {s₁ : Shared} {vs : List Value} {ns : List Int}
    (KX : K.In s₁.heap) (hnt : noTab K = true) (hns : s₁.heap.Ns mainGlobals mg) (hb : s₁.heap.Ns builtinsNs mb) (hbb : ∀ x : Str, x ≠ "__name__" → mb x = bootBuiltins x) (hlim : s₁.heap.NoLimit) (hg : s₁.gens = #[])
    (ha : s₁.heap.get? a = some { cls := .type "list", data := .seq vs.toArray }) (hi : IntsAre vs ns) (hl : ns.length ≤ sizeLine) (hr : Room k callerA)
    (hco : s₁.heap.IsCode c Pt #[]) (hta : s₁.heap.TableAt c Pt #[]) (hbm : ∃ bm ob, mg "__builtins__" = some (.ref bm) ∧ bm ≠ builtinsNs ∧ s₁.heap.get? bm = some ob ∧ ob.cls = .type "module" ∧ ob.dict = some builtinsNs ∧ ob.data = .plain)
    (F : ∀ base : Heap, K.In base → base.Ns mainGlobals mg → LamB base mg c Pt → FnOk P w K mg base CX k fa fd [x] sp) (hbind : ∀ (s : Shared) (u : Value), BindsTo s fd ⟨[u], []⟩ [(x, u)])
    (hsp : ∀ H : Hp, H Pt = some (.tbl #[]) → SqL K H a (ns.map V.int) → sp [.ref a] H (fun v _ => v = .bl true) fun _ _ _ => False)
    (hCX : ∀ H e s', CX [] H s₁ (fun _ _ _ => False) e s' → False) :
    codeAny (model P w) callerA (.call (.ref fa) ⟨[.ref a], []⟩) (fun r s' => r = .ok (.ret (.bool true)) ∧ OldK s₁.heap s'.heap ∧ s'.os = s₁.os ∧ AllBare s'.gens) s₁ := by
  have rv := vals_ints hi
  have lenV := hi.length
  have hPt : s₁.heap.get? Pt = some (tabObj #[]) := hta.2
  have aP : a ≠ Pt := fun z => by rw [z, hPt] at ha; cases ha
  have kP : K.lookup Pt = none := by
    cases e : K.lookup Pt with
    | none => rfl
    | some o =>
      have := KX _ _ e
      rw [hPt] at this
      rw [← Option.some.inj this] at e
      exact absurd e (noTab_look hnt)
  have core : ∀ H : Hp, (∀ b, H b = none ∨ (b = Pt ∧ H b = some (.tbl #[])) ∨ (b = a ∧ ∃ o xs, H b = some (.frz o (.lst xs)))) → H Pt = some (.tbl #[]) → SqL K H a (ns.map V.int) → HOk P w H s₁.heap → (H a ≠ none → K.lookup a = none) →
      codeAny (model P w) callerA (.call (.ref fa) ⟨[.ref a], []⟩) (fun r s' => r = .ok (.ret (.bool true)) ∧ OldK s₁.heap s'.heap ∧ s'.os = s₁.os ∧ AllBare s'.gens) s₁ := by
    intro H hO hP hS hok hK
    have base_of : ∀ {b : Addr} {o : Obj}, s₁.heap.get? b = some o → H b = none → (hidT s₁.heap H).get? b = some o := fun e n => hidT_get e n
    have other : ∀ {b : Addr} {o : Obj}, s₁.heap.get? b = some o → o.cls ≠ .type "list" → (o.cls ≠ .none ∨ ∀ v, o.data ≠ .fields v) → H b = none := fun {b o} e n1 n2 => by
      rcases hO b with z | ⟨z, _⟩ | ⟨z, _⟩
      · exact z
      · subst z
        rw [hPt] at e; cases e
        rcases n2 with n2 | n2
        · exact absurd rfl n2
        · exact absurd rfl (n2 _)
      · subst z
        rw [ha] at e; cases e
        exact absurd rfl n1
    have noA : ∀ {b : Addr} {o : Obj} {es : Array DictEntry} {ep : Nat}, s₁.heap.get? b = some o → o.data = .dict es ep → H b = none := fun {b o es ep} e d => by
      rcases hO b with z | ⟨z, _⟩ | ⟨z, _⟩
      · exact z
      · subst z; rw [hPt] at e; cases e; cases d
      · subst z; rw [ha] at e; cases e; cases d
    have nsK : ∀ {b : Addr} {m : Str → Option Value}, s₁.heap.Ns b m → (hidT s₁.heap H).Ns b m := fun {b m} ⟨o, es, ep, e, d, r⟩ => ⟨o, es, ep, base_of e (noA e d), d, r⟩
    have hKb : K.In (hidT s₁.heap H) := fun b o e => base_of (KX b o e) (by
      rcases hO b with z | ⟨z, _⟩ | ⟨z, y⟩
      · exact z
      · subst z; rw [kP] at e; cases e
      · subst z
        cases q : H b with
        | none => rfl
        | some u => rw [hK (by rw [q]; simp)] at e; cases e)
    have hM : Mod K mg (hidT s₁.heap H) := ⟨hKb, nsK hns, ⟨mb, nsK hb, hbb⟩, let ⟨mc, h1, h2⟩ := hlim; ⟨mc, nsK h1, h2⟩⟩
    have LB : LamB (hidT s₁.heap H) mg c Pt := by
      refine ⟨?_, ?_, ?_⟩
      · obtain ⟨o, vs', file, tf, flags, tg, inF, text, tt, e, ec, r⟩ := CodeHd.of hco hta
        exact ⟨o, vs', file, tf, flags, tg, inF, text, tt, base_of e (other e (by rw [ec]; decide) (.inl (by rw [ec]; decide))), ec, r⟩
      · obtain ⟨bm, ob, b1, b2, b3, b4, r⟩ := hbm
        exact ⟨bm, ob, b1, b2, base_of b3 (other b3 (by rw [b4]; decide) (.inl (by rw [b4]; decide))), b4, r⟩
      · cases e : (hidT s₁.heap H).get? Pt with
        | none => rfl
        | some o => rw [(of_hidT e).2] at hP; cases hP
    have e0 : Env0 P w K mg (hidT s₁.heap H) callerA [] s₁ H := ⟨rfl, hM, fun b o e => of_hidT e, Nat.le_of_eq (hidT_size _ _), trivial, fun b hb => absurd (show b ∈ ([] : List Addr) from hb) (by simp), hok, .of_eq hg⟩
    refine codeAny_mono ((F _ hKb (nsK hns) LB).run callerA [] s₁ H ⟨[.ref a], []⟩ [.ref a] [.ref a] _ _ hr e0 (hbind s₁ (.ref a)) (.cons rfl .nil) (hsp H hP hS)) fun r s' h => ?_
    cases r with
    | error e => exact (hCX H e s' h).elim
    | ok fl =>
      cases fl with
      | next => exact False.elim h
      | brk => exact False.elim h
      | cont => exact False.elim h
      | ret u =>
        obtain ⟨v, H', os, bare, un, hok', r', q⟩ := h
        have q' : v = .bl true := q
        subst q'
        obtain rfl : u = Value.bool true := r'
        refine ⟨rfl, ⟨fun b o e => ?_, fun b o e => un.there b o e (by simp)⟩, os, bare⟩
        rcases hO b with z | ⟨z, y⟩ | ⟨z, ob, xs, y⟩
        · exact .inl (un.keep b o e z (by intro z; exact absurd (show b ∈ ([] : List Addr) from z) (by simp)) (by simp))
        · subst z
          rw [hPt] at e; cases e
          obtain ⟨more, z2⟩ := un.tbls b _ y
          exact .inr (.inl ⟨hta.isCodeTable, rfl, #[], more, rfl, hok' b _ z2⟩)
        · have z2 := un.frzs b ob _ y
          obtain ⟨e1, _⟩ := hok b _ y
          obtain ⟨e2, _⟩ := hok' b _ z2
          rw [e] at e1; cases e1
          exact .inl e2
  cases hk : K.lookup a with
  | some o =>
    have e := KX a o hk
    rw [ha] at e
    cases e
    refine core (fun b => if b = Pt then some (.tbl #[]) else none) (fun b => ?_) (if_pos rfl) (.inr ⟨_, vs.toArray, _, hk, rfl, rfl, rfl, by rw [List.size_toArray, lenV]; exact hl, by simpa using rv⟩) (fun b u z => ?_) fun z => absurd (if_neg aP) z
    · by_cases hb : b = Pt
      · exact .inr (.inl ⟨hb, if_pos hb⟩)
      · exact .inl (if_neg hb)
    · by_cases hb : b = Pt
      · have z' := (if_pos hb).symm.trans z
        cases z'
        subst hb
        exact hPt
      · have z' := (if_neg hb).symm.trans z
        cases z'
  | none =>
    refine core (fun b => if b = Pt then some (.tbl #[]) else if b = a then some (.frz { cls := .type "list", data := .seq vs.toArray } (.lst (ns.map V.int))) else none) (fun b => ?_) (if_pos rfl) (.inl (.inr ⟨{ cls := .type "list", data := .seq vs.toArray }, (if_neg aP).trans (if_pos rfl)⟩)) (fun b u z => ?_) fun _ => hk
    · by_cases hb : b = Pt
      · exact .inr (.inl ⟨hb, if_pos hb⟩)
      · by_cases hb2 : b = a
        · exact .inr (.inr ⟨hb2, _, _, (if_neg hb).trans (if_pos hb2)⟩)
        · exact .inl ((if_neg hb).trans (if_neg hb2))
    · by_cases hb : b = Pt
      · have z' := (if_pos hb).symm.trans z
        cases z'
        subst hb
        exact hPt
      · have z := (if_neg hb).symm.trans z
        by_cases hb2 : b = a
        · have z' := (if_pos hb2).symm.trans z
          cases z'
          subst hb2
          exact ⟨ha, by rw [List.length_map]; exact hl, vs, _, rv, ha⟩
        · have z' := (if_neg hb2).symm.trans z
          cases z'
theorem walk_of1 {l : PySem.W.OpenLaw} {n k : Nat} {q : Program} {loose : List Str} {XP : (Str → Option Value) → Heap → Prop} {YP : World → Heap → Prop} {d dn : DefRec} {K : Params → PySem.W.Frag} {CX : World → CXT} {sp : World → Addr → Sp} {x : Str}
    (hn : l.most = some n) (hn2 : n ≤ sizeLine) (hdf : d.params.defaults = []) (hr : Room k callerA)
    (hY : ∀ (w : World) (h : Heap), YP w h → (K w.params).In h) (hnt : ∀ p, noTab (K p) = true) (hdn : dn ∈ recsOf q)
    (F : ∀ (w : World) (mg : Str → Option Value) (fa f c Pt : Addr) (h : Heap), (K w.params).In h → h.Ns mainGlobals mg → mg d.name = some (.ref fa) → mg dn.name = some (.ref f) → (∃ o fd, h.get? f = some o ∧ o.data = .func fd ∧ fd.code = .ref c) →
      ∃ fd : FuncData, (∀ (s : Shared) (u : Value), BindsTo s fd ⟨[u], []⟩ [(x, u)]) ∧
        ∀ base : Heap, (K w.params).In base → base.Ns mainGlobals mg → LamB base mg c Pt → FnOk l.prog w (K w.params) mg base (CX w) k fa fd [x] (sp w Pt))
    (hsp : ∀ (w : World) (Pt : Addr) (H : Hp) (a : Addr) (ns : List Int), ns.length ≤ n → H Pt = some (.tbl #[]) → SqL (K w.params) H a (ns.map V.int) → sp w Pt [.ref a] H (fun v _ => v = .bl true) fun _ _ _ => False)
    (hCX : ∀ (w : World) (H : Hp) (s : Shared) (e : Value) (s' : Shared), CX w [] H s (fun _ _ _ => False) e s' → False) :
    PySem.W.WalkO q loose XP YP l.row.toRowW d [] (fun f vs => PySem.call f vs) := by
  refine Att.attach_call hn hdf fun w s₀ s₁ mg mb fa o pm cd doc a vs ns G Y ho hd hcd hmg hobj hints hlen hg => ?_
  have KX := hY w _ Y
  obtain ⟨f, o', fd', c, Pt, t1, t2, t3, t4, t5, t6⟩ := G.T.tab dn hdn
  obtain ⟨fd, hb, hF⟩ := F w mg fa f c Pt _ KX G.T.g hmg t1 ⟨o', fd', t2, t3, t4⟩
  exact law_callT KX (hnt _) G.T.g G.T.b G.T.builtins G.T.nolimit hg hobj hints (Nat.le_trans hlen hn2) hr t5 t6 G.T.bmain hF hb (fun H hP hS => hsp w Pt H a ns hlen hP hS) fun H e s' => hCX w H s₁ e s'
end L2
namespace L2
open PySem PySem.W PySem.Spec PyProof.Rows
section
variable {X : Cx}
def rInsert : V → List V → Hp → VK → Prop := fun x vs H Q => ∃ (l : Addr) (xs : List V) (k : Nat) (y : V), x = .ref l ∧ vs = [.int (k : Int), y] ∧ H l = some (.lst xs) ∧ k ≤ xs.length ∧ xs.length < sizeLine ∧ Q .non (upd H l (.lst (xs.take k ++ y :: xs.drop k)))
theorem mt_insert : MtM X "list.insert" rInsert := by
  intro pins s σ H x vs v us Q I rx rv h
  obtain ⟨l, xs, k, y, rfl, rfl, hH, hk, hz1, q⟩ := h
  cases rx
  obtain ⟨u1, u2, rfl, ru1, ru2⟩ : ∃ u1 u2, us = [u1, u2] ∧ RelV (.int (k : Int)) u1 ∧ RelV y u2 := by
    cases rv with
    | cons r1 t => cases t with
      | cons r2 t2 => cases t2; exact ⟨_, _, rfl, r1, r2⟩
  obtain ⟨t, rfl⟩ := ru1
  obtain ⟨z, its, n, r, hl, e⟩ := I.lstM hH
  have hs : sizeLine = 16777216 := sizeLine_eq
  obtain ⟨i, hi⟩ : ∃ i : Int, i = (k : Int) := ⟨_, rfl⟩
  rw [← hi]
  have fi : Builtin.List.listFitsIndex i = true := fitsIndex_both (by omega) (by omega)
  have zi : its.toArray.size ≤ sizeLine := by rw [List.size_toArray]; omega
  refine call_meets PySem.F.slot_list_insert ⟨_, e, rfl⟩ PySem.F.entry_list_insert (PySem.F.args_list_insert_3 _ _ _) (PySem.AutoSeq1.list_insert_list_int_val_1 l its.toArray n i t u2 (by simp [fi]) zi) ⟨e, ?_⟩
  refine ⟨.non, _, I.lset (its' := its.take k ++ u2 :: its.drop k) hH e ?_ ((r.take k).append (.cons ru2 (r.drop k))) ?_, rfl, q⟩
  · have kk : (if i < 0 then (i + (its.toArray.size : Int)).toNat else min i.toNat its.toArray.size) = k := by
      rw [if_neg (by omega), hi, Int.toNat_natCast, List.size_toArray]
      omega
    show (its.toArray.extract 0 (if i < 0 then (i + (its.toArray.size : Int)).toNat else min i.toNat its.toArray.size)).push u2 ++ its.toArray.extract (if i < 0 then (i + (its.toArray.size : Int)).toNat else min i.toNat its.toArray.size) = _
    rw [kk]
    apply Array.ext'
    simp
    exact List.take_of_length_le (by rw [List.length_drop]; exact Nat.le_refl _)
  · rw [List.length_append, List.length_cons, List.length_take, List.length_drop]
    omega
end
section
variable {X : Cx} {e : Expr} {te : TE} {p p2 pos pos2 : Pos}
end
end L2
namespace L2
open PySem PySem.W PySem.Spec PyProof.Rows
section
variable {prog : Program} {w : World} {A : Around} {E : Value → Shared → Prop} {s : Shared}
end
section
variable {prog : Program} {w : World} {A : Around} {E : Value → Shared → Prop} {s : Shared}
end
section
variable {X : Cx} {e e2 : Expr} {te te2 : TE} {p p2 p3 pos pos2 pos3 pos4 : Pos}
end
end L2
set_option maxHeartbeats 4000000
namespace Law
open PySem L2
def spLaw (K : PySem.W.Frag) (P : Addr) : Sp := fun vs H Q _ => ∃ (p : Addr) (ns : List Int), vs = [.ref p] ∧ SqL K H p (ns.map V.int) ∧ ns.length ≤ 63 ∧ H P = some (.tbl #[]) ∧ ∀ H', Q (.bl true) H'
def spWhole : Sp := fun vs H Q _ => ∃ c : Int, vs = [.int c] ∧ Q (.bl true) H
theorem same_new {H : Hp} {p : Addr} (h : H p = none) (o : HO) : Same H (upd H p o) := fun b u q => by rw [upd_ne (ne_of_none q h)]; exact q
theorem fmod_in (x : Int) {y : Int} (h : 0 < y) : 0 ≤ x.fmod y ∧ x.fmod y < y := ⟨Int.fmod_nonneg_of_pos x h, Int.fmod_lt_of_pos x h⟩
theorem sz_fmod (x : Int) {y : Int} {n : Nat} (h : 0 < y) (k : Sz n y) : Sz n (x.fmod y) := by
  have e := fmod_in x h
  unfold Sz at k ⊢
  omega
def lamPos : Pos := ⟨33, 32, 33, 55⟩
def lamQ : Str := ("reached_from" : Str) ++ ".<locals>." ++ "<lambda>"
def bit (m : Int) (i : Nat) : Bool := decide (m / 2 ^ i % 2 = 1)
def msum : Nat → (Nat → Bool) → Int
  | 0, _ => 0
  | n + 1, f => (if f 0 = true then 1 else 0) + 2 * msum n (fun i => f (i + 1))
theorem bit_half (s : Int) (i : Nat) : bit (s / 2) i = bit s (i + 1) := by
  unfold bit
  rw [Int.ediv_ediv_of_nonneg (by decide : (0 : Int) ≤ 2)]
  have e : (2 : Int) * 2 ^ i = 2 ^ (i + 1) := by rw [Int.pow_succ, Int.mul_comm]
  rw [e]
theorem bit_zero (s : Int) : bit s 0 = decide (s % 2 = 1) := by
  unfold bit
  rw [Int.pow_zero, Int.ediv_one]
theorem msum_nonneg : ∀ n f, 0 ≤ msum n f
  | 0, _ => Int.le_refl _
  | n + 1, f => by
    have := msum_nonneg n (fun i => f (i + 1))
    show 0 ≤ (if f 0 = true then (1 : Int) else 0) + 2 * msum n (fun i => f (i + 1))
    split <;> omega
theorem msum_lt : ∀ n f, msum n f < 2 ^ n
  | 0, _ => by show (0 : Int) < 1; decide
  | n + 1, f => by
    have := msum_lt n (fun i => f (i + 1))
    show (if f 0 = true then (1 : Int) else 0) + 2 * msum n (fun i => f (i + 1)) < 2 ^ (n + 1)
    rw [Int.pow_succ]
    split <;> omega
theorem msum_half (n f) : msum (n + 1) f / 2 = msum n (fun i => f (i + 1)) := by
  show ((if f 0 = true then (1 : Int) else 0) + 2 * msum n (fun i => f (i + 1))) / 2 = _
  split <;> omega
theorem msum_odd (n f) : (msum (n + 1) f % 2 = 1) ↔ f 0 = true := by
  show (((if f 0 = true then (1 : Int) else 0) + 2 * msum n (fun i => f (i + 1))) % 2 = 1) ↔ _
  split <;> rename_i h
  · exact ⟨fun _ => h, fun _ => by omega⟩
  · exact ⟨fun e => by omega, fun e => absurd e h⟩
theorem msum_congr : ∀ n {f g : Nat → Bool}, (∀ i, i < n → f i = g i) → msum n f = msum n g
  | 0, _, _, _ => rfl
  | n + 1, f, g, h => by
    show (if f 0 = true then (1 : Int) else 0) + 2 * msum n (fun i => f (i + 1)) = (if g 0 = true then (1 : Int) else 0) + 2 * msum n (fun i => g (i + 1))
    rw [h 0 (by omega), msum_congr n (f := fun i => f (i + 1)) (g := fun i => g (i + 1)) fun i hi => h (i + 1) (by omega)]
theorem msum_succ : ∀ n f, msum (n + 1) f = msum n f + (if f n = true then 2 ^ n else 0)
  | 0, f => by
    show (if f 0 = true then (1 : Int) else 0) + 2 * 0 = 0 + (if f 0 = true then (1 : Int) else 0)
    split <;> decide
  | n + 1, f => by
    show (if f 0 = true then (1 : Int) else 0) + 2 * msum (n + 1) (fun i => f (i + 1)) = (if f 0 = true then (1 : Int) else 0) + 2 * msum n (fun i => f (i + 1)) + (if f (n + 1) = true then 2 ^ (n + 1) else 0)
    rw [msum_succ n (fun i => f (i + 1)), Int.pow_succ]
    split <;> split <;> omega
theorem bit_msum : ∀ n f i, bit (msum n f) i = (decide (i < n) && f i)
  | 0, f, i => by
    unfold bit
    show decide ((0 : Int) / 2 ^ i % 2 = 1) = _
    rw [Int.zero_ediv]
    rfl
  | n + 1, f, 0 => by
    rw [bit_zero]
    by_cases h : f 0 = true
    · rw [decide_eq_true ((msum_odd n f).mpr h), h]; rfl
    · rw [decide_eq_false (fun e => h ((msum_odd n f).mp e)), Bool.eq_false_iff.mpr h]; rfl
  | n + 1, f, i + 1 => by
    rw [← bit_half, msum_half, bit_msum n]
    have : decide (i < n) = decide (i + 1 < n + 1) := by
      by_cases h : i < n
      · rw [decide_eq_true h, decide_eq_true (by omega)]
      · rw [decide_eq_false h, decide_eq_false (by omega)]
    rw [this]
theorem and_msum : ∀ n f s, Builtin.bitAnd (msum n f) s = msum n (fun i => f i && bit s i)
  | 0, f, s => by
    show Builtin.bitAnd 0 s = 0
    rw [PyProof.Rows.bitAnd_comm, PyProof.Rows.bitAnd_zero]
  | n + 1, f, s => by
    rw [PySem.W.kbt_halves, msum_half, and_msum n]
    show _ = (if (f 0 && bit s 0) = true then (1 : Int) else 0) + 2 * msum n (fun i => f (i + 1) && bit s (i + 1))
    have e : msum n (fun i => f (i + 1) && bit (s / 2) i) = msum n (fun i => f (i + 1) && bit s (i + 1)) := msum_congr n fun i _ => by rw [bit_half]
    rw [e]
    have c : (msum (n + 1) f % 2 = 1 ∧ s % 2 = 1) ↔ (f 0 && bit s 0) = true := by
      rw [Bool.and_eq_true, msum_odd, bit_zero, decide_eq_true_eq]
    by_cases h : (f 0 && bit s 0) = true
    · rw [if_pos h, if_pos (c.mpr h)]; omega
    · rw [if_neg h, if_neg (fun z => h (c.mp z))]; omega
theorem msum_zero {n : Nat} {f : Nat → Bool} (h : ∀ i, i < n → f i = false) : msum n f = 0 := by
  induction n with
  | zero => rfl
  | succ n ih =>
    rw [msum_succ, h n (by omega), ih fun i hi => h i (by omega)]
    rfl
theorem msum_ne {n : Nat} {f : Nat → Bool} {i : Nat} (hi : i < n) (h : f i = true) : msum n f ≠ 0 := by
  intro e
  have := bit_msum n f i
  rw [e, h, decide_eq_true hi] at this
  unfold bit at this
  rw [Int.zero_ediv] at this
  exact absurd this (by decide)
def hands (n : Nat) (f : Nat → Bool) : List Int := ((List.range n).filter f).map fun i : Nat => (i : Int)
theorem hands_succ (n : Nat) (f : Nat → Bool) : hands (n + 1) f = if f n = true then hands n f ++ [(n : Int)] else hands n f := by
  unfold hands
  rw [List.range_succ, List.filter_append, List.map_append]
  by_cases h : f n = true
  · rw [if_pos h]; simp [h]
  · rw [if_neg h]
    have h' : f n = false := by simpa using h
    simp [h']
theorem hands_len (n : Nat) (f : Nat → Bool) : (hands n f).length ≤ n := by
  unfold hands
  rw [List.length_map]
  exact Nat.le_trans (List.length_filter_le _ _) (by simp)
theorem hands_mem {n : Nat} {f : Nat → Bool} {z : Int} : z ∈ hands n f ↔ ∃ i : Nat, i < n ∧ f i = true ∧ z = (i : Int) := by
  unfold hands
  rw [List.mem_map]
  constructor
  · rintro ⟨i, hi, rfl⟩
    obtain ⟨h1, h2⟩ := List.mem_filter.mp hi
    exact ⟨i, List.mem_range.mp h1, h2, rfl⟩
  · rintro ⟨i, h1, h2, rfl⟩
    exact ⟨i, List.mem_filter.mpr ⟨List.mem_range.mpr h1, h2⟩, rfl⟩
def bsum (hs : List Int) : Int := (hs.map fun h => (1 : Int) * 2 ^ h.toNat).sum
theorem bsum_hands : ∀ n f, bsum (hands n f) = msum n f
  | 0, f => rfl
  | n + 1, f => by
    rw [hands_succ, msum_succ]
    by_cases h : f n = true
    · rw [if_pos h, if_pos h]
      unfold bsum
      rw [List.map_append, List.sum_append]
      have := bsum_hands n f
      unfold bsum at this
      rw [this]
      simp
    · rw [if_neg h, if_neg h, bsum_hands n f]
      omega
def ins (x : Int) : List Int → List Int
  | [] => [x]
  | y :: r => if x < y then x :: y :: r else if x = y then y :: r else y :: ins x r
def sset : List Int → List Int
  | [] => []
  | x :: r => ins x (sset r)
theorem ins_mem {x z : Int} : ∀ {l : List Int}, z ∈ ins x l ↔ z = x ∨ z ∈ l
  | [] => by unfold ins; simp
  | y :: r => by
    unfold ins
    split
    · simp
    · split
      · rename_i h; subst h; simp
      · rw [List.mem_cons, ins_mem (l := r), List.mem_cons]
        constructor
        · rintro (h | h | h)
          · exact .inr (.inl h)
          · exact .inl h
          · exact .inr (.inr h)
        · rintro (h | h | h)
          · exact .inr (.inl h)
          · exact .inl h
          · exact .inr (.inr h)
theorem ins_rise {x : Int} : ∀ {l : List Int}, l.Pairwise (· < ·) → (ins x l).Pairwise (· < ·)
  | [], _ => by unfold ins; simp
  | y :: r, h => by
    unfold ins
    rw [List.pairwise_cons] at h
    split
    · rename_i c
      rw [List.pairwise_cons]
      refine ⟨fun z hz => ?_, List.pairwise_cons.mpr h⟩
      rcases List.mem_cons.mp hz with e | e
      · omega
      · have := h.1 z e; omega
    · split
      · exact List.pairwise_cons.mpr h
      · rename_i c d
        rw [List.pairwise_cons]
        refine ⟨fun z hz => ?_, ins_rise h.2⟩
        rcases ins_mem.mp hz with e | e
        · omega
        · exact h.1 z e
theorem sset_mem {z : Int} : ∀ {l : List Int}, z ∈ sset l ↔ z ∈ l
  | [] => Iff.rfl
  | x :: r => by
    show z ∈ ins x (sset r) ↔ _
    rw [ins_mem, sset_mem, List.mem_cons]
theorem sset_rise : ∀ l : List Int, (sset l).Pairwise (· < ·)
  | [] => .nil
  | x :: r => ins_rise (sset_rise r)
theorem rise_uniq : ∀ {a b : List Int}, a.Pairwise (· < ·) → b.Pairwise (· < ·) → (∀ z, z ∈ a ↔ z ∈ b) → a = b
  | [], [], _, _, _ => rfl
  | [], y :: b, _, _, h => nomatch (h y).mpr (List.mem_cons_self ..)
  | x :: a, [], _, _, h => nomatch (h x).mp (List.mem_cons_self ..)
  | x :: a, y :: b, ha, hb, h => by
    rw [List.pairwise_cons] at ha hb
    have e : x = y := by
      rcases List.mem_cons.mp ((h x).mp (List.mem_cons_self ..)) with e | e
      · exact e
      · rcases List.mem_cons.mp ((h y).mpr (List.mem_cons_self ..)) with f | f
        · exact f.symm
        · have := ha.1 y f
          have := hb.1 x e
          omega
    subst e
    rw [rise_uniq ha.2 hb.2 fun z => ?_]
    constructor
    · intro hz
      rcases List.mem_cons.mp ((h z).mp (List.mem_cons_of_mem _ hz)) with e | e
      · have := ha.1 z hz; omega
      · exact e
    · intro hz
      rcases List.mem_cons.mp ((h z).mpr (List.mem_cons_of_mem _ hz)) with e | e
      · have := hb.1 z hz; omega
      · exact e
theorem sset_of {ms ns : List Int} (h : ms.Pairwise (· < ·)) (m : ∀ z, z ∈ ms ↔ z ∈ ns) : ms = sset ns := rise_uniq h (sset_rise ns) fun z => (m z).trans sset_mem.symm
theorem sset_len : ∀ l : List Int, (sset l).length ≤ l.length
  | [] => Nat.le_refl _
  | x :: r => by
    have ih := sset_len r
    have : ∀ l : List Int, (ins x l).length ≤ l.length + 1 := by
      intro l
      induction l with
      | nil => exact Nat.le_refl _
      | cons y l ihl =>
        unfold ins
        split
        · exact Nat.le_refl _
        · split
          · exact Nat.le_succ _
          · exact Nat.succ_le_succ ihl
    exact Nat.le_trans (this (sset r)) (Nat.succ_le_succ ih)
def isR (rs : List Int) (r : Int) (i : Nat) : Bool := decide (rs[i]? = some r)
def tierOf (rs : List Int) (r : Int) : Int := msum rs.length (isR rs r)
def tiersOf (rs : List Int) : List Int := ((sset rs).filter fun r => decide (0 < r)).map (tierOf rs)
def spC40 (K : PySem.W.Frag) : Sp := fun vs H Q _ => ∃ (p : Addr) (ns : List Int) (k : Int), vs = [.ref p, .int k] ∧ SqL K H p (ns.map V.int) ∧ ns.length ≤ 63 ∧ 0 ≤ k ∧ k ≤ 1000 ∧ ∀ z : Int, 0 ≤ z → z < 10 ^ 40 → Q (.int z) H
def spMixed : Sp := fun vs H Q _ => ∃ c b : Int, vs = [.int c, .int b] ∧ Sz 200 c ∧ Sz 64 b ∧ ∀ z : Int, 0 ≤ z → z < 10 ^ 18 → Q (.int z) H
theorem sz40 {c : Int} (h0 : 0 ≤ c) (h : c < 10 ^ 40) : Sz 200 c := sz_of (by omega) (by omega)
theorem sz18 {c : Int} (h0 : 0 ≤ c) (h : c < 10 ^ 18) : Sz 64 c := sz_of (by omega) (by omega)
theorem mix_end (x : Int) : 0 ≤ (x.fmod ((10 : Int) ^ (18 : Int).toNat + 3)).fdiv 7 ∧ (x.fmod ((10 : Int) ^ (18 : Int).toNat + 3)).fdiv 7 < 10 ^ 18 := by
  have h := fmod_in x (show (0 : Int) < (10 : Int) ^ (18 : Int).toNat + 3 by decide)
  generalize x.fmod ((10 : Int) ^ (18 : Int).toNat + 3) = y at h ⊢
  rw [Int.fdiv_eq_ediv_of_nonneg y (by decide)]
  have e : (10 : Int) ^ (18 : Int).toNat = 1000000000000000000 := by decide
  rw [e] at h
  omega
theorem same_upd {H H' : Hp} {l : Addr} {o : HO} (s : Same H H') (n : H l = none) : Same H (upd H' l o) := fun b u e => by
  rw [upd_ne (ne_of_none e n)]
  exact s b u e
theorem ifT {c : Bool} {A B : Prop} (e : c = true) (h : A) : if c = true then A else B := by rw [if_pos e]; exact h
theorem ifF {c : Bool} {A B : Prop} (e : c = false) (h : B) : if c = true then A else B := by rw [if_neg (by rw [e]; decide)]; exact h
theorem ne_t {a b : Int} (h : a ≠ b) : (!decide (V.int a = V.int b)) = true := by rw [decide_eq_false (fun e => h (V.int.inj e))]; rfl
theorem ne_f {a b : Int} (h : a = b) : (!decide (V.int a = V.int b)) = false := by rw [h, decide_eq_true rfl]; rfl
theorem eq_t {a b : Int} (h : a = b) : decide (V.int a = V.int b) = true := by rw [h]; exact decide_eq_true rfl
theorem eq_f {a b : Int} (h : a ≠ b) : decide (V.int a = V.int b) = false := decide_eq_false fun e => h (V.int.inj e)
theorem int_at {ns : List Int} {i : Nat} {x : V} (h : (ns.map V.int)[i]? = some x) : ∃ z, ns[i]? = some z ∧ x = .int z := by
  rw [List.getElem?_map] at h
  cases e : ns[i]? with
  | none => rw [e] at h; cases h
  | some z => rw [e] at h; exact ⟨z, rfl, (Option.some.inj h).symm⟩
theorem atN {ns : List Int} {i : Nat} {z : Int} (h : ns[i]? = some z) : atI (ns.map V.int) (i : Int) = some (.int z) := atI_nat (by rw [List.getElem?_map, h]; rfl)
theorem pow_small {h : Nat} (hh : h < 64) : CPow 1 (h : Int) := ⟨by omega, by omega, by decide⟩
theorem and1 (x : Int) : Builtin.bitAnd x 1 = x % 2 := PySem.W.kbt_mask x 1
theorem holds_bit (m : Int) (h : Int) : decide (V.int (Builtin.bitAnd (m / 2 ^ h.toNat) 1) = V.int 1) = bit m h.toNat := by
  unfold bit
  rw [and1]
  by_cases c : m / 2 ^ h.toNat % 2 = 1
  · rw [decide_eq_true c, decide_eq_true (congrArg V.int c)]
  · rw [decide_eq_false c, decide_eq_false fun e => c (V.int.inj e)]
theorem mod_bit (m : Int) (i : Nat) : m / 2 ^ i % 2 = if bit m i = true then 1 else 0 := by
  have e : m / 2 ^ i % 2 = 0 ∨ m / 2 ^ i % 2 = 1 := by omega
  unfold bit
  rcases e with e | e
  · rw [e]; rfl
  · rw [e]; rfl
theorem more_is (m : Int) (h : Nat) : Builtin.bitOr m (1 * 2 ^ h) = m + 2 ^ h * (if (!bit m h) = true then 1 else 0) := by
  rw [Int.one_mul, PyProof.Rows.bitOr_and, PySem.W.kbt_bit, mod_bit]
  cases bit m h <;> simp
def spAll : Sp := fun vs H Q _ => ∃ h : Int, vs = [.int h] ∧ 0 ≤ h ∧ h ≤ 12 ∧ Q (.int (1 * 2 ^ h.toNat - 1)) H
def spWith : Sp := fun vs H Q _ => ∃ m h : Int, vs = [.int m, .int h] ∧ 0 ≤ h ∧ h < 12 ∧ Q (.int (Builtin.bitOr m (1 * 2 ^ h.toNat))) H
def spMembers : Sp := fun vs H Q _ => ∃ m : Int, vs = [.int m] ∧ 0 ≤ m ∧ m < 4096 ∧ ∀ (p : Addr) (H' : Hp), H p = none → Same H H' → H' p = some (.lst ((hands 12 (bit m)).map V.int)) → Q (.ref p) H'
abbrev Tb := List (Addr × List Int)
def vtb (t : Tb) : List V := t.map fun r => .ref r.1
def GoodT (H : Hp) (t : Tb) (h : Nat) : Prop := t.length = h ∧ ∀ r ∈ t, H r.1 = some (.lst (r.2.map V.int)) ∧ r.2.length = h
def ups (n : Nat) : List Int := (List.range n).map fun i : Nat => (i : Int)
def spHandsOf : Sp := fun vs H Q _ => ∃ (a : Addr) (t : Tb) (h : Nat), vs = [.ref a] ∧ H a = some (.lst (vtb t)) ∧ t.length = h ∧ h ≤ 12 ∧ ∀ (l : Addr) (H' : Hp), H l = none → Same H H' → H' l = some (.lst ((ups h).map V.int)) → Q (.ref l) H'
theorem atG {xs : List Int} {n : Nat} (h : n < xs.length) : atI (xs.map V.int) (n : Int) = some (.int (xs.getD n 0)) := by
  refine atN ?_
  rw [List.getD_eq_getElem?_getD, List.getElem?_eq_getElem h]
  rfl
theorem ups_at {n i : Nat} {z : Int} (h : (ups n)[i]? = some z) : z = (i : Int) ∧ i < n := by
  unfold ups at h
  rw [List.getElem?_map] at h
  obtain ⟨j, hj, rfl⟩ := Option.map_eq_some_iff.mp h
  have hi : i < n := by
    have := (List.getElem?_eq_some_iff.mp hj).1
    rwa [List.length_range] at this
  rw [List.getElem?_range hi] at hj
  exact ⟨by rw [← Option.some.inj hj], hi⟩
theorem ups_len (n : Nat) : (ups n).length = n := by unfold ups; rw [List.length_map, List.length_range]
def placeI (rs : List Int) (i : Nat) : Int := if rs.getD i 0 = 0 then 1000000000 else rs.getD i 0
abbrev Vo := List (Addr × Addr × List Int × Int)
def vvo (vo : Vo) : List V := vo.map fun q => .ref q.1
def GoodV (h : Nat) (H : Hp) (vo : Vo) : Prop := ∀ q ∈ vo, H q.1 = some (.tup [.ref q.2.1, .int q.2.2.2]) ∧ H q.2.1 = some (.lst (q.2.2.1.map V.int)) ∧ q.2.2.1.length = h
theorem GoodV.same {h : Nat} {H H' : Hp} {vo : Vo} (s : Same H H') (g : GoodV h H vo) : GoodV h H' vo := fun q m => ⟨s _ _ (g q m).1, s _ _ (g q m).2.1, (g q m).2.2⟩
theorem vvo_get {vo : Vo} {i : Nat} {x : V} (h : (vvo vo)[i]? = some x) : ∃ q, vo[i]? = some q ∧ x = .ref q.1 ∧ q ∈ vo ∧ vo.take (i + 1) = vo.take i ++ [q] := by
  unfold vvo at h
  rw [List.getElem?_map] at h
  obtain ⟨q, hq, rfl⟩ := Option.map_eq_some_iff.mp h
  exact ⟨q, hq, rfl, List.mem_of_getElem? hq, by rw [List.take_add_one, hq]; rfl⟩
theorem vvo_len (vo : Vo) : (vvo vo).length = vo.length := List.length_map ..
def sumV (f : List Int → Bool) (vo : Vo) : Int := (vo.map fun q => if f q.2.2.1 = true then q.2.2.2 else 0).sum
theorem sumV_snoc (f : List Int → Bool) (a : Vo) (q : Addr × Addr × List Int × Int) : sumV f (a ++ [q]) = sumV f a + if f q.2.2.1 = true then q.2.2.2 else 0 := by
  unfold sumV
  rw [List.map_append, List.sum_append]
  show _ + (_ + 0) = _
  rw [Int.add_zero]
theorem seqAt {n j : Nat} (h : j < n) : seqIndex? (j : Int) n = some j := (ixN_seq (i := (j : Int)) (by unfold ixN; rw [if_pos (by omega)]; simp [h])).1
theorem map_erase {α β : Type} (f : α → β) : ∀ (l : List α) (k : Nat), (l.map f).eraseIdx k = (l.eraseIdx k).map f
  | [], _ => rfl
  | _ :: _, 0 => rfl
  | x :: l, k + 1 => by
    show f x :: (l.map f).eraseIdx k = f x :: (l.eraseIdx k).map f
    rw [map_erase f l k]
theorem out_perm : ∀ {b : List Int} {k : Nat} {y : Int}, b[k]? = some y → (y :: b.eraseIdx k).Perm b
  | x :: b, 0, y, h => by
    have : x = y := Option.some.inj h
    rw [this]
    exact List.Perm.refl _
  | x :: b, k + 1, y, h => by
    show (y :: x :: b.eraseIdx k).Perm (x :: b)
    exact (List.Perm.swap x y _).trans ((out_perm (b := b) (k := k) h).cons x)
theorem none_of {H H' : Hp} {a : Addr} (s : Same H H') (h : H' a = none) : H a = none := by
  cases e : H a with
  | none => rfl
  | some u => rw [s _ _ e] at h; cases h
theorem erase_perm {a b c : List Int} {k : Nat} {y : Int} (h : b[k]? = some y) (p : (a ++ b).Perm c) : (a ++ [y] ++ b.eraseIdx k).Perm c := by
  rw [List.append_assoc]
  exact (List.Perm.append_left a (out_perm h)).trans p
theorem div_in {z d : Int} (z0 : 0 ≤ z) (h : 1 ≤ d) (z1 : z < 10 ^ 18) : 0 ≤ z.fdiv d ∧ z.fdiv d < 10 ^ 18 := by
  have l := Int.fmod_def z d
  have m := fmod_in z (show 0 < d by omega)
  have a : 0 ≤ z.fdiv d := by
    rcases (by omega : 0 ≤ z.fdiv d ∨ z.fdiv d ≤ -1) with c | c
    · exact c
    · have := Int.mul_le_mul_of_nonneg_left c (show 0 ≤ d by omega)
      omega
  refine ⟨a, ?_⟩
  have := Int.mul_le_mul_of_nonneg_right h a
  omega
theorem div40 {z d : Int} (z0 : 0 ≤ z) (d1 : 1 ≤ d) (z1 : z < 10 ^ 40) : 0 ≤ z.fdiv d ∧ z.fdiv d < 10 ^ 40 := by
  rw [Int.fdiv_eq_ediv_of_nonneg _ (by omega)]
  exact ⟨Int.ediv_nonneg z0 (by omega), Int.lt_of_le_of_lt (Int.ediv_le_self _ z0) z1⟩
def spOrder51 : Sp := fun vs H Q _ => ∃ c h : Int, vs = [.int c, .int h] ∧ 0 ≤ c ∧ c < 10 ^ 40 ∧ 1 ≤ h ∧ h ≤ 12 ∧ ∀ (l : Addr) (ns : List Int) (H' : Hp), Same H H' → H' l = some (.lst (ns.map V.int)) → ns.Perm (ups h.toNat) → Q (.ref l) H'
theorem u1 {n : Nat} (h : n + 64 < cLine) : n + 1 < cLine := by omega
theorem bit_high {m : Int} {i : Nat} (h0 : 0 ≤ m) (h : m < 2 ^ i) : bit m i = false := by
  unfold bit
  rw [Int.ediv_eq_zero_of_lt h0 h]
  decide
theorem hands_more {m : Int} {k : Nat} (h0 : 0 ≤ m) (h : m < 2 ^ k) : ∀ d : Nat, hands (k + d) (bit m) = hands k (bit m)
  | 0 => rfl
  | d + 1 => by
    have p : (2 : Int) ^ k ≤ 2 ^ (k + d) := by
      have q : 2 ^ k ≤ 2 ^ (k + d) := Nat.pow_le_pow_right (by decide) (by omega)
      have e1 : ((2 ^ k : Nat) : Int) = (2 : Int) ^ k := by simp
      have e2 : ((2 ^ (k + d) : Nat) : Int) = (2 : Int) ^ (k + d) := by simp
      omega
    show hands ((k + d) + 1) (bit m) = hands k (bit m)
    rw [hands_succ, bit_high h0 (by omega), if_neg (by decide), hands_more h0 h d]
theorem bits_all {m : Int} (h0 : 0 ≤ m) (h : m < 4096) : hands (Builtin.Int.intBits m) (bit m) = hands 12 (bit m) := by
  have b : Builtin.Int.intBits m ≤ 12 := intBits_le_iff.mpr (by show m.natAbs < 4096; omega)
  have l : m.natAbs < 2 ^ Builtin.Int.intBits m := intBits_le_iff.mp (Nat.le_refl _)
  have l' : m < (2 : Int) ^ Builtin.Int.intBits m := by
    have e : ((2 ^ Builtin.Int.intBits m : Nat) : Int) = (2 : Int) ^ Builtin.Int.intBits m := by simp
    omega
  obtain ⟨d, hd⟩ : ∃ d, 12 = Builtin.Int.intBits m + d := ⟨12 - Builtin.Int.intBits m, by omega⟩
  rw [hd, hands_more h0 l' d]
abbrev Ls := List (Addr × Addr × List Int × Int)
def vls (ls : Ls) : List V := ls.map fun q => .ref q.1
def First (h : Nat) (ts : List Int) : Prop := ∃ rs : List Int, rs.length = h ∧ (∀ r ∈ rs, 0 ≤ r ∧ r ≤ 1000) ∧ ts = tiersOf rs
def GoodL (h : Nat) (H : Hp) (ls : Ls) : Prop := ∀ q ∈ ls, H q.1 = some (.tup [.ref q.2.1, .int q.2.2.2]) ∧ H q.2.1 = some (.tup (q.2.2.1.map V.int)) ∧ First h q.2.2.1
theorem GoodL.same {h : Nat} {H H' : Hp} {ls : Ls} (s : Same H H') (g : GoodL h H ls) : GoodL h H' ls := fun q m => ⟨s _ _ (g q m).1, s _ _ (g q m).2.1, (g q m).2.2⟩
theorem vls_get {ls : Ls} {i : Nat} {x : V} (h : (vls ls)[i]? = some x) : ∃ q, ls[i]? = some q ∧ x = .ref q.1 ∧ q ∈ ls ∧ ls.take (i + 1) = ls.take i ++ [q] := by
  unfold vls at h
  rw [List.getElem?_map] at h
  cases e : ls[i]? with
  | none => rw [e] at h; cases h
  | some q =>
    rw [e] at h
    refine ⟨q, rfl, (Option.some.inj h).symm, List.mem_of_getElem? e, ?_⟩
    rw [List.take_succ, e]
    rfl
theorem vls_len (ls : Ls) : (vls ls).length = ls.length := List.length_map ..
def spSlip (K : PySem.W.Frag) : Sp := fun vs H Q _ => ∃ (p : Addr) (rs : List Int), vs = [.ref p] ∧ SqL K H p (rs.map V.int) ∧ rs.length ≤ 12 ∧
  ∀ (t : Addr) (H' : Hp), H t = none → Same H H' → H' t = some (.tup ((tiersOf rs).map V.int)) → Q (.ref t) H'
def InR (h : Int) (rs : List Int) : Prop := (rs.length : Int) = h ∧ ∀ r ∈ rs, 0 ≤ r ∧ r ≤ 12
def spRanks51 : Sp := fun vs H Q _ => ∃ c h : Int, vs = [.int c, .int h] ∧ 0 ≤ c ∧ c < 10 ^ 18 ∧ 1 ≤ h ∧ h ≤ 12 ∧ ∀ (l : Addr) (rs : List Int) (H' : Hp), H l = none → Same H H' → H' l = some (.lst (rs.map V.int)) → InR h rs → Q (.ref l) H'
theorem tier_pos {rs : List Int} {r : Int} (m : r ∈ rs) : 0 < tierOf rs r := by
  obtain ⟨i, hi⟩ := List.getElem?_of_mem m
  have := msum_ne (f := isR rs r) (List.getElem?_eq_some_iff.mp hi).1 (by unfold isR; exact decide_eq_true hi)
  have := msum_nonneg rs.length (isR rs r)
  unfold tierOf
  omega
def allT (rs : List Int) (us : List Int) : List Int := us.map fun r => if 0 < r then tierOf rs r else 0
theorem allT_tiers {rs : List Int} : ∀ us : List Int, (∀ u ∈ us, u ∈ rs) → (allT rs us).filter (fun t => decide (0 < t)) = (us.filter fun r => decide (0 < r)).map (tierOf rs)
  | [], _ => rfl
  | u :: us, h => by
    have ih := allT_tiers us fun x m => h x (List.mem_cons_of_mem _ m)
    show ((if 0 < u then tierOf rs u else 0) :: allT rs us).filter _ = _
    by_cases c : 0 < u
    · rw [if_pos c, List.filter_cons_of_pos (p := fun t => decide (0 < t)) (decide_eq_true (tier_pos (h u (List.mem_cons_self ..)))), List.filter_cons_of_pos (p := fun r => decide (0 < r)) (decide_eq_true c), List.map_cons, ih]
    · rw [if_neg c, List.filter_cons_of_neg (p := fun t => decide (0 < t)) (by decide), List.filter_cons_of_neg (p := fun r => decide (0 < r)) (by show ¬ decide (0 < u) = true; rw [decide_eq_false c]; decide), ih]
def NumV (vo : Vo) : Prop := ∀ q ∈ vo, 1 ≤ q.2.2.2 ∧ q.2.2.2 ≤ 1000000000 ∧ ∀ r ∈ q.2.2.1, 0 ≤ r ∧ r ≤ 12
def NumK (vo : Vo) : Prop := ∀ q ∈ vo, 1 ≤ q.2.2.2 ∧ q.2.2.2 ≤ 20000000000 ∧ ∀ r ∈ q.2.2.1, 0 ≤ r ∧ r ≤ 1000
def spVotes51 (K : PySem.W.Frag) : Sp := fun vs H Q _ => ∃ (p : Addr) (ns : List Int) (a m h : Int), vs = [.ref p, .int a, .int m, .int h] ∧ SqL K H p (ns.map V.int) ∧ ns.length ≤ 63 ∧ a = 3 ∧ m = 12 ∧ 1 ≤ h ∧ h ≤ 12 ∧
  ∀ (l : Addr) (vo : Vo) (H' : Hp), Same H H' → H' l = some (.lst (vvo vo)) → vo.length ≤ 12 → GoodV h.toNat H' vo → NumV vo → Q (.ref l) H'
def GoodK (h : Nat) (kvs : List (List Key × V)) : Prop := ∀ q ∈ kvs, ∃ (ts : List Int) (n : Int), q = (ts.map Sum.inl, .int n) ∧ First h ts
theorem kv_map (ts : List Int) : (ts.map Sum.inl : List Key).map kV = ts.map V.int := by rw [List.map_map]; rfl
theorem goodK_put {h : Nat} {kvs : List (List Key × V)} {ts : List Int} {n : Int} (g : GoodK h kvs) (f : First h ts) : GoodK h (putK kvs (ts.map Sum.inl) (.int n)) := by
  intro q m
  unfold putK at m
  split at m
  · obtain ⟨p, pm, rfl⟩ := List.mem_map.mp m
    split
    · rename_i e
      exact ⟨ts, n, by rw [e], f⟩
    · exact g p pm
  · rcases List.mem_append.mp m with m | m
    · exact g q m
    · rw [List.mem_singleton.mp m]; exact ⟨ts, n, rfl, f⟩
theorem putK_len {κ : Type} [DecidableEq κ] (kvs : List (κ × V)) (k : κ) (v : V) : (putK kvs k v).length ≤ kvs.length + 1 := by
  unfold putK
  split
  · rw [List.length_map]; omega
  · rw [List.length_append]; exact Nat.le_refl _
theorem goodK_val {h : Nat} {kvs : List (List Key × V)} {k : List Key} {v : V} (g : GoodK h kvs) (e : valV kvs k = some v) : ∃ n : Int, v = .int n := by
  unfold valV at e
  cases c : kvs.find? fun kv => decide (kv.1 = k) with
  | none => rw [c] at e; cases e
  | some q =>
    rw [c] at e
    obtain ⟨ts, n, rfl, _⟩ := g q (List.mem_of_find?_eq_some c)
    exact ⟨n, (Option.some.inj e).symm⟩
theorem goodK_keys {h : Nat} : ∀ {kvs : List (List Key × V)}, GoodK h kvs → ∃ ks : List (List Int), kvs.map (·.1) = ks.map (List.map Sum.inl) ∧ ks.length = kvs.length ∧ ∀ ts ∈ ks, First h ts ∧ ∃ n : Int, valV kvs (ts.map Sum.inl) = some (.int n)
  | kvs, g => by
    have key : ∀ {l : List (List Key × V)}, (∀ q ∈ l, q ∈ kvs) → ∃ ks : List (List Int), l.map (·.1) = ks.map (List.map Sum.inl) ∧ ks.length = l.length ∧ ∀ ts ∈ ks, First h ts ∧ (ts.map Sum.inl : List Key) ∈ kvs.map (·.1) := by
      intro l
      induction l with
      | nil => intro _; exact ⟨[], rfl, rfl, fun _ m => nomatch m⟩
      | cons q r ih =>
        intro sub
        obtain ⟨ks, e1, e2, e3⟩ := ih fun p m => sub p (List.mem_cons_of_mem _ m)
        obtain ⟨ts, n, eq, f⟩ := g q (sub q (List.mem_cons_self ..))
        refine ⟨ts :: ks, by rw [List.map_cons, List.map_cons, e1, eq], by rw [List.length_cons, List.length_cons, e2], fun us m => ?_⟩
        rcases List.mem_cons.mp m with z | z
        · subst z
          exact ⟨f, List.mem_map.mpr ⟨q, sub q (List.mem_cons_self ..), by rw [eq]⟩⟩
        · exact e3 us z
    obtain ⟨ks, e1, e2, e3⟩ := key fun q m => m
    refine ⟨ks, e1, e2, fun ts m => ⟨(e3 ts m).1, ?_⟩⟩
    cases c : valV kvs (ts.map Sum.inl : List Key) with
    | none => exact absurd (e3 ts m).2 (valV_not c)
    | some v =>
      obtain ⟨n, rfl⟩ := goodK_val g c
      exact ⟨n, rfl⟩
def LowK (B : Int) (kvs : List (List Key × V)) : Prop := ∀ q ∈ kvs, ∀ n : Int, q.2 = .int n → 0 ≤ n ∧ n ≤ B
theorem LowK.put {B B' : Int} {kvs : List (List Key × V)} {k : List Key} {n : Int} (g : LowK B kvs) (h : B ≤ B') (n0 : 0 ≤ n) (n1 : n ≤ B') : LowK B' (putK kvs k (.int n)) := by
  intro q m z e
  unfold putK at m
  split at m
  · obtain ⟨p, pm, rfl⟩ := List.mem_map.mp m
    split at e
    · cases e; exact ⟨n0, n1⟩
    · have := g p pm z e
      omega
  · rcases List.mem_append.mp m with m | m
    · have := g q m z e
      omega
    · rw [List.mem_singleton.mp m] at e
      cases e
      exact ⟨n0, n1⟩
theorem LowK.val {B : Int} {kvs : List (List Key × V)} {k : List Key} {n : Int} (g : LowK B kvs) (e : valV kvs k = some (.int n)) : 0 ≤ n ∧ n ≤ B := by
  unfold valV at e
  obtain ⟨q, hq, e⟩ := Option.map_eq_some_iff.mp e
  exact g q (List.mem_of_find?_eq_some hq) n e
def tsum (f : List Int → Bool) (ds : List (List Int × Int)) : Int := (ds.map fun q => if f q.1 then q.2 else 0).sum
def dsL (ls : Ls) : List (List Int × Int) := ls.map fun q => (q.2.2.1, q.2.2.2)
theorem tsum_cons (f : List Int → Bool) (q : List Int × Int) (r : List (List Int × Int)) : tsum f (q :: r) = (if f q.1 then q.2 else 0) + tsum f r := by unfold tsum; rw [List.map_cons, List.sum_cons]
theorem sum_perm {a b : List Int} (p : a.Perm b) : a.sum = b.sum := by
  induction p with
  | nil => rfl
  | cons x _ ih => rw [List.sum_cons, List.sum_cons, ih]
  | swap x y l => rw [List.sum_cons, List.sum_cons, List.sum_cons, List.sum_cons]; omega
  | trans _ _ i j => rw [i, j]
def hv : V → Int
  | .int n => n
  | _ => 0
def toI : Key → Int
  | .inl z => z
  | .inr _ => 0
theorem toI_inl (ts : List Int) : (ts.map Sum.inl : List Key).map toI = ts := by rw [List.map_map]; exact List.map_id _
def dsK (kvs : List (List Key × V)) : List (List Int × Int) := kvs.map fun q => (q.1.map toI, hv q.2)
theorem tsum_append (f : List Int → Bool) (a b : List (List Int × Int)) : tsum f (a ++ b) = tsum f a + tsum f b := by
  unfold tsum; rw [List.map_append, List.sum_append]
theorem put_new {kvs : List (List Key × V)} {ts : List Int} {n : Int} (f : List Int → Bool) (e : valV kvs (ts.map Sum.inl : List Key) = none) : tsum f (dsK (putK kvs (ts.map Sum.inl) (.int n))) = tsum f (dsK kvs) + if f ts then n else 0 := by
  unfold putK
  rw [valV_any, e, if_neg (by decide)]
  unfold dsK
  rw [List.map_append, tsum_append]
  show _ + tsum f [((ts.map Sum.inl : List Key).map toI, n)] = _
  rw [toI_inl, tsum_cons]
  show _ + ((if f ts then n else 0) + 0) = _
  rw [Int.add_zero]
theorem put_map {k : List Key} {w : Int} (f : List Int → Bool) : ∀ {kvs : List (List Key × V)}, k ∉ kvs.map (·.1) → kvs.map (fun kv => if kv.1 = k then (kv.1, V.int w) else kv) = kvs
  | [], _ => rfl
  | q :: r, m => by
    rw [List.map_cons, put_map f (fun z => m (List.mem_cons_of_mem _ z)), if_neg (fun z => m (List.mem_cons.mpr (.inl z.symm)))]
theorem put_old {ts : List Int} {m n : Int} (f : List Int → Bool) : ∀ {kvs : List (List Key × V)}, (kvs.map (·.1)).Nodup → valV kvs (ts.map Sum.inl : List Key) = some (.int m) →
    tsum f (dsK (kvs.map fun kv => if kv.1 = (ts.map Sum.inl : List Key) then (kv.1, V.int (m + n)) else kv)) = tsum f (dsK kvs) + if f ts then n else 0
  | [], _, e => by cases e
  | q :: r, nd, e => by
    rw [List.map_cons, List.nodup_cons] at nd
    unfold valV at e
    rw [List.find?_cons] at e
    by_cases c : q.1 = (ts.map Sum.inl : List Key)
    · rw [decide_eq_true c] at e
      have eq : q.2 = .int m := Option.some.inj e
      rw [List.map_cons, put_map f (c ▸ nd.1), if_pos c]
      show tsum f ((q.1.map toI, m + n) :: dsK r) = tsum f ((q.1.map toI, hv q.2) :: dsK r) + _
      rw [tsum_cons, tsum_cons, c, toI_inl, eq]
      show (if f ts then m + n else 0) + _ = (if f ts then m else 0) + _ + _
      cases f ts
      · simp
      · simp; omega
    · rw [decide_eq_false c] at e
      rw [List.map_cons, if_neg c]
      show tsum f ((q.1.map toI, hv q.2) :: dsK _) = tsum f ((q.1.map toI, hv q.2) :: dsK r) + _
      rw [tsum_cons, tsum_cons, put_old f nd.2 e]
      omega
theorem put_sum {kvs : List (List Key × V)} {ts : List Int} {m n : Int} (f : List Int → Bool) (nd : (kvs.map (·.1)).Nodup) (e : valV kvs (ts.map Sum.inl : List Key) = some (.int m)) : tsum f (dsK (putK kvs (ts.map Sum.inl) (.int (m + n)))) = tsum f (dsK kvs) + if f ts then n else 0 := by
  unfold putK
  rw [valV_any, e, if_pos (show (some (V.int m)).isSome = true from rfl)]
  exact put_old f nd e
theorem nd_put {kvs : List (List Key × V)} {k : List Key} {v : V} (nd : (kvs.map (·.1)).Nodup) : ((putK kvs k v).map (·.1)).Nodup := by
  unfold putK
  split
  · rw [List.map_map, show ((fun x : List Key × V => x.1) ∘ fun kv => if kv.1 = k then (kv.1, v) else kv) = (·.1) from funext fun q => by show (if q.1 = k then (q.1, v) else q).1 = q.1; split <;> rfl]
    exact nd
  · rename_i c
    rw [List.map_append, List.nodup_append]
    refine ⟨nd, by simp, fun a ha b hb e => c ?_⟩
    have : b = k := by simpa using hb
    subst this
    subst e
    obtain ⟨q, qm, eq⟩ := List.mem_map.mp ha
    exact List.any_eq_true.mpr ⟨q, qm, decide_eq_true eq⟩
theorem val_in {kvs : List (List Key × V)} (nd : (kvs.map (·.1)).Nodup) {q : List Key × V} (m : q ∈ kvs) : valV kvs q.1 = some q.2 := by
  induction kvs with
  | nil => cases m
  | cons p r ih =>
    rw [List.map_cons, List.nodup_cons] at nd
    unfold valV
    rw [List.find?_cons]
    rcases List.mem_cons.mp m with rfl | m
    · rw [decide_eq_true rfl]; rfl
    · rw [decide_eq_false (show ¬ p.1 = q.1 from fun z => nd.1 (z ▸ List.mem_map.mpr ⟨q, m, rfl⟩))]
      exact ih nd.2 m
def nvK (kvs : List (List Key × V)) (ts : List Int) : Int := match valV kvs (ts.map Sum.inl : List Key) with
  | some (.int n) => n
  | _ => 0
theorem sorted_sum {kvs : List (List Key × V)} {ks : List (List Int)} (nd : (kvs.map (·.1)).Nodup) (e : kvs.map (·.1) = ks.map (List.map Sum.inl)) {us : List (List Int)} (p : us.Perm ks) (f : List Int → Bool) :
    tsum f (us.map fun ts => (ts, nvK kvs ts)) = tsum f (dsK kvs) := by
  have e2 : dsK kvs = ks.map fun ts => (ts, nvK kvs ts) := by
    have key : ∀ {l : List (List Key × V)} {js : List (List Int)}, (∀ q ∈ l, q ∈ kvs) → l.map (·.1) = js.map (List.map Sum.inl) → dsK l = js.map fun ts => (ts, nvK kvs ts) := by
      intro l
      induction l with
      | nil => intro js _ z; cases js with
        | nil => rfl
        | cons a b => cases z
      | cons q r ih =>
        intro js sub z
        cases js with
        | nil => cases z
        | cons a b =>
          rw [List.map_cons, List.map_cons] at z
          injection z with z1 z2
          show (q.1.map toI, hv q.2) :: dsK r = _
          rw [ih (fun q m => sub q (List.mem_cons_of_mem _ m)) z2, List.map_cons, z1, toI_inl]
          have v := val_in nd (sub q (List.mem_cons_self ..))
          rw [z1] at v
          unfold nvK
          rw [v]
          cases q.2 <;> rfl
    exact key (fun _ m => m) e
  rw [e2]
  unfold tsum
  exact sum_perm ((p.map _).map _)
def NumL (ls : Ls) : Prop := ∀ q ∈ ls, 0 ≤ q.2.2.2 ∧ q.2.2.2 ≤ 1000000000000
def spSheet51 : Sp := fun vs H Q _ => ∃ (l : Addr) (vo : Vo) (h : Nat), vs = [.ref l] ∧ H l = some (.lst (vvo vo)) ∧ GoodV h H vo ∧ vo.length ≤ 24 ∧ NumK vo ∧ h ≤ 12 ∧
  ∀ (b : Addr) (ls : Ls) (H' : Hp), Same H H' → H' b = some (.lst (vls ls)) → GoodL h H' ls → ls.length ≤ 60 → NumL ls → (∀ f, tsum f (dsL ls) = sumV (fun rs => f (tiersOf rs)) vo) → Q (.ref b) H'
theorem bit_not (t : Int) : ∀ i : Nat, bit (Builtin.bitNot t) i = !bit t i := by
  have key : ∀ (i : Nat) (t : Int), bit (-t - 1) i = !bit t i := by
    intro i
    induction i with
    | zero =>
      intro t
      rw [bit_zero, bit_zero]
      by_cases c : t % 2 = 1
      · rw [decide_eq_true c, decide_eq_false (by omega)]; rfl
      · rw [decide_eq_false c, decide_eq_true (by omega)]; rfl
    | succ i ih =>
      intro t
      rw [← bit_half, ← bit_half, show (-t - 1) / 2 = -(t / 2) - 1 from by omega]
      exact ih _
  intro i
  rw [show Builtin.bitNot t = -t - 1 from by unfold Builtin.bitNot; omega]
  exact key i t
theorem full_msum : ∀ h : Nat, (1 : Int) * 2 ^ h - 1 = msum h fun _ => true
  | 0 => rfl
  | h + 1 => by
    rw [msum_succ, ← full_msum h, if_pos rfl, Int.pow_succ]
    omega
theorem msum_4096 {h : Nat} (h12 : h ≤ 12) (f : Nat → Bool) : 0 ≤ msum h f ∧ msum h f < 4096 := by
  have a := msum_nonneg h f
  have b := msum_lt h f
  have q : 2 ^ h ≤ 2 ^ 12 := Nat.pow_le_pow_right (by decide) h12
  have e1 : ((2 ^ h : Nat) : Int) = (2 : Int) ^ h := by simp
  omega
def stp (s : (Nat → Bool) × (Nat → Nat → Int)) (t : Int) : (Nat → Bool) × (Nat → Nat → Int) := (fun y => s.1 y && !bit t y, fun x y => s.2 x y + if (bit t x && (s.1 y && !bit t y)) = true then 1 else 0)
def stT (ts : List Int) : (Nat → Bool) × (Nat → Nat → Int) := ts.foldl stp (fun _ => true, fun _ _ => 0)
theorem stT_snoc (ts : List Int) (t : Int) : stT (ts ++ [t]) = stp (stT ts) t := by unfold stT; rw [List.foldl_append]; rfl
theorem tier_bit {rs : List Int} {i : Nat} {c u : Int} (h : rs[i]? = some c) : bit (tierOf rs u) i = decide (c = u) := by
  obtain ⟨hi, _⟩ := List.getElem?_eq_some_iff.mp h
  unfold tierOf
  rw [bit_msum, decide_eq_true hi, Bool.true_and]
  unfold isR
  rw [h]
  by_cases e : c = u
  · rw [decide_eq_true e, decide_eq_true (by rw [e])]
  · rw [decide_eq_false e, decide_eq_false (fun z => e (Option.some.inj z))]
theorem st_tiers {rs : List Int} {x y : Nat} {a b : Int} (hx : rs[x]? = some a) (hy : rs[y]? = some b) : ∀ (us : List Int) (s : (Nat → Bool) × (Nat → Nat → Int)), us.Pairwise (· < ·) →
    ((us.map (tierOf rs)).foldl stp s).2 x y = s.2 x y + if s.1 y = true ∧ a ∈ us ∧ ¬ (b ∈ us ∧ b ≤ a) then 1 else 0
  | [], s, _ => by
    rw [if_neg (fun z => nomatch z.2.1)]
    exact (Int.add_zero _).symm
  | u :: us, s, pw => by
    rw [List.pairwise_cons] at pw
    rw [List.map_cons, List.foldl_cons, st_tiers hx hy us _ pw.2]
    unfold stp
    simp only [tier_bit hx, tier_bit hy, List.mem_cons]
    cases s.1 y with
    | false => simp
    | true =>
      by_cases c1 : a = u
      · have na : a ∉ us := fun m => by have := pw.1 a m; omega
        by_cases c2 : b = u
        · subst c1; subst c2; simp
        · have nb : ¬ (b ∈ us ∧ b ≤ a) := fun m => by have := pw.1 b m.1; omega
          subst c1
          simp [c2, na]
          intro mb
          have := pw.1 b mb
          omega
      · by_cases c2 : b = u
        · subst c2
          by_cases m : a ∈ us
          · have := pw.1 a m
            simp [c1, m]
            omega
          · simp [c1, m]
        · simp [c1, c2]
theorem ahead_place {rs : List Int} (hR : ∀ r ∈ rs, 0 ≤ r ∧ r ≤ 1000) {x y : Nat} (hx : x < rs.length) (hy : y < rs.length) : (stT (tiersOf rs)).2 x y = if placeI rs x < placeI rs y then 1 else 0 := by
  have ex := List.getElem?_eq_getElem hx
  have ey := List.getElem?_eq_getElem hy
  unfold stT tiersOf placeI
  rw [st_tiers ex ey _ _ ((sset_rise rs).filter _), List.getD_eq_getElem?_getD, List.getD_eq_getElem?_getD, ex, ey]
  have ma := List.getElem_mem hx
  have mb := List.getElem_mem hy
  obtain ⟨a0, a1⟩ := hR _ ma
  obtain ⟨b0, b1⟩ := hR _ mb
  have e : ∀ {c : Int}, c ∈ rs → (c ∈ (sset rs).filter (fun r => decide (0 < r)) ↔ 0 < c) := fun {c} m => by
    rw [List.mem_filter, sset_mem, decide_eq_true_eq]
    exact ⟨fun z => z.2, fun z => ⟨m, z⟩⟩
  simp only [e ma, e mb]
  show (0 : Int) + _ = _
  rw [Int.zero_add]
  show (if True ∧ 0 < rs[x] ∧ ¬ (0 < rs[y] ∧ rs[y] ≤ rs[x]) then (1 : Int) else 0) = if (if rs[x] = 0 then (1000000000 : Int) else rs[x]) < (if rs[y] = 0 then 1000000000 else rs[y]) then 1 else 0
  generalize rs[x] = a at *
  generalize rs[y] = b at *
  by_cases c1 : a = 0
  · rw [if_pos c1, if_neg (by omega)]
    by_cases c2 : b = 0
    · rw [if_pos c2, if_neg (by omega)]
    · rw [if_neg c2, if_neg (by omega)]
  · rw [if_neg c1]
    by_cases c2 : b = 0
    · rw [if_pos c2, if_pos ⟨trivial, by omega, by omega⟩, if_pos (by omega)]
    · rw [if_neg c2]
      by_cases c3 : a < b
      · rw [if_pos c3, if_pos ⟨trivial, by omega, by omega⟩]
      · rw [if_neg c3, if_neg (fun z => z.2.2 ⟨by omega, by omega⟩)]
def aheadB (x y : Nat) (ts : List Int) : Bool := decide ((stT ts).2 x y = 1)
theorem ahead_mul {h x y : Nat} {ts : List Int} (f : First h ts) (hx : x < h) (hy : y < h) (n : Int) : n * (stT ts).2 x y = if aheadB x y ts = true then n else 0 := by
  obtain ⟨rs, rl, hR, rfl⟩ := f
  unfold aheadB
  rw [ahead_place hR (by omega) (by omega)]
  by_cases c : placeI rs x < placeI rs y
  · rw [if_pos c, if_pos (by decide), Int.mul_one]
  · rw [if_neg c, if_neg (by decide), Int.mul_zero]
def TabF (H : Hp) (as : List Addr) (h : Nat) (F : Nat → Nat → Int) : Prop := as.length = h ∧ as.Nodup ∧ ∀ x a, as[x]? = some a → H a = some (.lst (((List.range h).map fun y => F x y).map V.int))
def putT (F : Nat → Nat → Int) (x y : Nat) (n : Int) : Nat → Nat → Int := fun x' y' => F x' y' + if x' = x ∧ y' = y then n else 0
theorem TabF.congr {H : Hp} {as : List Addr} {h : Nat} {F G : Nat → Nat → Int} (g : TabF H as h F) (e : ∀ x y, x < h → y < h → F x y = G x y) : TabF H as h G := by
  refine ⟨g.1, g.2.1, fun x a ha => ?_⟩
  have hx : x < h := by have := (List.getElem?_eq_some_iff.mp ha).1; have := g.1; omega
  rw [g.2.2 x a ha, show ((List.range h).map fun y => F x y) = (List.range h).map fun y => G x y from List.map_congr_left fun y m => e x y hx (List.mem_range.mp m)]
theorem TabF.put {H : Hp} {as : List Addr} {h : Nat} {F : Nat → Nat → Int} (g : TabF H as h F) {x y : Nat} {a : Addr} (ha : as[x]? = some a) (n : Int) : TabF (upd H a (.lst ((((List.range h).map fun y => F x y).map V.int).set y (.int (F x y + n))))) as h (putT F x y n) := by
  refine ⟨g.1, g.2.1, fun x' a' ha' => ?_⟩
  by_cases c : x' = x
  · subst c
    rw [ha] at ha'
    cases Option.some.inj ha'
    rw [upd_same]
    refine congrArg (fun z => some (HO.lst z)) (List.ext_getElem? fun k => ?_)
    rw [List.getElem?_set, List.length_map, List.length_map, List.length_range, List.getElem?_map, List.getElem?_map, List.getElem?_map, List.getElem?_map]
    by_cases ck : k < h
    · rw [List.getElem?_range ck]
      by_cases cy : y = k
      · subst cy
        rw [if_pos rfl, if_pos ck]
        show some (V.int (F x' y + n)) = some (V.int (putT F x' y n x' y))
        unfold putT
        rw [if_pos ⟨rfl, rfl⟩]
      · rw [if_neg cy]
        show some (V.int (F x' k)) = some (V.int (putT F x' y n x' k))
        unfold putT
        rw [if_neg (fun z => cy z.2.symm), Int.add_zero]
    · rw [List.getElem?_eq_none (l := List.range h) (by rw [List.length_range]; omega)]
      by_cases cy : y = k
      · subst cy
        rw [if_pos rfl, if_neg ck]; rfl
      · rw [if_neg cy]
        rfl
  · have ne : a' ≠ a := fun z => by
      subst z
      obtain ⟨l1, e1⟩ := List.getElem?_eq_some_iff.mp ha
      obtain ⟨l2, e2⟩ := List.getElem?_eq_some_iff.mp ha'
      exact c ((List.getElem_inj g.2.1).mp (e2.trans e1.symm))
    rw [upd_ne ne, g.2.2 x' a' ha', show ((List.range h).map fun y' => putT F x y n x' y') = (List.range h).map fun y' => F x' y' from List.map_congr_left fun y' _ => by unfold putT; rw [if_neg (fun z => c z.1), Int.add_zero]]
def Keep (as : List Addr) (H H' : Hp) : Prop := ∀ b o, b ∉ as → H b = some o → H' b = some o
theorem Keep.trans {as : List Addr} {H H' H2 : Hp} (a : Keep as H H') (b : Keep as H' H2) : Keep as H H2 := fun c o m e => b c o m (a c o m e)
theorem Keep.of {as : List Addr} {H H' : Hp} (s : Same H H') : Keep as H H' := fun c o _ e => s c o e
theorem Keep.put {as : List Addr} {H H' : Hp} {a : Addr} {o : HO} (k : Keep as H H') (m : a ∈ as) : Keep as H (upd H' a o) := fun c u n e => by
  rw [upd_ne (show c ≠ a from fun z => n (by rw [z]; exact m))]
  exact k c u n e
theorem Keep.same {as : List Addr} {H H1 H' : Hp} (k : Keep as H1 H') (s : Same H H1) (n : ∀ a ∈ as, H a = none) : Same H H' := fun b o e => k b o (fun m => by rw [n b m] at e; cases e) (s b o e)
theorem TabF.same {H H' : Hp} {as : List Addr} {h : Nat} {F : Nat → Nat → Int} (g : TabF H as h F) (s : Same H H') : TabF H' as h F := ⟨g.1, g.2.1, fun x a ha => s _ _ (g.2.2 x a ha)⟩
theorem TabF.row {H : Hp} {as : List Addr} {h : Nat} {F : Nat → Nat → Int} (g : TabF H as h F) {x : Nat} (hx : x < h) : ∃ a, as[x]? = some a ∧ a ∈ as ∧ atI (as.map V.ref) (x : Int) = some (.ref a) ∧ H a = some (.lst (((List.range h).map fun y => F x y).map V.int)) := by
  have hl : x < as.length := by rw [g.1]; exact hx
  refine ⟨as[x], List.getElem?_eq_getElem hl, List.getElem_mem hl, atI_nat (by rw [List.getElem?_map, List.getElem?_eq_getElem hl]; rfl), g.2.2 x _ (List.getElem?_eq_getElem hl)⟩
theorem row_cell {h : Nat} (F : Nat → Int) {y : Nat} (hy : y < h) : atI (((List.range h).map fun y => F y).map V.int) (y : Int) = some (.int (F y)) := atN (by rw [List.getElem?_map, List.getElem?_range hy]; rfl)
theorem hands_bits {h : Nat} (h12 : h ≤ 12) (f : Nat → Bool) {z : Int} : z ∈ hands 12 (bit (msum h f)) ↔ ∃ i : Nat, i < h ∧ f i = true ∧ z = (i : Int) := by
  rw [hands_mem]
  refine ⟨fun ⟨i, _, b, e⟩ => ?_, fun ⟨i, a, b, e⟩ => ⟨i, by omega, by rw [bit_msum, decide_eq_true a, b]; rfl, e⟩⟩
  rw [bit_msum, Bool.and_eq_true, decide_eq_true_eq] at b
  exact ⟨i, b.1, b.2, e⟩
theorem hands_nodup (n : Nat) (f : Nat → Bool) : (hands n f).Nodup := by
  unfold hands
  exact List.Pairwise.map _ (fun a b (ne : a ≠ b) e => ne (Int.ofNat.inj e)) (List.Pairwise.filter _ List.nodup_range)
theorem ixN_nat {n i : Nat} (h : i < n) : ixN n (i : Int) = some i := by
  unfold ixN
  rw [if_pos (by omega)]
  simp [h]
theorem TabF.not {H : Hp} {as : List Addr} {h : Nat} {F : Nat → Nat → Int} (g : TabF H as h F) {a : Addr} (e : H a = none) : a ∉ as := fun m => by
  obtain ⟨x, hx⟩ := List.getElem?_of_mem m
  rw [g.2.2 x a hx] at e
  cases e
theorem step_at {xs : List Int} (nd : xs.Nodup) {k : Nat} {z : Int} (hz : xs[k]? = some z) : xs.take (k + 1) = xs.take k ++ [z] ∧ z ∉ xs.take k := by
  have e : xs.take (k + 1) = xs.take k ++ [z] := by rw [List.take_add_one, hz]; rfl
  refine ⟨e, fun m => ?_⟩
  have n2 := (List.take_sublist (k + 1) xs).nodup nd
  rw [e, List.nodup_append] at n2
  exact n2.2.2 z m z (List.mem_singleton.mpr rfl) rfl
theorem tsum_snoc (f : List Int → Bool) (a : Ls) (q : Addr × Addr × List Int × Int) : tsum f (dsL (a ++ [q])) = tsum f (dsL a) + if f q.2.2.1 = true then q.2.2.2 else 0 := by
  unfold dsL
  rw [List.map_append, tsum_append]
  show _ + tsum f [(_, _)] = _
  rw [tsum_cons]
  show _ + (_ + 0) = _
  rw [Int.add_zero]
theorem first_tier {h : Nat} {ts : List Int} {t : Int} (h12 : h ≤ 12) (f : First h ts) (m : t ∈ ts) : ∃ g : Nat → Bool, t = msum h g := by
  obtain ⟨rs, rl, _, rfl⟩ := f
  unfold tiersOf at m
  obtain ⟨r, _, rfl⟩ := List.mem_map.mp m
  exact ⟨isR rs r, by unfold tierOf; rw [rl]⟩
theorem if_or {p q r : Prop} [Decidable p] [Decidable q] [Decidable r] (n z : Int) (e : r ↔ p ∨ q) (d : ¬ (p ∧ q)) : z + (if p then n else 0) + (if q then n else 0) = z + if r then n else 0 := by
  by_cases c1 : p
  · rw [if_pos c1, if_neg (fun c2 => d ⟨c1, c2⟩), if_pos (e.mpr (.inl c1)), Int.add_zero]
  · rw [if_neg c1, Int.add_zero]
    by_cases c2 : q
    · rw [if_pos c2, if_pos (e.mpr (.inr c2))]
    · rw [if_neg c2, if_neg (fun c3 => (e.mp c3).elim c1 c2)]
theorem mem_snoc {xs : List Int} {x x' : Nat} : (x' : Int) ∈ xs ++ [(x : Int)] ↔ (x' : Int) ∈ xs ∨ x' = x := by
  rw [List.mem_append, List.mem_singleton]
  exact or_congr Iff.rfl ⟨fun e => Int.ofNat.inj e, fun e => by rw [e]⟩
def spOvers51 : Sp := fun vs H Q _ => ∃ (l : Addr) (ls : Ls) (h : Nat), vs = [.ref l, .int (h : Int)] ∧ H l = some (.lst (vls ls)) ∧ GoodL h H ls ∧ ls.length ≤ 60 ∧ 1 ≤ h ∧ h ≤ 12 ∧ ∀ (b : Addr) (as : List Addr) (H' : Hp), H b = none → Same H H' → b ∉ as → (∀ a ∈ as, H a = none) → H' b = some (.lst (as.map V.ref)) → TabF H' as h (fun x y => tsum (aheadB x y) (dsL ls)) → Q (.ref b) H'
def duF (vo : Vo) (x y : Nat) : Int := sumV (fun rs => decide (placeI rs x < placeI rs y)) vo
def rowsF (h : Nat) (F : Nat → Nat → Int) : List (List Int) := (List.range h).map fun x => (List.range h).map fun y => F x y
theorem rows_at {h x : Nat} {F : Nat → Nat → Int} (hx : x < h) : (rowsF h F)[x]? = some ((List.range h).map fun y => F x y) := by
  unfold rowsF
  rw [List.getElem?_map, List.getElem?_range hx]
  rfl
theorem rows_len (h : Nat) (F : Nat → Nat → Int) : (rowsF h F).length = h := by unfold rowsF; rw [List.length_map, List.length_range]
def tbOf (as : List Addr) (h : Nat) (F : Nat → Nat → Int) : Tb := as.zip (rowsF h F)
theorem TabF.vtb {H : Hp} {as : List Addr} {h : Nat} {F : Nat → Nat → Int} (g : TabF H as h F) : vtb (tbOf as h F) = as.map V.ref := by
  unfold Law.vtb tbOf
  rw [show (fun r : Addr × List Int => V.ref r.1) = V.ref ∘ Prod.fst from rfl, ← List.map_map, List.map_fst_zip (by rw [g.1, rows_len]; exact Nat.le_refl _)]
theorem TabF.good {H : Hp} {as : List Addr} {h : Nat} {F : Nat → Nat → Int} (g : TabF H as h F) : GoodT H (tbOf as h F) h := by
  refine ⟨by unfold tbOf; rw [List.length_zip, g.1, rows_len, Nat.min_self], fun r m => ?_⟩
  obtain ⟨i, hi⟩ := List.getElem?_of_mem m
  unfold tbOf at hi
  rw [List.getElem?_zip_eq_some] at hi
  have hx : i < h := by have := (List.getElem?_eq_some_iff.mp hi.1).1; have := g.1; omega
  rw [rows_at hx] at hi
  rw [← Option.some.inj hi.2]
  exact ⟨g.2.2 i _ hi.1, by rw [List.length_map, List.length_range]⟩
theorem du_ahead {h x y : Nat} {H : Hp} : ∀ {vo : Vo}, GoodV h H vo → NumK vo → x < h → y < h → sumV (fun rs => aheadB x y (tiersOf rs)) vo = duF vo x y
  | [], _, _, _, _ => rfl
  | q :: r, g, n, hx, hy => by
    have ih := du_ahead (vo := r) (fun z m => g z (List.mem_cons_of_mem _ m)) (fun z m => n z (List.mem_cons_of_mem _ m)) hx hy
    have gl := (g q (List.mem_cons_self ..)).2.2
    have nr := (n q (List.mem_cons_self ..)).2.2
    unfold duF sumV at ih ⊢
    simp only [List.map_cons, List.sum_cons] at ih ⊢
    rw [ih]
    refine congrArg (· + _) ?_
    have e : aheadB x y (tiersOf q.2.2.1) = decide (placeI q.2.2.1 x < placeI q.2.2.1 y) := by
      unfold aheadB
      rw [ahead_place nr (by omega) (by omega)]
      by_cases c : placeI q.2.2.1 x < placeI q.2.2.1 y
      · rw [if_pos c, decide_eq_true c]; rfl
      · rw [if_neg c, decide_eq_false c]; rfl
    show (if aheadB x y (tiersOf q.2.2.1) = true then q.2.2.2 else 0) = if decide (placeI q.2.2.1 x < placeI q.2.2.1 y) = true then q.2.2.2 else 0
    rw [e]
structure Reach (h x : Nat) (L : Nat → Nat → Int) (be bf : List Int) : Prop where
  lenb : be.length = h
  lenf : bf.length = h
  own : be.getD x 0 = L x x
  low : ∀ y, y < h → y ≠ x → L x y ≤ be.getD y 0
  stab : ∀ d y, d < h → y < h → d ≠ x → y ≠ x → d ≠ y → min (be.getD d 0) (L d y) ≤ be.getD y 0
  par : ∃ rk : Nat → Nat, ∀ y, y < h → y ≠ x → ∃ p : Nat, p < h ∧ bf.getD y 0 = (p : Int) ∧ rk p < rk y ∧ (p = x → be.getD y 0 = L x y) ∧ (p ≠ x → be.getD y 0 = min (be.getD p 0) (L p y))
structure Dij (h x : Nat) (L : Nat → Nat → Int) (be bf left : List Int) (rk : Nat → Nat) : Prop where
  lenb : be.length = h
  lenf : bf.length = h
  nd : left.Nodup
  sub : ∀ z ∈ left, ∃ y : Nat, y < h ∧ y ≠ x ∧ z = (y : Int)
  own : be.getD x 0 = L x x
  low : ∀ y, y < h → y ≠ x → L x y ≤ be.getD y 0
  ord : ∀ d y : Nat, d < h → d ≠ x → (d : Int) ∉ left → (y : Int) ∈ left → be.getD y 0 ≤ be.getD d 0
  stab : ∀ d y : Nat, d < h → y < h → d ≠ x → y ≠ x → d ≠ y → (d : Int) ∉ left → min (be.getD d 0) (L d y) ≤ be.getD y 0
  rkc : ∀ d : Nat, d < h → (d : Int) ∉ left → rk d + left.length < h
  par : ∀ y, y < h → y ≠ x → ∃ p : Nat, p < h ∧ bf.getD y 0 = (p : Int) ∧ (p : Int) ∉ left ∧ ((y : Int) ∉ left → rk p < rk y) ∧ (p = x → be.getD y 0 = L x y) ∧ (p ≠ x → be.getD y 0 = min (be.getD p 0) (L p y))
theorem Dij.done {h x : Nat} {L : Nat → Nat → Int} {be bf : List Int} {rk : Nat → Nat} (g : Dij h x L be bf [] rk) : Reach h x L be bf :=
  ⟨g.lenb, g.lenf, g.own, g.low, fun d y h1 h2 h3 h4 h5 => g.stab d y h1 h2 h3 h4 h5 (by simp), rk, fun y h1 h2 => let ⟨p, a, b, _, c, d⟩ := g.par y h1 h2; ⟨p, a, b, c (by simp), d⟩⟩
def butX (h x : Nat) : List Int := ((List.range h).filter fun y => decide (y ≠ x)).map fun y : Nat => (y : Int)
theorem butX_mem {h x : Nat} {z : Int} : z ∈ butX h x ↔ ∃ y : Nat, y < h ∧ y ≠ x ∧ z = (y : Int) := by
  unfold butX
  simp only [List.mem_map, List.mem_filter, List.mem_range, decide_eq_true_eq]
  exact ⟨fun ⟨y, ⟨a, b⟩, e⟩ => ⟨y, a, b, e.symm⟩, fun ⟨y, a, b, e⟩ => ⟨y, ⟨a, b⟩, e.symm⟩⟩
theorem butX_nd (h x : Nat) : (butX h x).Nodup := by
  unfold butX
  exact List.Pairwise.map _ (fun a b (ne : a ≠ b) e => ne (Int.ofNat.inj e)) (List.Pairwise.filter _ List.nodup_range)
theorem nodup_len {xs ys : List Int} (n : xs.Nodup) (s : ∀ z ∈ xs, z ∈ ys) : xs.length ≤ ys.length := by
  induction xs generalizing ys with
  | nil => exact Nat.zero_le _
  | cons a r ih =>
    rw [List.nodup_cons] at n
    have ma := s a (List.mem_cons_self ..)
    have := ih (ys := ys.erase a) n.2 fun z mz => (List.mem_erase_of_ne (fun e => n.1 (by rw [← e]; exact mz))).mpr (s z (List.mem_cons_of_mem _ mz))
    rw [List.length_erase_of_mem ma] at this
    have := List.length_pos_of_mem ma
    rw [List.length_cons]
    omega
theorem butX_len {h x : Nat} (hx : x < h) : (butX h x).length < h := by
  have a := nodup_len (xs := (x : Int) :: butX h x) (ys := (List.range h).map fun y : Nat => (y : Int)) (List.nodup_cons.mpr ⟨fun m => by
    obtain ⟨y, _, n, e⟩ := butX_mem.mp m
    exact n (Int.ofNat.inj e).symm, butX_nd h x⟩) (fun z m => by
    rcases List.mem_cons.mp m with m | m
    · rw [m]; exact List.mem_map.mpr ⟨x, List.mem_range.mpr hx, rfl⟩
    · obtain ⟨y, a, _, e⟩ := butX_mem.mp m
      rw [e]; exact List.mem_map.mpr ⟨y, List.mem_range.mpr a, rfl⟩)
  rw [List.length_cons, List.length_map, List.length_range] at a
  omega
theorem Dij.start {h x : Nat} (hx : x < h) (L : Nat → Nat → Int) : Dij h x L ((List.range h).map fun y => L x y) (List.replicate h (x : Int)) (butX h x) fun _ => 0 := by
  have g : ∀ y, y < h → ((List.range h).map fun y => L x y).getD y 0 = L x y := fun y hy => by
    rw [List.getD_eq_getElem?_getD, List.getElem?_map, List.getElem?_range hy]; rfl
  have inn : ∀ d : Nat, d < h → d ≠ x → (d : Int) ∈ butX h x := fun d a b => butX_mem.mpr ⟨d, a, b, rfl⟩
  refine ⟨by simp, by simp, butX_nd h x, fun z m => butX_mem.mp m, g x hx, fun y hy _ => by rw [g y hy]; exact Int.le_refl _, fun d y a b c => absurd (inn d a b) c, fun d y a _ b _ _ c => absurd (inn d a b) c, fun d a _ => by have := butX_len hx; omega, fun y hy ny => ⟨x, hx, ?_, fun m => ?_, fun c => absurd (inn y hy ny) c, fun _ => g y hy, fun c => absurd rfl c⟩⟩
  · rw [List.getD_eq_getElem?_getD, List.getElem?_replicate, if_pos hy]; rfl
  · obtain ⟨y, _, n, e⟩ := butX_mem.mp m
    exact n (Int.ofNat.inj e).symm
def Upd (h t : Nat) (L : Nat → Nat → Int) (be bf zs be' bf' : List Int) : Prop := be'.length = h ∧ bf'.length = h ∧ ∀ y : Nat, y < h →
  ((y : Int) ∈ zs ∧ be.getD y 0 < min (be.getD t 0) (L t y) → be'.getD y 0 = min (be.getD t 0) (L t y) ∧ bf'.getD y 0 = (t : Int)) ∧
  (¬ ((y : Int) ∈ zs ∧ be.getD y 0 < min (be.getD t 0) (L t y)) → be'.getD y 0 = be.getD y 0 ∧ bf'.getD y 0 = bf.getD y 0)
theorem Dij.step {h x t : Nat} {L : Nat → Nat → Int} {be bf left be' bf' : List Int} {rk : Nat → Nat} (g : Dij h x L be bf left rk) (hx : x < h) (ht : (t : Int) ∈ left) (best : ∀ y : Nat, (y : Int) ∈ left → be.getD y 0 ≤ be.getD t 0)
    (u : Upd h t L be bf (left.erase (t : Int)) be' bf') : Dij h x L be' bf' (left.erase (t : Int)) fun y => if y = t then h - left.length else rk y := by
  obtain ⟨u1, u2, u3⟩ := u
  obtain ⟨t', th, tx, et⟩ := g.sub _ ht
  have ett : t = t' := Int.ofNat.inj et
  subst ett
  have mem : ∀ {z : Int}, z ∈ left.erase (t : Int) ↔ z ≠ (t : Int) ∧ z ∈ left := fun {z} => g.nd.mem_erase_iff
  have ge : ∀ y, y < h → be.getD y 0 ≤ be'.getD y 0 := fun y hy => by
    by_cases c : (y : Int) ∈ left.erase (t : Int) ∧ be.getD y 0 < min (be.getD t 0) (L t y)
    · rw [((u3 y hy).1 c).1]; omega
    · rw [((u3 y hy).2 c).1]; exact Int.le_refl _
  have out : ∀ y : Nat, y < h → (y : Int) ∉ left.erase (t : Int) → be'.getD y 0 = be.getD y 0 ∧ bf'.getD y 0 = bf.getD y 0 := fun y hy n => (u3 y hy).2 fun c => n c.1
  have nx : (x : Int) ∉ left := fun m => by
    obtain ⟨y, _, n, e⟩ := g.sub _ m
    exact n (Int.ofNat.inj e).symm
  have nt : (t : Int) ∉ left.erase (t : Int) := fun m => (mem.mp m).1 rfl
  have cut : ∀ {d : Nat}, (d : Int) ∉ left.erase (t : Int) → d = t ∨ (d : Int) ∉ left := fun {d} n => by
    by_cases c : d = t
    · exact .inl c
    · exact .inr fun m => n (mem.mpr ⟨fun e => c (Int.ofNat.inj e), m⟩)
  have hxlt : ∀ {y : Nat}, (y : Int) ∈ left → y < h ∧ y ≠ x := fun {y} m => by
    obtain ⟨y', a, b, e⟩ := g.sub _ m
    rw [show y = y' from Int.ofNat.inj e]; exact ⟨a, b⟩
  have len : (left.erase (t : Int)).length = left.length - 1 := List.length_erase_of_mem ht
  have pos := List.length_pos_of_mem ht
  refine ⟨u1, u2, g.nd.erase _, fun z m => g.sub z (mem.mp m).2, ?_, fun y hy ny => Int.le_trans (g.low y hy ny) (ge y hy), fun d y hd dx dn ym => ?_, fun d y hd hy dx yx dy dn => ?_, fun d hd dn => ?_, fun y hy yx => ?_⟩
  · rw [(out x hx fun m => nx (mem.mp m).2).1]; exact g.own
  · have ym' := mem.mp ym
    have yh := hxlt ym'.2
    rw [(out d hd dn).1]
    have bd : be.getD t 0 ≤ be.getD d 0 := by
      rcases cut dn with e | n
      · rw [e]; exact Int.le_refl _
      · exact g.ord d t hd dx n ht
    have by' := best y ym'.2
    by_cases c : (y : Int) ∈ left.erase (t : Int) ∧ be.getD y 0 < min (be.getD t 0) (L t y)
    · rw [((u3 y yh.1).1 c).1]; omega
    · rw [((u3 y yh.1).2 c).1]; omega
  · rw [(out d hd dn).1]
    have gy := ge y hy
    rcases cut dn with e | n
    · subst e
      by_cases c : (y : Int) ∈ left.erase (d : Int)
      · by_cases c2 : be.getD y 0 < min (be.getD d 0) (L d y)
        · rw [((u3 y hy).1 ⟨c, c2⟩).1]; exact Int.le_refl _
        · omega
      · rcases cut c with e | n
        · exact absurd e.symm dy
        · have := g.ord y d hy yx n ht
          omega
    · have := g.stab d y hd hy dx yx dy n
      omega
  · rw [len]
    rcases cut dn with e | n
    · show (if d = t then h - left.length else rk d) + _ < h
      rw [if_pos e]
      have := g.rkc x hx nx
      omega
    · show (if d = t then h - left.length else rk d) + _ < h
      rw [if_neg (fun e => n (by rw [e]; exact ht))]
      have := g.rkc d hd n
      omega
  · obtain ⟨p, hp, p1, p2, p3, p4, p5⟩ := g.par y hy yx
    by_cases c : (y : Int) ∈ left.erase (t : Int) ∧ be.getD y 0 < min (be.getD t 0) (L t y)
    · obtain ⟨c1, c2⟩ := (u3 y hy).1 c
      exact ⟨t, th, c2, nt, fun n => absurd c.1 n, fun e => absurd e tx, fun _ => by rw [c1, (out t th nt).1]⟩
    · obtain ⟨c1, c2⟩ := (u3 y hy).2 c
      have pn : (p : Int) ∉ left.erase (t : Int) := fun m => p2 (mem.mp m).2
      have pt : p ≠ t := fun e => p2 (by rw [e]; exact ht)
      refine ⟨p, hp, by rw [c2, p1], pn, fun n => ?_, fun e => by rw [c1]; exact p4 e, fun e => by rw [c1, (out p hp pn).1]; exact p5 e⟩
      show (if p = t then h - left.length else rk p) < if y = t then h - left.length else rk y
      rw [if_neg pt]
      rcases cut n with e | n
      · rw [if_pos e]
        have := g.rkc p hp p2
        omega
      · rw [if_neg (fun e => n (by rw [e]; exact ht))]
        exact p3 n
def lk (L : Nat → Nat → Int) (ws : List Nat) : List Int := (List.range (ws.length - 1)).map fun k => L (ws.getD k 0) (ws.getD (k + 1) 0)
theorem lk_cons (L : Nat → Nat → Int) (p w : Nat) (r : List Nat) : lk L (p :: w :: r) = L p w :: lk L (w :: r) := by
  unfold lk
  rw [show (p :: w :: r).length - 1 = ((w :: r).length - 1) + 1 from rfl, List.range_succ_eq_map, List.map_cons, List.map_map]
  rfl
structure Part (h x y : Nat) (L : Nat → Nat → Int) (be : List Int) (rk : Nat → Nat) (w : Nat) (r : List Nat) : Prop where
  all : ∀ z ∈ w :: r, z < h
  rise : (w :: r).Pairwise fun a b => rk a < rk b
  last : (w :: r).getLast? = some y
  above : ∀ l ∈ lk L (w :: r), be.getD y 0 ≤ l
  mid : w ≠ x → be.getD y 0 ≤ be.getD w 0 ∧ (be.getD y 0 = be.getD w 0 ∨ be.getD y 0 ∈ lk L (w :: r))
  fin : w = x → be.getD y 0 ∈ lk L (w :: r) ∧ r ≠ []
theorem Part.start {h x y : Nat} {L : Nat → Nat → Int} {be : List Int} (rk : Nat → Nat) (hy : y < h) (ne : y ≠ x) : Part h x y L be rk y [] :=
  ⟨fun z m => by rw [List.mem_singleton.mp m]; exact hy, List.pairwise_singleton .., rfl, (fun l m => by cases m), fun _ => ⟨Int.le_refl _, .inl rfl⟩, fun e => absurd e ne⟩
theorem Part.step {h x y w p : Nat} {L : Nat → Nat → Int} {be : List Int} {rk : Nat → Nat} {r : List Nat} (g : Part h x y L be rk w r) (wx : w ≠ x) (hp : p < h) (pr : rk p < rk w)
    (p1 : p = x → be.getD w 0 = L x w) (p2 : p ≠ x → be.getD w 0 = min (be.getD p 0) (L p w)) : Part h x y L be rk p (w :: r) := by
  obtain ⟨m1, m2⟩ := g.mid wx
  have key : be.getD y 0 ≤ L p w := by
    by_cases c : p = x
    · have := p1 c; rw [c]; omega
    · have := p2 c; omega
  refine ⟨fun z m => ?_, List.pairwise_cons.mpr ⟨fun z m => ?_, g.rise⟩, ?_, fun l m => ?_, fun c => ?_, fun c => ?_⟩
  · rcases List.mem_cons.mp m with m | m
    · rw [m]; exact hp
    · exact g.all z m
  · rcases List.mem_cons.mp m with m | m
    · rw [m]; exact pr
    · exact Nat.lt_trans pr ((List.pairwise_cons.mp g.rise).1 z m)
  · rw [List.getLast?_cons_cons]; exact g.last
  · rw [lk_cons] at m
    rcases List.mem_cons.mp m with m | m
    · rw [m]; exact key
    · exact g.above l m
  · have := p2 c
    refine ⟨by omega, ?_⟩
    rw [lk_cons]
    rcases m2 with e | e
    · by_cases z : be.getD p 0 ≤ L p w
      · exact .inl (by omega)
      · exact .inr (by rw [show be.getD y 0 = L p w by omega]; exact List.mem_cons_self ..)
    · exact .inr (List.mem_cons_of_mem _ e)
  · rw [lk_cons]
    have := p1 c
    refine ⟨?_, by simp⟩
    rcases m2 with e | e
    · rw [e, this, c]; exact List.mem_cons_self ..
    · exact List.mem_cons_of_mem _ e
structure IsWay (h x y : Nat) (L : Nat → Nat → Int) (v : Int) (ws : List Nat) : Prop where
  all : ∀ z ∈ ws, z < h
  nd : ws.Nodup
  first : ws.head? = some x
  last : ws.getLast? = some y
  two : 2 ≤ ws.length
  least : v ∈ lk L ws ∧ ∀ l ∈ lk L ws, v ≤ l
theorem Part.way {h x y : Nat} {L : Nat → Nat → Int} {be : List Int} {rk : Nat → Nat} {r : List Nat} (g : Part h x y L be rk x r) : IsWay h x y L (be.getD y 0) (x :: r) := by
  obtain ⟨f1, f2⟩ := g.fin rfl
  refine ⟨g.all, g.rise.imp fun z e => by rw [e] at z; exact Nat.lt_irrefl _ z, rfl, g.last, ?_, f1, g.above⟩
  have := List.length_pos_iff.mpr f2
  rw [List.length_cons]
  omega
theorem butX_len' {h x : Nat} (hx : x < h) : (butX h x).length + 1 = h := by
  have a := butX_len hx
  have b := nodup_len (xs := (List.range h).map fun y : Nat => (y : Int)) (ys := (x : Int) :: butX h x) (List.Pairwise.map _ (fun a b (ne : a ≠ b) e => ne (Int.ofNat.inj e)) List.nodup_range) fun z m => by
    obtain ⟨y, hy, e⟩ := List.mem_map.mp m
    by_cases c : y = x
    · rw [← e, c]; exact List.mem_cons_self ..
    · exact List.mem_cons_of_mem _ (butX_mem.mpr ⟨y, List.mem_range.mp hy, c, e.symm⟩)
  rw [List.length_cons, List.length_map, List.length_range] at b
  omega
theorem butX_succ (i x : Nat) : butX (i + 1) x = butX i x ++ if i = x then [] else [(i : Int)] := by
  unfold butX
  rw [List.range_succ, List.filter_append, List.map_append]
  by_cases c : i = x
  · rw [if_pos c]; simp [c]
  · rw [if_neg c]; simp [c]
theorem getD_set {xs : List Int} {z : Nat} (hz : z < xs.length) (v : Int) (y : Nat) : (xs.set z v).getD y 0 = if y = z then v else xs.getD y 0 := by
  rw [List.getD_eq_getElem?_getD, List.getElem?_set, List.getD_eq_getElem?_getD]
  by_cases c : z = y
  · subst c; rw [if_pos rfl, if_pos hz, if_pos rfl]; rfl
  · rw [if_neg c, if_neg (Ne.symm c)]
theorem Upd.nil {h t : Nat} {L : Nat → Nat → Int} {be bf : List Int} (l1 : be.length = h) (l2 : bf.length = h) : Upd h t L be bf [] be bf := ⟨l1, l2, fun y _ => ⟨fun c => (nomatch c.1), fun _ => ⟨rfl, rfl⟩⟩⟩
theorem Upd.put {h t z : Nat} {L : Nat → Nat → Int} {be bf zs be' bf' : List Int} (u : Upd h t L be bf zs be' bf') (hz : z < h) (c : be.getD z 0 < min (be.getD t 0) (L t z)) : Upd h t L be bf (zs ++ [(z : Int)]) (be'.set z (min (be.getD t 0) (L t z))) (bf'.set z (t : Int)) := by
  obtain ⟨u1, u2, u3⟩ := u
  refine ⟨by rw [List.length_set, u1], by rw [List.length_set, u2], fun y hy => ?_⟩
  rw [getD_set (by omega), getD_set (by omega)]
  by_cases e : y = z
  · subst e
    rw [if_pos rfl, if_pos rfl]
    exact ⟨fun _ => ⟨rfl, rfl⟩, fun n => absurd ⟨List.mem_append_right _ (List.mem_singleton.mpr rfl), c⟩ n⟩
  · rw [if_neg e, if_neg e]
    have m : (y : Int) ∈ zs ++ [(z : Int)] ↔ (y : Int) ∈ zs := by
      rw [List.mem_append, List.mem_singleton]
      exact ⟨fun h => h.elim id fun h => absurd (Int.ofNat.inj h) e, .inl⟩
    rw [m]
    exact u3 y hy
theorem Upd.skip {h t z : Nat} {L : Nat → Nat → Int} {be bf zs be' bf' : List Int} (u : Upd h t L be bf zs be' bf') (c : ¬ be.getD z 0 < min (be.getD t 0) (L t z)) : Upd h t L be bf (zs ++ [(z : Int)]) be' bf' := by
  obtain ⟨u1, u2, u3⟩ := u
  refine ⟨u1, u2, fun y hy => ?_⟩
  by_cases e : y = z
  · subst e
    refine ⟨fun k => absurd k.2 c, fun _ => (u3 y hy).2 fun k => c k.2⟩
  · have m : (y : Int) ∈ zs ++ [(z : Int)] ↔ (y : Int) ∈ zs := by
      rw [List.mem_append, List.mem_singleton]
      exact ⟨fun h => h.elim id fun h => absurd (Int.ofNat.inj h) e, .inl⟩
    rw [m]
    exact u3 y hy
theorem Upd.at {h t y : Nat} {L : Nat → Nat → Int} {be bf zs be' bf' : List Int} (u : Upd h t L be bf zs be' bf') (hy : y < h) (n : (y : Int) ∉ zs) : be'.getD y 0 = be.getD y 0 := ((u.2.2 y hy).2 fun c => n c.1).1
theorem erase_idx {a : Int} : ∀ xs : List Int, xs.erase a = xs.eraseIdx (xs.idxOf a)
  | [] => rfl
  | b :: r => by
    rw [List.erase_cons, List.idxOf_cons]
    by_cases c : b = a
    · rw [if_pos (by simp [c])]; simp [c]
    · have n : (b == a) = false := by simp [c]
      rw [if_neg (by rw [n]; decide), n]
      show b :: r.erase a = _
      rw [erase_idx r]
      rfl
def notTbl : HO → Bool
  | .tbl _ => false
  | _ => true
structure Sm (H H' : Hp) : Prop where
  keep : ∀ b u, H b = some u → notTbl u = true → H' b = some u
  gone : ∀ b, H' b = none → H b = none
theorem Sm.of {H H' : Hp} (s : Same H H') : Sm H H' := ⟨fun b u e _ => s b u e, fun b e => none_of s e⟩
theorem Sm.trans {H H1 H2 : Hp} (a : Sm H H1) (b : Sm H1 H2) : Sm H H2 := ⟨fun c u e n => b.keep c u (a.keep c u e n) n, fun c e => a.gone c (b.gone c e)⟩
theorem Sm.put {H H' : Hp} {l : Addr} {o : HO} (s : Sm H H') (n : H l = none) : Sm H (upd H' l o) := ⟨fun b u e k => by
  rw [upd_ne (ne_of_none e n)]
  exact s.keep b u e k, fun b e => by
  by_cases c : b = l
  · rw [c]; exact n
  · rw [upd_ne c] at e; exact s.gone b e⟩
theorem Sm.lst {H H' : Hp} (s : Sm H H') {b : Addr} {xs : List V} (e : H b = some (.lst xs)) : H' b = some (.lst xs) := s.keep _ _ e rfl
theorem Sm.tup {H H' : Hp} (s : Sm H H') {b : Addr} {xs : List V} (e : H b = some (.tup xs)) : H' b = some (.tup xs) := s.keep _ _ e rfl
theorem TabF.sm {H H' : Hp} {as : List Addr} {h : Nat} {F : Nat → Nat → Int} (g : TabF H as h F) (s : Sm H H') : TabF H' as h F := ⟨g.1, g.2.1, fun x a ha => s.lst (g.2.2 x a ha)⟩
theorem sm_lam {P : Addr} {pos : Pos} {q : Str} {H H' : Hp} (t : LamT P pos q H) (s : SmL P H H') (g : ∀ b, H' b = none → H b = none) : Sm H H' := ⟨fun b u e n => s b u (fun z => by
  rw [z] at e
  rcases t with t | ⟨_, t, _⟩
  · rw [t] at e; rw [← Option.some.inj e] at n; cases n
  · rw [t] at e; rw [← Option.some.inj e] at n; cases n) e, g⟩
abbrev LT (P : Addr) (H : Hp) : Prop := LamT P lamPos lamQ H
abbrev L1 (P : Addr) (H : Hp) : Prop := Lam1 P lamPos lamQ H
def LamQ (P : Addr) (h : Nat) (H : Hp) : Prop := LT P H ∧ (h = 1 ∨ L1 P H)
theorem LamQ.same {P : Addr} {h : Nat} {H H' : Hp} (t : LamQ P h H) (s : Same H H') : LamQ P h H' := ⟨t.1.same s, t.2.imp id fun t => t.same s⟩
def spReached (P : Addr) : Sp := fun vs H Q _ => ∃ (a : Addr) (as : List Addr) (h x : Nat) (L : Nat → Nat → Int), vs = [.ref a, .int (x : Int)] ∧ H a = some (.lst (as.map V.ref)) ∧ TabF H as h L ∧ x < h ∧ h ≤ 12 ∧ LT P H ∧
  ∀ (t b f : Addr) (be bf : List Int) (H' : Hp), Sm H H' → (LamQ P h H → Same H H') → LamQ P h H' → H t = none → H b = none → H f = none → b ≠ f → H' t = some (.tup [.ref b, .ref f]) → H' b = some (.lst (be.map V.int)) → H' f = some (.lst (bf.map V.int)) → Reach h x L be bf → Q (.ref t) H'
theorem min_if (a b : Int) : (if b < a then b else a) = min a b := by split <;> omega
theorem set_map (xs : List Int) (z : Nat) (v : Int) : (xs.map V.int).set z (.int v) = (xs.set z v).map V.int := by rw [List.map_set]
abbrev Us := List (Addr × List Int)
def fU (us : Us) (x y : Nat) : Int := (us.getD x (0, [])).2.getD y 0
theorem fU_row {us : Us} {x h : Nat} {r : Addr × List Int} (e : us[x]? = some r) (l : r.2.length = h) : ((List.range h).map fun y => fU us x y) = r.2 := by
  have e' : us.getD x (0, []) = r := by rw [List.getD_eq_getElem?_getD, e]; rfl
  unfold fU
  rw [e']
  apply List.ext_getElem
  · simp [l]
  · intro i h1 h2
    simp [h2]
def Strong (h : Nat) (L F : Nat → Nat → Int) : Prop := ∀ x, x < h → ∃ bf, Reach h x L ((List.range h).map fun y => F x y) bf
theorem row_get {h y : Nat} (F : Nat → Int) (hy : y < h) : ((List.range h).map fun y => F y).getD y 0 = F y := by rw [List.getD_eq_getElem?_getD, List.getElem?_map, List.getElem?_range hy]; rfl
def spStrength (P : Addr) : Sp := fun vs H Q _ => ∃ (a : Addr) (as : List Addr) (h : Nat) (L : Nat → Nat → Int), vs = [.ref a] ∧ H a = some (.lst (as.map V.ref)) ∧ TabF H as h L ∧ 1 ≤ h ∧ h ≤ 12 ∧ LT P H ∧
  ∀ (r : Addr) (rs : List Addr) (F : Nat → Nat → Int) (H' : Hp), Sm H H' → (LamQ P h H → Same H H') → LamQ P h H' → H r = none → r ∉ rs → (∀ c ∈ rs, H c = none) → H' r = some (.lst (rs.map V.ref)) → TabF H' rs h F → Strong h L F → Q (.ref r) H'
structure Told (H : Hp) (t : Addr) (h x : Nat) (L : Nat → Nat → Int) (be : List Int) : Prop where
  is : ∃ (b f : Addr) (bf : List Int), H t = some (.tup [.ref b, .ref f]) ∧ H b = some (.lst (be.map V.int)) ∧ H f = some (.lst (bf.map V.int)) ∧ Reach h x L be bf
theorem Told.same {H H' : Hp} {t : Addr} {h x : Nat} {L : Nat → Nat → Int} {be : List Int} (s : Same H H') (g : Told H t h x L be) : Told H' t h x L be := by
  obtain ⟨b, f, bf, h1, h2, h3, h4⟩ := g.is
  exact ⟨b, f, bf, s _ _ h1, s _ _ h2, s _ _ h3, h4⟩
def natz (ws : List Nat) : List Int := ws.map fun w : Nat => (w : Int)
def spWayBy : Sp := fun vs H Q _ => ∃ (t : Addr) (h x y : Nat) (L : Nat → Nat → Int) (be : List Int), vs = [.ref t, .int (x : Int), .int (y : Int)] ∧ Told H t h x L be ∧ y < h ∧ y ≠ x ∧ h ≤ 12 ∧
  ∀ (r : Addr) (ws : List Nat) (H' : Hp), H r = none → Same H H' → H' r = some (.lst ((natz ws).map V.int)) → IsWay h x y L (be.getD y 0) ws → Q (.ref r) H'
def cutF (x y : Nat) (be : List Int) (i : Nat) : Bool := decide (i = x ∨ be.getD y 0 < be.getD i 0)
def spCutBy : Sp := fun vs H Q _ => ∃ (t : Addr) (h x y : Nat) (L : Nat → Nat → Int) (be : List Int), vs = [.ref t, .int (x : Int), .int (y : Int)] ∧ Told H t h x L be ∧ x < h ∧ y < h ∧ h ≤ 12 ∧ ∀ H' : Hp, Same H H' → Q (.int (msum h (cutF x y be))) H'
theorem or_at : ∀ {h k : Nat} (f : Nat → Bool), k < h → Builtin.bitOr (msum h f) (1 * 2 ^ k) = msum h fun i => f i || decide (i = k) := by
  have key : ∀ (h k : Nat) (f : Nat → Bool), k < h → msum h (fun i => f i || decide (i = k)) = msum h f + 2 ^ k * (if (!f k) = true then 1 else 0) := by
    intro h
    induction h with
    | zero => intro k f hk; omega
    | succ h ih =>
      intro k f hk
      rw [msum_succ, msum_succ]
      by_cases c : k = h
      · subst c
        rw [msum_congr k (g := f) (fun i hi => by rw [decide_eq_false (by omega), Bool.or_false])]
        cases f k <;> simp
      · rw [ih k f (by omega), decide_eq_false (show ¬ h = k from fun e => c e.symm), Bool.or_false]
        omega
  intro h k f hk
  rw [more_is, bit_msum, decide_eq_true hk, Bool.true_and, key h k f hk]
theorem Strong.tri {h : Nat} {L F : Nat → Nat → Int} (g : Strong h L F) {x y w : Nat} (hx : x < h) (hy : y < h) (hw : w < h) (xy : y ≠ x) (xw : w ≠ x) (yw : w ≠ y) : min (F x y) (F y w) ≤ F x w := by
  obtain ⟨bf, r⟩ := g x hx
  obtain ⟨bf', r'⟩ := g y hy
  obtain ⟨rk, par⟩ := r'.par
  have key : ∀ n w, rk w ≤ n → w < h → w ≠ x → w ≠ y → min (F x y) (F y w) ≤ F x w := by
    intro n
    induction n with
    | zero =>
      intro w rn hw wx wy
      obtain ⟨p, _, _, p1, _⟩ := par w hw wy
      omega
    | succ n ih =>
      intro w rn hw wx wy
      obtain ⟨p, hp, _, p1, p2, p3⟩ := par w hw wy
      rw [row_get (F y) hw] at p2 p3
      by_cases c : p = y
      · rw [p2 c]
        have := r.stab y w hy hw xy wx (Ne.symm wy)
        rwa [row_get (F x) hy, row_get (F x) hw] at this
      · have e := p3 c
        rw [row_get (F y) hp] at e
        rw [e]
        by_cases d : p = x
        · have := r.low w hw wx
          rw [row_get (F x) hw] at this
          rw [d]
          omega
        · have a := ih p (by omega) hp d c
          have b := r.stab p w hp hw d wx (fun e => by rw [e] at p1; exact Nat.lt_irrefl _ p1)
          rw [row_get (F x) hp, row_get (F x) hw] at b
          omega
  exact key (rk w) w (Nat.le_refl _) hw xw yw
theorem Strong.low {h : Nat} {L F : Nat → Nat → Int} (g : Strong h L F) {x y : Nat} (hx : x < h) (hy : y < h) (ne : y ≠ x) : L x y ≤ F x y := by
  obtain ⟨bf, r⟩ := g x hx
  have := r.low y hy ne
  rwa [row_get (F x) hy] at this
theorem Strong.trans {h : Nat} {L F : Nat → Nat → Int} (g : Strong h L F) {x y z : Nat} (hx : x < h) (hy : y < h) (hz : z < h) (a : F y x < F x y) (b : F z y < F y z) : F z x < F x z := by
  have xy : y ≠ x := fun e => by rw [e] at a; omega
  have yz : z ≠ y := fun e => by rw [e] at b; omega
  by_cases c : z = x
  · rw [c] at b; omega
  · have t1 := g.tri hx hy hz xy c yz
    have t2 := g.tri hy hz hx yz (Ne.symm xy) (Ne.symm c)
    have t3 := g.tri hz hx hy (Ne.symm c) (Ne.symm yz) xy
    omega
def beatI (F : Nat → Nat → Int) (z o : Int) : Bool := decide (F z.toNat o.toNat < F o.toNat z.toNat)
def beaten (F : Nat → Nat → Int) (z : Int) (os : List Int) : Bool := os.any (beatI F z)
def unb (F : Nat → Nat → Int) (left : List Int) : List Int := left.filter fun z => !beaten F z left
theorem one_unb {h : Nat} {L F : Nat → Nat → Int} (g : Strong h L F) : ∀ {left : List Int}, left ≠ [] → (∀ z ∈ left, ∃ i : Nat, i < h ∧ z = (i : Int)) → ∃ z ∈ left, ∀ o ∈ left, beatI F z o = false
  | [], n, _ => absurd rfl n
  | [a], _, _ => ⟨a, List.mem_singleton.mpr rfl, fun o mo => by
    rw [List.mem_singleton.mp mo]
    exact decide_eq_false (Int.lt_irrefl _)⟩
  | a :: b :: r, _, s => by
    obtain ⟨m, mm, hm⟩ := one_unb g (left := b :: r) (by simp) fun z mz => s z (List.mem_cons_of_mem _ mz)
    obtain ⟨i, hi, rfl⟩ := s a (List.mem_cons_self ..)
    obtain ⟨j, hj, rfl⟩ := s m (List.mem_cons_of_mem _ mm)
    by_cases c : beatI F (j : Int) (i : Int) = true
    · refine ⟨(i : Int), List.mem_cons_self .., fun o mo => ?_⟩
      rcases List.mem_cons.mp mo with e | mo
      · rw [e]; exact decide_eq_false (Int.lt_irrefl _)
      · obtain ⟨k, hk, rfl⟩ := s o (List.mem_cons_of_mem _ mo)
        have n := hm _ mo
        unfold beatI at c n ⊢
        have c := of_decide_eq_true c
        have n := of_decide_eq_false n
        refine decide_eq_false fun e => n ?_
        exact g.trans hk hi hj e c
    · refine ⟨(j : Int), List.mem_cons_of_mem _ mm, fun o mo => ?_⟩
      rcases List.mem_cons.mp mo with e | mo
      · rw [e]; exact Bool.eq_false_iff.mpr c
      · exact hm o mo
theorem unb_ne {h : Nat} {L F : Nat → Nat → Int} (g : Strong h L F) {left : List Int} (n : left ≠ []) (s : ∀ z ∈ left, ∃ i : Nat, i < h ∧ z = (i : Int)) : unb F left ≠ [] := fun e => by
  obtain ⟨z, mz, hz⟩ := one_unb g n s
  have : z ∈ unb F left := List.mem_filter.mpr ⟨mz, by
    show (!beaten F z left) = true
    unfold beaten
    rw [Bool.not_eq_true', List.any_eq_false]
    exact fun o mo => by rw [hz o mo]; decide⟩
  rw [e] at this
  cases this
def picksGo (F : Nat → Nat → Int) : Nat → List Int → List Int
  | 0, _ => []
  | _ + 1, [] => []
  | s + 1, z :: r => (unb F (z :: r)).getD 0 0 :: picksGo F s ((z :: r).erase ((unb F (z :: r)).getD 0 0))
theorem picksGo_step (F : Nat → Nat → Int) {s : Nat} {left : List Int} (n : left ≠ []) : picksGo F (s + 1) left = (unb F left).getD 0 0 :: picksGo F s (left.erase ((unb F left).getD 0 0)) := by
  cases left with
  | nil => exact absurd rfl n
  | cons z r => rfl
theorem picksGo_nil (F : Nat → Nat → Int) : ∀ s, picksGo F s [] = []
  | 0 => rfl
  | _ + 1 => rfl
theorem picksGo_zero (F : Nat → Nat → Int) (left : List Int) : picksGo F 0 left = [] := by cases left <;> rfl
theorem Strong.turn_le {h : Nat} {L F L' F' : Nat → Nat → Int} (g : Strong h L F) (g' : Strong h L' F') (e : ∀ x y, x < h → y < h → L' x y = L y x) {y w : Nat} (hy : y < h) (hw : w < h) (ne : w ≠ y) : F y w ≤ F' w y := by
  obtain ⟨bf, r⟩ := g y hy
  obtain ⟨rk, par⟩ := r.par
  have key : ∀ n w, rk w ≤ n → w < h → w ≠ y → F y w ≤ F' w y := by
    intro n
    induction n with
    | zero =>
      intro w rn hw wy
      obtain ⟨p, _, _, p1, _⟩ := par w hw wy
      omega
    | succ n ih =>
      intro w rn hw wy
      obtain ⟨p, hp, _, p1, p2, p3⟩ := par w hw wy
      rw [row_get (F y) hw] at p2 p3
      by_cases c : p = y
      · rw [p2 c, ← e w y hw hy]
        exact g'.low hw hy (Ne.symm wy)
      · have q := p3 c
        rw [row_get (F y) hp] at q
        rw [q]
        have pw : p ≠ w := fun e => by rw [e] at p1; exact Nat.lt_irrefl _ p1
        have a := ih p (by omega) hp c
        have b := g'.low hw hp pw
        rw [e w p hw hp] at b
        have d := g'.tri hw hp hy pw (Ne.symm wy) (Ne.symm c)
        omega
  exact key (rk w) w (Nat.le_refl _) hw ne
def off (H : Hp) (D : Addr) : Hp := fun b => if b = D then none else H b
theorem off_le (H : Hp) (D : Addr) : Same (off H D) H := fun b o e => by
  unfold off at e
  split at e
  · cases e
  · exact e
theorem off_at {H : Hp} {D b : Addr} {o : HO} (e : H b = some o) (n : b ≠ D) : off H D b = some o := by
  unfold off
  rw [if_neg n]
  exact e
theorem off_self {H : Hp} {D : Addr} : off H D D = none := by unfold off; rw [if_pos rfl]
theorem off_put {H H' : Hp} {D : Addr} {o : HO} (s : Same (off H D) H') : Same (off H D) (upd H' D o) := fun b u e => by
  rw [upd_ne (fun z => by rw [z, off_self] at e; cases e)]
  exact s _ _ e
theorem off_of {H0 H : Hp} {D : Addr} (s : Same H0 H) (n : H0 D = none) : Same H0 (off H D) := fun b o e => off_at (s _ _ e) fun z => by rw [z, n] at e; cases e
theorem off_upd {H : Hp} {D : Addr} {o : HO} : off (upd H D o) D = off H D := funext fun b => by
  unfold off
  by_cases c : b = D
  · rw [if_pos c, if_pos c]
  · rw [if_neg c, if_neg c, upd_ne c]
theorem ups_srt (n : Nat) : (ups n).Pairwise (· ≤ ·) := List.pairwise_map.mpr (List.pairwise_lt_range.imp fun h => by omega)
theorem ups_v (n : Nat) : (ups n).map V.int = (List.range n).map fun i : Nat => V.int (i : Int) := by unfold ups; rw [List.map_map]; rfl
theorem ups_of {ms ns : List Int} {n : Nat} (p : ms.Perm ns) (s : ms.Pairwise (· ≤ ·)) (h : ns.Perm (ups n)) : ms = ups n := (p.trans h).eq_of_pairwise (fun a b _ _ x y => Int.le_antisymm x y) s (ups_srt n)
def spHands : Sp := fun vs H Q _ => ∃ n : Int, vs = [.int n] ∧ 1 ≤ n ∧ n ≤ 12 ∧ Q (.bl true) H
def spSeats : Sp := fun vs H Q _ => ∃ n : Int, vs = [.int n] ∧ 1 ≤ n ∧ n ≤ 60 ∧ Q (.bl true) H
def spLots (K : PySem.W.Frag) : Sp := fun vs H Q _ => ∃ (l : Addr) (ns : List Int) (n : Nat), vs = [.ref l, .int (n : Int)] ∧ H l = some (.lst (ns.map V.int)) ∧ ns.Perm (ups n) ∧ n ≤ 12 ∧ ∀ H' : Hp, Same H H' → Q (.bl true) H'
abbrev fsW (h s : Int) (l : Addr) : List (Str × V) := [("hands", .int h), ("seats", .int s), ("lots", .ref l)]
theorem put1 (x : V) : putF "hands" x [] = ([("hands", x)] : List (Str × V)) := rfl
theorem put2 (x y : V) : putF "seats" y [("hands", x)] = ([("hands", x), ("seats", y)] : List (Str × V)) := by
  unfold putF; rw [if_neg (by decide)]; rfl
theorem put3 (x y z : V) : putF "lots" z [("hands", x), ("seats", y)] = ([("hands", x), ("seats", y), ("lots", z)] : List (Str × V)) := by
  unfold putF; rw [if_neg (by decide)]; unfold putF; rw [if_neg (by decide)]; rfl
def IsP (C : Addr) (H : Hp) (a : Addr) (h s : Nat) (ns : List Int) : Prop := ∃ dx l, H a = some (.ins C dx (fsW (h : Int) (s : Int) l)) ∧ H l = some (.lst (ns.map V.int))
theorem IsP.same {C : Addr} {H H' : Hp} {a : Addr} {h s : Nat} {ns : List Int} (e : Same H H') (k : IsP C H a h s ns) : IsP C H' a h s ns := let ⟨dx, l, k1, k2⟩ := k; ⟨dx, l, e _ _ k1, e _ _ k2⟩
theorem IsP.sm {C : Addr} {H H' : Hp} {a : Addr} {h s : Nat} {ns : List Int} (e : Sm H H') (k : IsP C H a h s ns) : IsP C H' a h s ns := let ⟨dx, l, k1, k2⟩ := k; ⟨dx, l, e.keep _ _ k1 rfl, e.lst k2⟩
structure MadeP (C : Addr) (H : Hp) (a : Addr) (h s : Nat) (ns : List Int) : Prop where
  is : IsP C H a h s ns
  pm : ns.Perm (ups h)
  h1 : 1 ≤ h
  h12 : h ≤ 12
  s1 : 1 ≤ s
  s60 : s ≤ 60
theorem MadeP.same {C : Addr} {H H' : Hp} {a : Addr} {h s : Nat} {ns : List Int} (e : Same H H') (k : MadeP C H a h s ns) : MadeP C H' a h s ns := ⟨k.is.same e, k.pm, k.h1, k.h12, k.s1, k.s60⟩
theorem MadeP.sm {C : Addr} {H H' : Hp} {a : Addr} {h s : Nat} {ns : List Int} (e : Sm H H') (k : MadeP C H a h s ns) : MadeP C H' a h s ns := ⟨k.is.sm e, k.pm, k.h1, k.h12, k.s1, k.s60⟩
theorem ups_in {h : Nat} {z : Int} (m : z ∈ ups h) : ∃ i : Nat, i < h ∧ z = (i : Int) := by
  unfold ups at m
  obtain ⟨i, hi, e⟩ := List.mem_map.mp m
  exact ⟨i, List.mem_range.mp hi, e.symm⟩
def spWayInitP (K : PySem.W.Frag) : Sp := fun vs H Q _ => ∃ (a C dx : Addr) (h s : Nat) (lv : V) (ns : List Int), vs = [.ref a, .int (h : Int), .int (s : Int), lv] ∧ H a = some (.ins C dx []) ∧ Cls K C ∧ NoAttr K C "hands" ∧ NoAttr K C "seats" ∧ NoAttr K C "lots" ∧
  1 ≤ h ∧ h ≤ 12 ∧ 1 ≤ s ∧ s ≤ 60 ∧ ((lv = .non ∧ ns = ups h) ∨ ∃ l, lv = .ref l ∧ H l = some (.lst (ns.map V.int)) ∧ ns.Perm (ups h)) ∧
  ∀ (l' : Addr) (H' : Hp), l' ≠ a → H l' = none → Same (off H a) H' → H' a = some (.ins C dx (fsW (h : Int) (s : Int) l')) → H' l' = some (.lst (ns.map V.int)) → Q .non H'
def spBeaten : Sp := fun vs H Q _ => ∃ (r l : Addr) (rs : List Addr) (h i : Nat) (F : Nat → Nat → Int) (zs : List Int), vs = [.ref r, .int (i : Int), .ref l] ∧ H r = some (.lst (rs.map V.ref)) ∧ TabF H rs h F ∧ i < h ∧ H l = some (.lst (zs.map V.int)) ∧ (∀ z ∈ zs, ∃ j : Nat, j < h ∧ z = (j : Int)) ∧ zs.length ≤ 60 ∧ ∀ H' : Hp, Same H H' → Q (.bl (beaten F (i : Int) zs)) H'
def spPicksBy (C : Addr) : Sp := fun vs H Q _ => ∃ (a r : Addr) (rs : List Addr) (h s : Nat) (ns : List Int) (L F : Nat → Nat → Int), vs = [.ref a, .ref r] ∧ MadeP C H a h s ns ∧ H r = some (.lst (rs.map V.ref)) ∧ TabF H rs h F ∧ Strong h L F ∧ ∀ (p : Addr) (H' : Hp), H p = none → Same H H' → H' p = some (.lst ((picksGo F s ns).map V.int)) → Q (.ref p) H'
def ovF (ls : Ls) (x y : Nat) : Int := tsum (aheadB x y) (dsL ls)
def leadF (ls : Ls) (x y : Nat) : Int := ovF ls x y - ovF ls y x
def spLeadsT : Sp := fun vs H Q _ => ∃ (a : Addr) (as : List Addr) (h : Nat) (F : Nat → Nat → Int), vs = [.ref a] ∧ H a = some (.lst (as.map V.ref)) ∧ TabF H as h F ∧ h ≤ 12 ∧ ∀ (b : Addr) (bs : List Addr) (H' : Hp), H b = none → b ∉ bs → (∀ c ∈ bs, H c = none) → Same H H' → H' b = some (.lst (bs.map V.ref)) → TabF H' bs h (fun x y => F x y - F y x) → Q (.ref b) H'
def spStrOf (C P : Addr) : Sp := fun vs H Q _ => ∃ (a l : Addr) (h s : Nat) (ns : List Int) (ls : Ls), vs = [.ref a, .ref l] ∧ MadeP C H a h s ns ∧ H l = some (.lst (vls ls)) ∧ GoodL h H ls ∧ ls.length ≤ 60 ∧ LT P H ∧
  ∀ (r : Addr) (rs : List Addr) (F : Nat → Nat → Int) (H' : Hp), Sm H H' → (LamQ P h H → Same H H') → LamQ P h H' → H r = none → H' r = some (.lst (rs.map V.ref)) → TabF H' rs h F → Strong h (leadF ls) F → Q (.ref r) H'
def spBeats (C P : Addr) : Sp := fun vs H Q _ => ∃ (a l : Addr) (h s x y : Nat) (ns : List Int) (ls : Ls), vs = [.ref a, .ref l, .int (x : Int), .int (y : Int)] ∧ MadeP C H a h s ns ∧ H l = some (.lst (vls ls)) ∧ GoodL h H ls ∧ ls.length ≤ 60 ∧ LT P H ∧ x < h ∧ y < h ∧
  ∀ (F : Nat → Nat → Int) (H' : Hp), Sm H H' → (LamQ P h H → Same H H') → LamQ P h H' → Strong h (leadF ls) F → Q (.bl (decide (F y x < F x y))) H'
structure Rw where
  t : Addr
  x : Nat
  y : Nat
  s : Int
  w : Addr
  ws : List Nat
  cut : Int
def cutG (F : Nat → Nat → Int) (x y i : Nat) : Bool := decide (i = x ∨ F x y < F x i)
structure RwOk (h : Nat) (L F : Nat → Nat → Int) (H : Hp) (q : Rw) : Prop where
  tup : H q.t = some (.tup [.int (q.x : Int), .int (q.y : Int), .int q.s, .ref q.w, .int q.cut])
  way : H q.w = some (.lst ((natz q.ws).map V.int))
  hx : q.x < h
  hy : q.y < h
  ne : q.y ≠ q.x
  str : q.s = F q.x q.y
  isw : IsWay h q.x q.y L q.s q.ws
  cutE : q.cut = msum h (cutG F q.x q.y)
theorem RwOk.same {h : Nat} {L F : Nat → Nat → Int} {H H' : Hp} {q : Rw} (e : Same H H') (k : RwOk h L F H q) : RwOk h L F H' q := ⟨e _ _ k.tup, e _ _ k.way, k.hx, k.hy, k.ne, k.str, k.isw, k.cutE⟩
theorem RwOk.sm {h : Nat} {L F : Nat → Nat → Int} {H H' : Hp} {q : Rw} (e : Sm H H') (k : RwOk h L F H q) : RwOk h L F H' q := ⟨e.tup k.tup, e.lst k.way, k.hx, k.hy, k.ne, k.str, k.isw, k.cutE⟩
theorem RwOk.congr {h : Nat} {L F F' : Nat → Nat → Int} {H : Hp} {q : Rw} (k : RwOk h L F H q) (e : ∀ y, y < h → F q.x y = F' q.x y) : RwOk h L F' H q := ⟨k.tup, k.way, k.hx, k.hy, k.ne, by rw [k.str, e _ k.hy], k.isw, by
  rw [k.cutE]
  exact msum_congr h fun i hi => by unfold cutG; rw [e _ k.hy, e i hi]⟩
def vrw (rows : List Rw) : List V := rows.map fun q => .ref q.t
def butN (h x : Nat) : List Nat := (List.range h).filter fun y => decide (y ≠ x)
theorem butX_N (h x : Nat) : butX h x = natz (butN h x) := rfl
def pairsOf (h n : Nat) : List (Nat × Nat) := (List.range n).flatMap fun x => (butN h x).map fun y => (x, y)
def spShownFrom : Sp := fun vs H Q _ => ∃ (t : Addr) (h x : Nat) (L : Nat → Nat → Int) (be : List Int), vs = [.ref t, .int (x : Int)] ∧ Told H t h x L be ∧ x < h ∧ h ≤ 12 ∧
  ∀ (r : Addr) (rows : List Rw) (H' : Hp), H r = none → Same H H' → H' r = some (.lst (vrw rows)) → (∀ q ∈ rows, RwOk h L (fun _ y => be.getD y 0) H' q ∧ q.x = x ∧ H q.t = none ∧ H q.w = none) → rows.map (fun q => (q.x, q.y)) = (butN h x).map (fun y => (x, y)) → Q (.ref r) H'
structure PaperP (H : Hp) (p : Addr) (h s : Nat) (ns : List Int) (ls : Ls) (F : Nat → Nat → Int) : Prop where
  is : ∃ (m sh pk : Addr) (ms : List Addr) (rows : List Rw), H p = some (.tup [.ref m, .ref sh, .ref pk]) ∧ H m = some (.lst (ms.map V.ref)) ∧ TabF H ms h (ovF ls) ∧ H sh = some (.lst (vrw rows)) ∧ (∀ q ∈ rows, RwOk h (leadF ls) F H q) ∧ rows.map (fun q => (q.x, q.y)) = pairsOf h h ∧ H pk = some (.lst ((picksGo F s ns).map V.int))
  strong : Strong h (leadF ls) F
def spCountedP (C P : Addr) : Sp := fun vs H Q _ => ∃ (a l : Addr) (h s : Nat) (ns : List Int) (ls : Ls), vs = [.ref a, .ref l] ∧ MadeP C H a h s ns ∧ H l = some (.lst (vls ls)) ∧ GoodL h H ls ∧ ls.length ≤ 60 ∧ LT P H ∧
  ∀ (p : Addr) (F : Nat → Nat → Int) (H' : Hp), Sm H H' → (LamQ P h H → Same H H') → LamQ P h H' → H p = none → PaperP H' p h s ns ls F → Q (.ref p) H'
theorem LamQ.put {P l : Addr} {h : Nat} {H : Hp} {xs : List V} {o : HO} (t : LamQ P h H) (e : H l = some (.lst xs)) : LamQ P h (upd H l o) := ⟨LamT.put t.1 e, t.2.imp id fun z => Lam1.put z e⟩
theorem natz_len' (ws : List Nat) : (natz ws).length = ws.length := by unfold natz; rw [List.length_map]
theorem vrw_append (a b : List Rw) : vrw (a ++ b) = vrw a ++ vrw b := by unfold vrw; rw [List.map_append]
theorem vrw_len (a : List Rw) : (vrw a).length = a.length := by unfold vrw; rw [List.length_map]
theorem fU_old {us : Us} {r : Addr × List Int} {x : Nat} (h : x < us.length) (y : Nat) : fU (us ++ [r]) x y = fU us x y := by
  unfold fU
  rw [show (us ++ [r]).getD x (0, []) = us.getD x (0, []) from by rw [List.getD_eq_getElem?_getD (l := us ++ [r]), List.getD_eq_getElem?_getD (l := us), List.getElem?_append_left h]]
theorem fU_new {us : Us} {r : Addr × List Int} (y : Nat) : fU (us ++ [r]) us.length y = r.2.getD y 0 := by
  unfold fU
  rw [List.getD_eq_getElem?_getD (l := us ++ [r]), List.getElem?_append_right (Nat.le_refl _), Nat.sub_self]
  rfl
theorem pairsOf_succ (h n : Nat) : pairsOf h (n + 1) = pairsOf h n ++ (butN h n).map fun y => (n, y) := by
  unfold pairsOf
  rw [List.range_succ, List.flatMap_append]
  simp
theorem pairsOf_len {h : Nat} : ∀ {n : Nat}, n ≤ h → (pairsOf h n).length + n = n * h
  | 0, _ => by simp [pairsOf]
  | n + 1, hn => by
    have ih := pairsOf_len (h := h) (n := n) (by omega)
    have b : (butN h n).length + 1 = h := by
      have := butX_len' (h := h) (x := n) (by omega)
      rwa [butX_N, natz_len'] at this
    rw [pairsOf_succ, List.length_append, List.length_map, Nat.succ_mul]
    omega
def Maj (h : Nat) (I : Nat → Bool) (L : Nat → Nat → Int) : Prop := ∀ x y, x < h → y < h → I x = true → I y = false → 0 < L x y ∧ L y x < 0
theorem Strong.sets {h : Nat} {I : Nat → Bool} {L F : Nat → Nat → Int} (g : Strong h L F) (m : Maj h I L) {x y : Nat} (hx : x < h) (hy : y < h) (ix : I x = true) (iy : I y = false) : 0 < F x y ∧ F y x < 0 := by
  have ne : ∀ {u v : Nat}, I u = true → I v = false → u ≠ v := fun a b e => by rw [e, b] at a; cases a
  refine ⟨Int.lt_of_lt_of_le (m x y hx hy ix iy).1 (g.low hx hy (Ne.symm (ne ix iy))), ?_⟩
  obtain ⟨bf, r⟩ := g y hy
  obtain ⟨rk, par⟩ := r.par
  have key : ∀ n w, rk w ≤ n → w < h → I w = true → F y w < 0 := by
    intro n
    induction n with
    | zero =>
      intro w rn hw iw
      obtain ⟨p, _, _, p1, _⟩ := par w hw (ne iw iy)
      omega
    | succ n ih =>
      intro w rn hw iw
      obtain ⟨p, hp, _, p1, p2, p3⟩ := par w hw (ne iw iy)
      rw [row_get (F y) hw] at p2 p3
      by_cases c : p = y
      · rw [p2 c]; exact (m w y hw hy iw iy).2
      · have e := p3 c
        rw [row_get (F y) hp] at e
        rw [e]
        cases ip : I p with
        | true => have := ih p (by omega) hp ip; omega
        | false => have := (m w p hw hp iw ip).2; omega
  exact key (rk x) x (Nat.le_refl _) hx ix
def inI (I : Nat → Bool) (z : Int) : Bool := I z.toNat
theorem unb_head {h : Nat} {L F : Nat → Nat → Int} (g : Strong h L F) {left : List Int} (n : left ≠ []) (s : ∀ z ∈ left, ∃ i : Nat, i < h ∧ z = (i : Int)) : (unb F left).getD 0 0 ∈ left ∧ beaten F ((unb F left).getD 0 0) left = false := by
  have k := unb_ne g n s
  cases e : unb F left with
  | nil => exact absurd e k
  | cons a r =>
    have m : a ∈ unb F left := by rw [e]; exact List.mem_cons_self ..
    obtain ⟨m1, m2⟩ := List.mem_filter.mp m
    exact ⟨m1, by simpa using m2⟩
theorem picks_sets {h : Nat} {I : Nat → Bool} {L F : Nat → Nat → Int} (g : Strong h L F) (m : Maj h I L) : ∀ (s : Nat) (left : List Int), left.Nodup → (∀ z ∈ left, ∃ i : Nat, i < h ∧ z = (i : Int)) →
    (∀ z ∈ picksGo F s left, z ∈ left) ∧ (picksGo F s left).Nodup ∧ (picksGo F s left).length = min s left.length ∧ ((picksGo F s left).filter (inI I)).length = min s (left.filter (inI I)).length ∧ ∀ z ∈ (picksGo F s left).take (left.filter (inI I)).length, inI I z = true
  | 0, left, _, _ => by
    rw [picksGo_zero]
    refine ⟨(fun z k => nomatch k), List.nodup_nil, by simp, by simp, fun z k => ?_⟩
    rw [List.take_nil] at k
    cases k
  | s + 1, left, nd, sub => by
    by_cases e : left = []
    · rw [e, picksGo_nil]
      refine ⟨(fun z k => nomatch k), List.nodup_nil, by simp, by simp, fun z k => ?_⟩
      rw [List.take_nil] at k
      cases k
    · obtain ⟨z1, z2⟩ := unb_head g e sub
      rw [picksGo_step F e]
      generalize (unb F left).getD 0 0 = z at z1 z2 ⊢
      have sub' : ∀ y ∈ left.erase z, ∃ i : Nat, i < h ∧ y = (i : Int) := fun y k => sub y (List.mem_of_mem_erase k)
      obtain ⟨a, b, c, d, f⟩ := picks_sets g m s (left.erase z) (nd.erase z) sub'
      have ln : (left.erase z).length = left.length - 1 := List.length_erase_of_mem z1
      have l0 : 0 < left.length := List.length_pos_of_mem z1
      have fe : ((left.erase z).filter (inI I)).length = if inI I z = true then (left.filter (inI I)).length - 1 else (left.filter (inI I)).length := by
        have pm := (List.perm_cons_erase z1).filter (inI I)
        have pl := pm.length_eq
        by_cases k : inI I z = true
        · rw [List.filter_cons_of_pos k, List.length_cons] at pl
          rw [if_pos k]; omega
        · rw [List.filter_cons_of_neg k] at pl
          rw [if_neg k]; omega
      refine ⟨fun y k => ?_, ?_, ?_, ?_, ?_⟩
      · rcases List.mem_cons.mp k with k | k
        · rw [k]; exact z1
        · exact List.mem_of_mem_erase (a y k)
      · refine List.nodup_cons.mpr ⟨fun k => ?_, b⟩
        exact (List.Nodup.mem_erase_iff nd).mp (a z k) |>.1 rfl
      · rw [List.length_cons, c, ln]; omega
      · by_cases k : inI I z = true
        · have p0 : 0 < (left.filter (inI I)).length := List.length_pos_of_mem (List.mem_filter.mpr ⟨z1, k⟩)
          rw [List.filter_cons_of_pos k, List.length_cons, d, fe, if_pos k]; omega
        · have none : left.filter (inI I) = [] := by
            rw [List.filter_eq_nil_iff]
            intro y my iy
            obtain ⟨i, hi, rfl⟩ := sub z z1
            obtain ⟨j, hj, rfl⟩ := sub y my
            have st := g.sets m hj hi (by simpa [inI] using iy) (by simpa [inI] using k)
            unfold beaten at z2
            rw [List.any_eq_false] at z2
            apply z2 _ my
            unfold beatI
            rw [decide_eq_true_eq, Int.toNat_natCast, Int.toNat_natCast]
            omega
          rw [List.filter_cons_of_neg k, d, fe, if_neg k, none]
          simp
      · by_cases k : inI I z = true
        · have p0 : 0 < (left.filter (inI I)).length := List.length_pos_of_mem (List.mem_filter.mpr ⟨z1, k⟩)
          intro y my
          rw [show (left.filter (inI I)).length = ((left.filter (inI I)).length - 1) + 1 by omega, List.take_succ_cons] at my
          rcases List.mem_cons.mp my with my | my
          · rw [my]; exact k
          · refine f y ?_
            rw [fe, if_pos k]; exact my
        · have none : left.filter (inI I) = [] := by
            rw [List.filter_eq_nil_iff]
            intro y my iy
            obtain ⟨i, hi, rfl⟩ := sub z z1
            obtain ⟨j, hj, rfl⟩ := sub y my
            have st := g.sets m hj hi (by simpa [inI] using iy) (by simpa [inI] using k)
            unfold beaten at z2
            rw [List.any_eq_false] at z2
            apply z2 _ my
            unfold beatI
            rw [decide_eq_true_eq, Int.toNat_natCast, Int.toNat_natCast]
            omega
          intro y my
          rw [none] at my
          cases my
theorem in_int {z : Int} {zs : List Int} : inV (V.int z) (zs.map V.int) = decide (z ∈ zs) := by
  unfold inV
  rw [List.any_map]
  by_cases c : z ∈ zs
  · rw [decide_eq_true c]
    exact List.any_eq_true.mpr ⟨z, c, by simp [eqV]⟩
  · rw [decide_eq_false c]
    refine Bool.eq_false_iff.mpr fun e => c ?_
    obtain ⟨y, my, ey⟩ := List.any_eq_true.mp e
    have : y = z := by simpa [eqV] using ey
    rw [← this]; exact my
theorem in_yes {z : Int} {zs : List Int} (m : z ∈ zs) : (if false = true then !inV (V.int z) (zs.map V.int) else inV (V.int z) (zs.map V.int)) = true := by rw [if_neg (by decide), in_int, decide_eq_true m]
theorem in_no {z : Int} {zs : List Int} (m : z ∉ zs) : (if false = true then !inV (V.int z) (zs.map V.int) else inV (V.int z) (zs.map V.int)) = false := by rw [if_neg (by decide), in_int, decide_eq_false m]
theorem nin_yes {z : Int} {zs : List Int} (m : z ∉ zs) : (if true = true then !inV (V.int z) (zs.map V.int) else inV (V.int z) (zs.map V.int)) = true := by rw [if_pos rfl, in_int, decide_eq_false m]; rfl
theorem nin_no {z : Int} {zs : List Int} (m : z ∈ zs) : (if true = true then !inV (V.int z) (zs.map V.int) else inV (V.int z) (zs.map V.int)) = false := by rw [if_pos rfl, in_int, decide_eq_true m]; rfl
theorem all_flat (zs : List Int) : (zs.map V.int).all flatV = true := by rw [List.all_map]; exact List.all_eq_true.mpr fun _ _ => rfl
theorem bit_by (m : Int) (i : Nat) : decide (V.int ((m.fdiv (1 * 2 ^ i)).fmod 2) = V.int 1) = bit m i := by
  unfold bit
  rw [Int.one_mul, Int.fdiv_eq_ediv_of_nonneg _ (Int.le_of_lt (Int.pow_pos (by decide))), Int.fmod_eq_emod_of_nonneg _ (by decide)]
  by_cases c : m / 2 ^ i % 2 = 1
  · rw [decide_eq_true c, decide_eq_true (congrArg V.int c)]
  · rw [decide_eq_false c, decide_eq_false fun e => c (V.int.inj e)]
theorem duF_app (a b : Vo) (x y : Nat) : duF (a ++ b) x y = duF a x y + duF b x y := by
  unfold duF sumV
  rw [List.map_append, List.sum_append]
theorem duF_one (t u : Addr) (rs : List Int) (n : Int) (x y : Nat) : duF [(t, u, rs, n)] x y = if placeI rs x < placeI rs y then n else 0 := by
  unfold duF sumV
  simp
theorem GoodV.push {h : Nat} {H : Hp} {L t lr : Addr} {vo : Vo} {rs : List Int} {v : Int} (eL : H L = some (.lst (vvo vo))) (g : GoodV h H vo) (nl : ∀ q ∈ vo, q.2.1 ≠ L) (et : H t = some (.tup [.ref lr, .int v])) (el : H lr = some (.lst (rs.map V.int))) (ne : lr ≠ L) (ln : rs.length = h) : GoodV h (upd H L (.lst (vvo vo ++ [V.ref t]))) (vo ++ [(t, lr, rs, v)]) := fun q m => by
  have tl : ∀ b u, H b = some (.tup u) → b ≠ L := fun b u e z => by rw [z, eL] at e; cases e
  rcases List.mem_append.mp m with m | m
  · obtain ⟨a1, a2, a3⟩ := g q m
    exact ⟨by rw [upd_ne (tl _ _ a1)]; exact a1, by rw [upd_ne (nl q m)]; exact a2, a3⟩
  · rw [List.mem_singleton.mp m]
    exact ⟨by show upd _ _ _ t = _; rw [upd_ne (tl _ _ et)]; exact et, by show upd _ _ _ lr = _; rw [upd_ne ne]; exact el, ln⟩
def toldL (h : Nat) (pk : List Int) : List Int := (List.range h).map fun i : Nat => if (i : Int) ∈ pk then 1 else 0
def spToldP (C : Addr) : Sp := fun vs H Q _ => ∃ (a p : Addr) (h s : Nat) (ns : List Int) (ls : Ls) (F : Nat → Nat → Int), vs = [.ref a, .ref p] ∧ MadeP C H a h s ns ∧ PaperP H p h s ns ls F ∧ ∀ (r : Addr) (H' : Hp), H r = none → Same H H' → H' r = some (.lst ((toldL h (picksGo F s ns)).map V.int)) → Q (.ref r) H'
def spOutP (C P : Addr) : Sp := fun vs H Q _ => ∃ (a l : Addr) (h s : Nat) (ns : List Int) (ls : Ls), vs = [.ref a, .ref l] ∧ MadeP C H a h s ns ∧ H l = some (.lst (vls ls)) ∧ GoodL h H ls ∧ ls.length ≤ 60 ∧ LT P H ∧
  ∀ (r : Addr) (F : Nat → Nat → Int) (H' : Hp), Sm H H' → (LamQ P h H → Same H H') → LamQ P h H' → H' r = some (.lst ((toldL h (picksGo F s ns)).map V.int)) → Strong h (leadF ls) F → Q (.ref r) H'
def SolidR (h : Nat) (I : Nat → Bool) (rs : List Int) : Prop := ∀ x y, x < h → y < h → I x = true → I y = false → placeI rs x < placeI rs y
def spSolid : Sp := fun vs H Q _ => ∃ (p : Addr) (h : Nat) (I : Nat → Bool) (z : Int), vs = [.ref p, .int (h : Int), .int z] ∧ H p = some (.lst ((hands h I).map V.int)) ∧ 1 ≤ h ∧ h ≤ 12 ∧ 0 ≤ z ∧ z < 10 ^ 18 ∧
  ∀ (l : Addr) (rs : List Int) (H' : Hp), H l = none → Same H H' → H' l = some (.lst (rs.map V.int)) → rs.length = h → (∀ r ∈ rs, 0 ≤ r ∧ r ≤ 1000) → SolidR h I rs → Q (.ref l) H'
def RankI (h : Nat) (i : Bool) (r : Int) : Prop := if i = true then 1 ≤ r ∧ r ≤ h else r = 0 ∨ (h < r ∧ r ≤ 1000)
theorem RankI.in {h : Nat} (h12 : h ≤ 12) {i : Bool} {r : Int} (k : RankI h i r) : 0 ≤ r ∧ r ≤ 1000 := by
  unfold RankI at k
  cases i with
  | true => rw [if_pos rfl] at k; omega
  | false => rw [if_neg (by decide)] at k; omega
theorem solid_of {h : Nat} {I : Nat → Bool} {rs : List Int} (h12 : h ≤ 12) (hl : rs.length = h) (hk : ∀ k r, rs[k]? = some r → RankI h (I k) r) : SolidR h I rs := fun x y hx hy ix iy => by
  have gx := hk x _ (List.getElem?_eq_getElem (show x < rs.length by omega))
  have gy := hk y _ (List.getElem?_eq_getElem (show y < rs.length by omega))
  unfold RankI at gx gy
  rw [ix, if_pos rfl] at gx
  rw [iy, if_neg (by decide)] at gy
  unfold placeI
  rw [List.getD_eq_getElem?_getD, List.getD_eq_getElem?_getD, List.getElem?_eq_getElem (show x < rs.length by omega), List.getElem?_eq_getElem (show y < rs.length by omega)]
  show (if rs[x] = 0 then (1000000000 : Int) else rs[x]) < (if rs[y] = 0 then (1000000000 : Int) else rs[y])
  rw [if_neg (by omega)]
  by_cases e : rs[y] = 0
  · rw [if_pos e]; omega
  · rw [if_neg e]; omega
def totV (vo : Vo) : Int := (vo.map fun q => q.2.2.2).sum
theorem tot_in {N : Int} : ∀ {vo : Vo}, (∀ q ∈ vo, 0 ≤ q.2.2.2 ∧ q.2.2.2 ≤ N) → 0 ≤ totV vo ∧ totV vo ≤ N * (vo.length : Int)
  | [], _ => ⟨Int.le_refl _, by show (0 : Int) ≤ N * 0; omega⟩
  | q :: vo, h => by
    have ih := tot_in (vo := vo) fun z m => h z (List.mem_cons_of_mem _ m)
    have a := h q (List.mem_cons_self ..)
    unfold totV at ih ⊢
    rw [List.map_cons, List.sum_cons, List.length_cons]
    have e : N * ((vo.length + 1 : Nat) : Int) = N * (vo.length : Int) + N := by rw [Int.natCast_add, Int.mul_add]; omega
    rw [e]
    omega
theorem du_tot : ∀ {vo : Vo}, (∀ q ∈ vo, 0 ≤ q.2.2.2) → ∀ x y, 0 ≤ duF vo x y ∧ duF vo x y ≤ totV vo
  | [], _, x, y => ⟨Int.le_refl _, Int.le_refl _⟩
  | q :: vo, h, x, y => by
    have ih := du_tot (vo := vo) (fun z m => h z (List.mem_cons_of_mem _ m)) x y
    have a := h q (List.mem_cons_self ..)
    have e : duF (q :: vo) x y = duF [q] x y + duF vo x y := duF_app [q] vo x y
    have e2 : duF [q] x y = if placeI q.2.2.1 x < placeI q.2.2.1 y then q.2.2.2 else 0 := duF_one q.1 q.2.1 q.2.2.1 q.2.2.2 x y
    have e3 : totV (q :: vo) = q.2.2.2 + totV vo := by unfold totV; rw [List.map_cons, List.sum_cons]
    rw [e, e2, e3]
    split <;> omega
theorem cut_tk {xs : List V} {j : Nat} : cutV xs none (some (j : Int)) = xs.take j := by
  unfold cutV
  rw [HT.sIx_none, HT.sIx_nat, List.drop_zero, Nat.sub_zero]
  by_cases h : j ≤ xs.length
  · rw [Nat.min_eq_left h]
  · rw [Nat.min_eq_right (by omega), List.take_of_length_le (Nat.le_refl _), List.take_of_length_le (by omega)]
theorem ups_nd (h : Nat) : (ups h).Nodup := List.pairwise_map.mpr ((List.pairwise_lt_range (n := h)).imp fun a e => by omega)
theorem nd_len {a b : List Int} (na : a.Nodup) (nb : b.Nodup) (e : ∀ z, z ∈ a ↔ z ∈ b) : a.length = b.length := ((List.perm_ext_iff_of_nodup na nb).mpr e).length_eq
theorem sum_if (l p : List Int) : (l.map fun z => if z ∈ p then (1 : Int) else 0).sum = ((l.filter fun z => decide (z ∈ p)).length : Int) := by
  induction l with
  | nil => rfl
  | cons z l ih =>
    rw [List.map_cons, List.sum_cons, ih]
    by_cases c : z ∈ p
    · rw [if_pos c, List.filter_cons_of_pos (by simpa using c), List.length_cons]; omega
    · rw [if_neg c, List.filter_cons_of_neg (by simpa using c)]; omega
theorem told_ups (h : Nat) (pk : List Int) : toldL h pk = (ups h).map fun z => if z ∈ pk then (1 : Int) else 0 := by
  unfold toldL ups
  rw [List.map_map]
  rfl
theorem told_sum {h : Nat} {pk : List Int} (nd : pk.Nodup) (sub : ∀ z ∈ pk, z ∈ ups h) : (toldL h pk).sum = (pk.length : Int) := by
  rw [told_ups, sum_if]
  congr 1
  refine nd_len ((ups_nd h).filter _) nd fun z => ?_
  rw [List.mem_filter, decide_eq_true_eq]
  exact ⟨fun k => k.2, fun k => ⟨sub z k, k⟩⟩
theorem hands_ups (h : Nat) (I : Nat → Bool) : (ups h).filter (inI I) = hands h I := by
  unfold ups hands
  rw [List.filter_map]
  congr 1
theorem hands_nd (h : Nat) (I : Nat → Bool) : (hands h I).Nodup := by rw [← hands_ups]; exact (ups_nd h).filter _
theorem told_inner {h : Nat} {I : Nat → Bool} {pk : List Int} (nd : pk.Nodup) (sub : ∀ z ∈ pk, z ∈ ups h) : ((hands h I).map fun z => if z ∈ pk then (1 : Int) else 0).sum = ((pk.filter (inI I)).length : Int) := by
  rw [sum_if]
  congr 1
  refine nd_len ((hands_nd h I).filter _) (nd.filter _) fun z => ?_
  rw [List.mem_filter, decide_eq_true_eq, List.mem_filter, ← hands_ups, List.mem_filter]
  exact ⟨fun k => ⟨k.2, k.1.2⟩, fun k => ⟨⟨sub z k.1, k.2⟩, k.1⟩⟩
theorem told_at {h i : Nat} (pk : List Int) (hi : i < h) : (toldL h pk)[i]? = some (if (i : Int) ∈ pk then 1 else 0) := by
  unfold toldL
  rw [List.getElem?_map, List.getElem?_range hi]
  rfl
theorem told_len (h : Nat) (pk : List Int) : (toldL h pk).length = h := by unfold toldL; rw [List.length_map, List.length_range]
theorem told_01 {h : Nat} {pk : List Int} {z : Int} (m : z ∈ toldL h pk) : z = 0 ∨ z = 1 := by
  unfold toldL at m
  obtain ⟨i, _, rfl⟩ := List.mem_map.mp m
  split
  · exact .inr rfl
  · exact .inl rfl
def spBeatenL (C P : Addr) : Sp := fun vs H Q _ => ∃ (a l p : Addr) (h s : Nat) (ns : List Int) (ls : Ls) (I : Nat → Bool) (z : Int), vs = [.ref a, .ref l, .ref p, .int z] ∧ MadeP C H a h s ns ∧ H l = some (.lst (vls ls)) ∧ GoodL h H ls ∧ ls.length ≤ 60 ∧ LamQ P h H ∧ H p = some (.lst ((hands h I).map V.int)) ∧ Maj h I (leadF ls) ∧ 0 ≤ z ∧ z < 10 ^ 40 ∧ ∀ H' : Hp, Same H H' → Q (.bl true) H'
theorem hands_in {h i : Nat} {I : Nat → Bool} (hi : i < h) : (i : Int) ∈ hands h I ↔ I i = true := by
  rw [hands_mem]
  exact ⟨fun ⟨k, _, k2, k3⟩ => by rw [show i = k by omega]; exact k2, fun k => ⟨i, hi, k, rfl⟩⟩
def MajV (h : Nat) (I : Nat → Bool) (vo : Vo) : Prop := ∀ x y, x < h → y < h → I x = true → I y = false → duF vo y x < duF vo x y
def spWithSet : Sp := fun vs H Q _ => ∃ (l p : Addr) (vo : Vo) (h : Nat) (I : Nat → Bool) (z : Int), vs = [.ref l, .ref p, .int (h : Int), .int z] ∧ H l = some (.lst (vvo vo)) ∧ GoodV h H vo ∧ vo.length ≤ 12 ∧ NumV vo ∧ H p = some (.lst ((hands h I).map V.int)) ∧ 1 ≤ h ∧ h ≤ 12 ∧ 0 ≤ z ∧ z < 10 ^ 40 ∧
  ∀ (b : Addr) (vo' : Vo) (H' : Hp), Same H H' → H' b = some (.lst (vvo vo')) → GoodV h H' vo' → vo'.length ≤ 24 → NumK vo' → MajV h I vo' → Q (.ref b) H'
def top (i : Nat) : Stmt := PySem.Challenge.pw_pollproof_k54_whole_sets_first.main.body.getD i (.Pass ⟨0, 0, 0, 0⟩)
abbrev s_all_of : Stmt := top 2
abbrev s_with_one : Stmt := top 3
abbrev s_members : Stmt := top 4
abbrev s_hands_of : Stmt := top 7
abbrev s_way_by : Stmt := top 10
abbrev s_is_whole : Stmt := top 17
abbrev s_is_beaten : Stmt := top 27
abbrev s_law_whole : Stmt := top 30
abbrev s_law_cell : Stmt := top 31
abbrev s_law_mixed : Stmt := top 32
abbrev s_law_order : Stmt := top 33
abbrev s_law_slip : Stmt := top 35
abbrev s_Pairs_told_by : Stmt := inClass (top 28) 5
abbrev s_overs : Stmt := top 6
abbrev s_leads_of : Stmt := top 8
abbrev s_reached_from : Stmt := top 9
abbrev s_cut_by : Stmt := top 11
abbrev s_are_hands : Stmt := top 21
abbrev s_are_seats : Stmt := top 22
abbrev s_are_lots : Stmt := top 23
abbrev s_law_ranks : Stmt := top 34
abbrev s_law_sheet : Stmt := top 37
abbrev s_law_solid : Stmt := top 38
abbrev s_Pairs_picks_by : Stmt := inClass (top 28) 3
abbrev s_strength : Stmt := top 12
abbrev s_shown_from : Stmt := top 26
abbrev s_law_votes : Stmt := top 36
abbrev s_law_with_set : Stmt := top 39
abbrev s_Way_init : Stmt := inClass (top 24) 0
abbrev s_Pairs_strengths_of : Stmt := inClass (top 28) 0
abbrev s_Pairs_counted : Stmt := inClass (top 28) 4
abbrev s_Way_outcome : Stmt := inClass (top 24) 4
abbrev s_Pairs_beats : Stmt := inClass (top 28) 1
abbrev s_law_beaten : Stmt := top 40
abbrev s_law : Stmt := top 41
theorem sc_all_of : FnScope ["hands"] ["hands"] (defScope s_all_of) := ⟨rfl, rfl, rfl, by decide +kernel, rfl, by decide +kernel, by decide +kernel⟩
theorem sc_with_one : FnScope ["mask", "hand"] ["mask", "hand"] (defScope s_with_one) := ⟨rfl, rfl, rfl, by decide +kernel, rfl, by decide +kernel, by decide +kernel⟩
theorem sc_members : FnScope ["mask"] ["mask"] (defScope s_members) := ⟨rfl, rfl, rfl, by decide +kernel, rfl, by decide +kernel, by decide +kernel⟩
theorem sc_hands_of : FnScope ["leads"] ["leads"] (defScope s_hands_of) := ⟨rfl, rfl, rfl, by decide +kernel, rfl, by decide +kernel, by decide +kernel⟩
theorem sc_way_by : FnScope ["reached", "x", "y", "way"] ["reached", "x", "y"] (defScope s_way_by) := ⟨rfl, rfl, rfl, by decide +kernel, rfl, by decide +kernel, by decide +kernel⟩
theorem sc_is_whole : FnScope ["thing"] ["thing"] (defScope s_is_whole) := ⟨rfl, rfl, rfl, by decide +kernel, rfl, by decide +kernel, by decide +kernel⟩
theorem sc_is_beaten : FnScope ["strengths", "hand", "others"] ["strengths", "hand", "others"] (defScope s_is_beaten) := ⟨rfl, rfl, rfl, by decide +kernel, rfl, by decide +kernel, by decide +kernel⟩
theorem sc_law_whole : FnScope ["_law_found"] ["_law_found"] (defScope s_law_whole) := ⟨rfl, rfl, rfl, by decide +kernel, rfl, by decide +kernel, by decide +kernel⟩
theorem sc_law_cell : FnScope ["_law_script", "_law_k"] ["_law_script", "_law_k"] (defScope s_law_cell) := ⟨rfl, rfl, rfl, by decide +kernel, rfl, by decide +kernel, by decide +kernel⟩
theorem sc_law_mixed : FnScope ["_law_cell_here", "_law_by", "_law_number"] ["_law_cell_here", "_law_by"] (defScope s_law_mixed) := ⟨rfl, rfl, rfl, by decide +kernel, rfl, by decide +kernel, by decide +kernel⟩
theorem sc_law_order : FnScope ["_law_cell_here", "_law_hands", "_law_left", "_law_found"] ["_law_cell_here", "_law_hands"] (defScope s_law_order) := ⟨rfl, rfl, rfl, by decide +kernel, rfl, by decide +kernel, by decide +kernel⟩
theorem sc_law_slip : FnScope ["_law_ranks_here", "_law_tiers", "_law_rank"] ["_law_ranks_here"] (defScope s_law_slip) := ⟨rfl, rfl, rfl, by decide +kernel, rfl, by decide +kernel, by decide +kernel⟩
theorem sc_Pairs_told_by : FnScope ["self", "paper"] ["self", "paper"] (defScope s_Pairs_told_by) := ⟨rfl, rfl, rfl, by decide +kernel, rfl, by decide +kernel, by decide +kernel⟩
theorem sc_overs : FnScope ["sheet", "hands", "many", "slip", "number", "behind", "tier", "others", "x", "y"] ["sheet", "hands"] (defScope s_overs) := ⟨rfl, rfl, rfl, by decide +kernel, rfl, by decide +kernel, by decide +kernel⟩
theorem sc_leads_of : FnScope ["many", "hands"] ["many"] (defScope s_leads_of) := ⟨rfl, rfl, rfl, by decide +kernel, rfl, by decide +kernel, by decide +kernel⟩
theorem sc_reached_from : FnScope ["leads", "x", "best", "before", "left", "through", "hand", "link"] ["leads", "x"] (defScope s_reached_from) := ⟨rfl, rfl, rfl, by decide +kernel, rfl, by decide +kernel, by decide +kernel⟩
theorem sc_cut_by : FnScope ["reached", "x", "y", "cut", "hand", "strong"] ["reached", "x", "y"] (defScope s_cut_by) := ⟨rfl, rfl, rfl, by decide +kernel, rfl, by decide +kernel, by decide +kernel⟩
theorem sc_are_hands : FnScope ["thing"] ["thing"] (defScope s_are_hands) := ⟨rfl, rfl, rfl, by decide +kernel, rfl, by decide +kernel, by decide +kernel⟩
theorem sc_are_seats : FnScope ["thing"] ["thing"] (defScope s_are_seats) := ⟨rfl, rfl, rfl, by decide +kernel, rfl, by decide +kernel, by decide +kernel⟩
theorem sc_are_lots : FnScope ["thing", "hands"] ["thing", "hands"] (defScope s_are_lots) := ⟨rfl, rfl, rfl, by decide +kernel, rfl, by decide +kernel, by decide +kernel⟩
theorem sc_law_ranks : FnScope ["_law_cell_here", "_law_hands", "_law_number", "_law_order_here", "_law_most", "_law_spread"] ["_law_cell_here", "_law_hands"] (defScope s_law_ranks) := ⟨rfl, rfl, rfl, by decide +kernel, rfl, by decide +kernel, by decide +kernel⟩
theorem sc_law_sheet : FnScope ["_law_votes_here", "_law_many", "_law_ranks_here", "_law_number", "_law_slip_here"] ["_law_votes_here"] (defScope s_law_sheet) := ⟨rfl, rfl, rfl, by decide +kernel, rfl, by decide +kernel, by decide +kernel⟩
theorem sc_law_solid : FnScope ["_law_inner", "_law_hands", "_law_number", "_law_order_here", "_law_wide", "_law_ranks_here", "_law_hand", "_law_rank"] ["_law_inner", "_law_hands", "_law_number"] (defScope s_law_solid) := ⟨rfl, rfl, rfl, by decide +kernel, rfl, by decide +kernel, by decide +kernel⟩
theorem sc_Pairs_picks_by : FnScope ["self", "strengths", "picks", "left", "first"] ["self", "strengths"] (defScope s_Pairs_picks_by) := ⟨rfl, rfl, rfl, by decide +kernel, rfl, by decide +kernel, by decide +kernel⟩
theorem sc_strength : FnScope ["leads"] ["leads"] (defScope s_strength) := ⟨rfl, rfl, rfl, by decide +kernel, rfl, by decide +kernel, by decide +kernel⟩
theorem sc_shown_from : FnScope ["reached", "x", "others"] ["reached", "x"] (defScope s_shown_from) := ⟨rfl, rfl, rfl, by decide +kernel, rfl, by decide +kernel, by decide +kernel⟩
theorem sc_law_votes : FnScope ["_law_script", "_law_start", "_law_most", "_law_hands", "_law_votes_here", "_law_k", "_law_number", "_law_many"] ["_law_script", "_law_start", "_law_most", "_law_hands"] (defScope s_law_votes) := ⟨rfl, rfl, rfl, by decide +kernel, rfl, by decide +kernel, by decide +kernel⟩
theorem sc_law_with_set : FnScope ["_law_votes_here", "_law_inner", "_law_hands", "_law_cell_here", "_law_many", "_law_some", "_law_k", "_law_number", "_law_part"] ["_law_votes_here", "_law_inner", "_law_hands", "_law_cell_here"] (defScope s_law_with_set) := ⟨rfl, rfl, rfl, by decide +kernel, rfl, by decide +kernel, by decide +kernel⟩
theorem sc_Way_init : FnScope ["self", "hands", "seats", "lots"] ["self", "hands", "seats", "lots"] (defScope s_Way_init) := ⟨rfl, rfl, rfl, by decide +kernel, rfl, by decide +kernel, by decide +kernel⟩
theorem sc_Pairs_strengths_of : FnScope ["self", "sheet"] ["self", "sheet"] (defScope s_Pairs_strengths_of) := ⟨rfl, rfl, rfl, by decide +kernel, rfl, by decide +kernel, by decide +kernel⟩
theorem sc_Pairs_counted : FnScope ["self", "sheet", "many", "leads", "shown", "strengths", "x", "reached"] ["self", "sheet"] (defScope s_Pairs_counted) := ⟨rfl, rfl, rfl, by decide +kernel, rfl, by decide +kernel, by decide +kernel⟩
theorem sc_Way_outcome : FnScope ["self", "sheet"] ["self", "sheet"] (defScope s_Way_outcome) := ⟨rfl, rfl, rfl, by decide +kernel, rfl, by decide +kernel, by decide +kernel⟩
theorem sc_Pairs_beats : FnScope ["self", "sheet", "x", "y"] ["self", "sheet", "x", "y"] (defScope s_Pairs_beats) := ⟨rfl, rfl, rfl, by decide +kernel, rfl, by decide +kernel, by decide +kernel⟩
theorem sc_law_beaten : FnScope ["_law_way", "_law_sheet_here", "_law_inner", "_law_cell_here", "_law_outer", "_law_k", "_law_other"] ["_law_way", "_law_sheet_here", "_law_inner", "_law_cell_here"] (defScope s_law_beaten) := ⟨rfl, rfl, rfl, by decide +kernel, rfl, by decide +kernel, by decide +kernel⟩
theorem sc_law : FnScope ["_law_script", "_law_first", "_law_hands", "_law_seats", "_law_way", "_law_mask", "_law_inner", "_law_sheet_here", "_law_found", "_law_picks"] ["_law_script"] (defScope s_law) := ⟨rfl, rfl, rfl, by decide +kernel, rfl, by decide +kernel, by decide +kernel⟩
structure Ads where
  f_all_of : Addr
  d_all_of : FuncData
  f_with_one : Addr
  d_with_one : FuncData
  f_members : Addr
  d_members : FuncData
  f_hands_of : Addr
  d_hands_of : FuncData
  f_way_by : Addr
  d_way_by : FuncData
  f_is_whole : Addr
  d_is_whole : FuncData
  f_is_beaten : Addr
  d_is_beaten : FuncData
  f_law_whole : Addr
  d_law_whole : FuncData
  f_law_cell : Addr
  d_law_cell : FuncData
  f_law_mixed : Addr
  d_law_mixed : FuncData
  f_law_order : Addr
  d_law_order : FuncData
  f_law_slip : Addr
  d_law_slip : FuncData
  f_Pairs_told_by : Addr
  d_Pairs_told_by : FuncData
  f_overs : Addr
  d_overs : FuncData
  f_leads_of : Addr
  d_leads_of : FuncData
  f_reached_from : Addr
  d_reached_from : FuncData
  f_cut_by : Addr
  d_cut_by : FuncData
  f_are_hands : Addr
  d_are_hands : FuncData
  f_are_seats : Addr
  d_are_seats : FuncData
  f_are_lots : Addr
  d_are_lots : FuncData
  f_law_ranks : Addr
  d_law_ranks : FuncData
  f_law_sheet : Addr
  d_law_sheet : FuncData
  f_law_solid : Addr
  d_law_solid : FuncData
  f_Pairs_picks_by : Addr
  d_Pairs_picks_by : FuncData
  f_strength : Addr
  d_strength : FuncData
  f_shown_from : Addr
  d_shown_from : FuncData
  f_law_votes : Addr
  d_law_votes : FuncData
  f_law_with_set : Addr
  d_law_with_set : FuncData
  f_Way_init : Addr
  d_Way_init : FuncData
  f_Pairs_strengths_of : Addr
  d_Pairs_strengths_of : FuncData
  f_Pairs_counted : Addr
  d_Pairs_counted : FuncData
  f_Way_outcome : Addr
  d_Way_outcome : FuncData
  f_Pairs_beats : Addr
  d_Pairs_beats : FuncData
  f_law_beaten : Addr
  d_law_beaten : FuncData
  f_law : Addr
  d_law : FuncData
  c_Pairs : Addr
  t_MOST_HANDS : Tok
  t_MOST_SEATS : Tok
  lc : Addr
  lP : Addr
structure Tx (K : PySem.W.Frag) (mg : Str → Option Value) (base : Heap) (a : Ads) : Prop where
  F_all_of : Fun K "all_of" "all_of" s_all_of a.f_all_of a.d_all_of
  b_all_of : Binds K a.d_all_of ["hands"] []
  m_all_of : mg "all_of" = some (.ref a.f_all_of)
  F_with_one : Fun K "with_one" "with_one" s_with_one a.f_with_one a.d_with_one
  b_with_one : Binds K a.d_with_one ["mask", "hand"] []
  m_with_one : mg "with_one" = some (.ref a.f_with_one)
  F_members : Fun K "members" "members" s_members a.f_members a.d_members
  b_members : Binds K a.d_members ["mask"] []
  m_members : mg "members" = some (.ref a.f_members)
  F_hands_of : Fun K "hands_of" "hands_of" s_hands_of a.f_hands_of a.d_hands_of
  b_hands_of : Binds K a.d_hands_of ["leads"] []
  m_hands_of : mg "hands_of" = some (.ref a.f_hands_of)
  F_way_by : Fun K "way_by" "way_by" s_way_by a.f_way_by a.d_way_by
  b_way_by : Binds K a.d_way_by ["reached", "x", "y"] []
  m_way_by : mg "way_by" = some (.ref a.f_way_by)
  F_is_whole : Fun K "is_whole" "is_whole" s_is_whole a.f_is_whole a.d_is_whole
  b_is_whole : Binds K a.d_is_whole ["thing"] []
  m_is_whole : mg "is_whole" = some (.ref a.f_is_whole)
  F_is_beaten : Fun K "is_beaten" "is_beaten" s_is_beaten a.f_is_beaten a.d_is_beaten
  b_is_beaten : Binds K a.d_is_beaten ["strengths", "hand", "others"] []
  m_is_beaten : mg "is_beaten" = some (.ref a.f_is_beaten)
  F_law_whole : Fun K "_law_whole" "_law_whole" s_law_whole a.f_law_whole a.d_law_whole
  b_law_whole : Binds K a.d_law_whole ["_law_found"] []
  m_law_whole : mg "_law_whole" = some (.ref a.f_law_whole)
  F_law_cell : Fun K "_law_cell" "_law_cell" s_law_cell a.f_law_cell a.d_law_cell
  b_law_cell : Binds K a.d_law_cell ["_law_script", "_law_k"] []
  m_law_cell : mg "_law_cell" = some (.ref a.f_law_cell)
  F_law_mixed : Fun K "_law_mixed" "_law_mixed" s_law_mixed a.f_law_mixed a.d_law_mixed
  b_law_mixed : Binds K a.d_law_mixed ["_law_cell_here", "_law_by"] []
  m_law_mixed : mg "_law_mixed" = some (.ref a.f_law_mixed)
  F_law_order : Fun K "_law_order" "_law_order" s_law_order a.f_law_order a.d_law_order
  b_law_order : Binds K a.d_law_order ["_law_cell_here", "_law_hands"] []
  m_law_order : mg "_law_order" = some (.ref a.f_law_order)
  F_law_slip : Fun K "_law_slip" "_law_slip" s_law_slip a.f_law_slip a.d_law_slip
  b_law_slip : Binds K a.d_law_slip ["_law_ranks_here"] []
  m_law_slip : mg "_law_slip" = some (.ref a.f_law_slip)
  F_Pairs_told_by : Fun K "told_by" "Pairs.told_by" s_Pairs_told_by a.f_Pairs_told_by a.d_Pairs_told_by
  b_Pairs_told_by : Binds K a.d_Pairs_told_by ["self", "paper"] []
  F_overs : Fun K "overs" "overs" s_overs a.f_overs a.d_overs
  b_overs : Binds K a.d_overs ["sheet", "hands"] []
  m_overs : mg "overs" = some (.ref a.f_overs)
  F_leads_of : Fun K "leads_of" "leads_of" s_leads_of a.f_leads_of a.d_leads_of
  b_leads_of : Binds K a.d_leads_of ["many"] []
  m_leads_of : mg "leads_of" = some (.ref a.f_leads_of)
  F_reached_from : Fun K "reached_from" "reached_from" s_reached_from a.f_reached_from a.d_reached_from
  b_reached_from : Binds K a.d_reached_from ["leads", "x"] []
  m_reached_from : mg "reached_from" = some (.ref a.f_reached_from)
  F_cut_by : Fun K "cut_by" "cut_by" s_cut_by a.f_cut_by a.d_cut_by
  b_cut_by : Binds K a.d_cut_by ["reached", "x", "y"] []
  m_cut_by : mg "cut_by" = some (.ref a.f_cut_by)
  F_are_hands : Fun K "are_hands" "are_hands" s_are_hands a.f_are_hands a.d_are_hands
  b_are_hands : Binds K a.d_are_hands ["thing"] []
  m_are_hands : mg "are_hands" = some (.ref a.f_are_hands)
  F_are_seats : Fun K "are_seats" "are_seats" s_are_seats a.f_are_seats a.d_are_seats
  b_are_seats : Binds K a.d_are_seats ["thing"] []
  m_are_seats : mg "are_seats" = some (.ref a.f_are_seats)
  F_are_lots : Fun K "are_lots" "are_lots" s_are_lots a.f_are_lots a.d_are_lots
  b_are_lots : Binds K a.d_are_lots ["thing", "hands"] []
  m_are_lots : mg "are_lots" = some (.ref a.f_are_lots)
  F_law_ranks : Fun K "_law_ranks" "_law_ranks" s_law_ranks a.f_law_ranks a.d_law_ranks
  b_law_ranks : Binds K a.d_law_ranks ["_law_cell_here", "_law_hands"] []
  m_law_ranks : mg "_law_ranks" = some (.ref a.f_law_ranks)
  F_law_sheet : Fun K "_law_sheet" "_law_sheet" s_law_sheet a.f_law_sheet a.d_law_sheet
  b_law_sheet : Binds K a.d_law_sheet ["_law_votes_here"] []
  m_law_sheet : mg "_law_sheet" = some (.ref a.f_law_sheet)
  F_law_solid : Fun K "_law_solid" "_law_solid" s_law_solid a.f_law_solid a.d_law_solid
  b_law_solid : Binds K a.d_law_solid ["_law_inner", "_law_hands", "_law_number"] []
  m_law_solid : mg "_law_solid" = some (.ref a.f_law_solid)
  F_Pairs_picks_by : Fun K "picks_by" "Pairs.picks_by" s_Pairs_picks_by a.f_Pairs_picks_by a.d_Pairs_picks_by
  b_Pairs_picks_by : Binds K a.d_Pairs_picks_by ["self", "strengths"] []
  F_strength : Fun K "strength" "strength" s_strength a.f_strength a.d_strength
  b_strength : Binds K a.d_strength ["leads"] []
  m_strength : mg "strength" = some (.ref a.f_strength)
  F_shown_from : Fun K "shown_from" "shown_from" s_shown_from a.f_shown_from a.d_shown_from
  b_shown_from : Binds K a.d_shown_from ["reached", "x"] []
  m_shown_from : mg "shown_from" = some (.ref a.f_shown_from)
  F_law_votes : Fun K "_law_votes" "_law_votes" s_law_votes a.f_law_votes a.d_law_votes
  b_law_votes : Binds K a.d_law_votes ["_law_script", "_law_start", "_law_most", "_law_hands"] []
  m_law_votes : mg "_law_votes" = some (.ref a.f_law_votes)
  F_law_with_set : Fun K "_law_with_set" "_law_with_set" s_law_with_set a.f_law_with_set a.d_law_with_set
  b_law_with_set : Binds K a.d_law_with_set ["_law_votes_here", "_law_inner", "_law_hands", "_law_cell_here"] []
  m_law_with_set : mg "_law_with_set" = some (.ref a.f_law_with_set)
  F_Way_init : FunD K "__init__" "Way.__init__" s_Way_init a.f_Way_init a.d_Way_init
  b_Way_init : Binds K a.d_Way_init ["self", "hands", "seats", "lots"] []
  F_Pairs_strengths_of : Fun K "strengths_of" "Pairs.strengths_of" s_Pairs_strengths_of a.f_Pairs_strengths_of a.d_Pairs_strengths_of
  b_Pairs_strengths_of : Binds K a.d_Pairs_strengths_of ["self", "sheet"] []
  F_Pairs_counted : Fun K "counted" "Pairs.counted" s_Pairs_counted a.f_Pairs_counted a.d_Pairs_counted
  b_Pairs_counted : Binds K a.d_Pairs_counted ["self", "sheet"] []
  F_Way_outcome : Fun K "outcome" "Way.outcome" s_Way_outcome a.f_Way_outcome a.d_Way_outcome
  b_Way_outcome : Binds K a.d_Way_outcome ["self", "sheet"] []
  F_Pairs_beats : Fun K "beats" "Pairs.beats" s_Pairs_beats a.f_Pairs_beats a.d_Pairs_beats
  b_Pairs_beats : Binds K a.d_Pairs_beats ["self", "sheet", "x", "y"] []
  F_law_beaten : Fun K "_law_beaten" "_law_beaten" s_law_beaten a.f_law_beaten a.d_law_beaten
  b_law_beaten : Binds K a.d_law_beaten ["_law_way", "_law_sheet_here", "_law_inner", "_law_cell_here"] []
  m_law_beaten : mg "_law_beaten" = some (.ref a.f_law_beaten)
  F_law : Fun K "law" "law" s_law a.f_law a.d_law
  b_law : Binds K a.d_law ["_law_script"] []
  m_law : mg "law" = some (.ref a.f_law)
  z_all : mg "all" = none
  z_any : mg "any" = none
  z_bool : mg "bool" = none
  z_enumerate : mg "enumerate" = none
  z_int : mg "int" = none
  z_isinstance : mg "isinstance" = none
  z_len : mg "len" = none
  z_list : mg "list" = none
  z_max : mg "max" = none
  z_min : mg "min" = none
  z_range : mg "range" = none
  z_set : mg "set" = none
  z_sorted : mg "sorted" = none
  z_sum : mg "sum" = none
  z_tuple : mg "tuple" = none
  k_MOST_HANDS : mg "MOST_HANDS" = some (.int 12 a.t_MOST_HANDS)
  k_MOST_SEATS : mg "MOST_SEATS" = some (.int 60 a.t_MOST_SEATS)
  m_Pairs : mg "Pairs" = some (.ref a.c_Pairs)
  cl_Pairs : Cls K a.c_Pairs
  mk_Pairs : Mk K a.c_Pairs a.f_Way_init
  me_Pairs_strengths_of : Meth K a.c_Pairs "strengths_of" a.f_Pairs_strengths_of
  me_Pairs_beats : Meth K a.c_Pairs "beats" a.f_Pairs_beats
  me_Pairs_picks_by : Meth K a.c_Pairs "picks_by" a.f_Pairs_picks_by
  me_Pairs_counted : Meth K a.c_Pairs "counted" a.f_Pairs_counted
  me_Pairs_told_by : Meth K a.c_Pairs "told_by" a.f_Pairs_told_by
  me_Pairs_outcome : Meth K a.c_Pairs "outcome" a.f_Way_outcome
  na_Pairs_hands : NoAttr K a.c_Pairs "hands"
  na_Pairs_seats : NoAttr K a.c_Pairs "seats"
  na_Pairs_lots : NoAttr K a.c_Pairs "lots"
  lam : LamB base mg a.lc a.lP
  lcode : a.d_reached_from.code = .ref a.lc
local macro_rules | `(tactic| trivial) => `(tactic| refine Sz.neg (by trivial))
local macro_rules | `(tactic| trivial) => `(tactic| refine Sz.fdiv (by trivial))
local macro_rules | `(tactic| trivial) => `(tactic| refine Sz.sub (by trivial) (by trivial))
local macro_rules | `(tactic| trivial) => `(tactic| refine Sz.add (by trivial) (by trivial))
local macro_rules | `(tactic| trivial) => `(tactic| refine Sz.mul (by trivial) (by trivial))
local macro_rules | `(tactic| trivial) => `(tactic| exact sz_fmod _ (by first | decide | decide +kernel) (szd 200))
local macro_rules | `(tactic| trivial) => `(tactic| first | assumption | exact szd 64 | exact szd 200 | exact szd 1000)
local macro_rules | `(tactic| and_intros) => `(tactic| (repeat (first | refine ⟨_, rfl, ?_⟩ | refine ⟨_, _, rfl, rfl, ?_⟩ | refine ⟨rfl, ?_⟩ | refine ⟨(by show (_ : Int) ≠ 0; first | decide | decide +kernel), ?_⟩ | refine ⟨⟨(by show (_ : Int) ≠ 0; decide), szd 9000⟩, ?_⟩ | refine ⟨(by show CPow _ _; exact ⟨by decide, by decide, by decide⟩), ?_⟩ | refine ⟨(by show CMulB _ _; refine ⟨_, _, (by trivial), (by trivial), ?_⟩; decide +kernel), ?_⟩ | refine ⟨_, _, _, _, rfl, rfl, SqL.of (by assumption), (by rfl), ?_⟩ | refine ⟨_, _, _, _, rfl, rfl, SqT.of (by assumption), (by rfl), ?_⟩ | refine ⟨_, _, rfl, .inl (SqL.of (by assumption)), ?_⟩ | refine ⟨_, _, rfl, .inr (SqT.of (by assumption)), ?_⟩)))
section
variable {P : Program} {w : World} {K : PySem.W.Frag} {mg : Str → Option Value} {base : Heap} {ad : Ads}
theorem ok_all_of (T : Tx K mg base ad) : FnOk P w K mg base CX0 1 ad.f_all_of ad.d_all_of ["hands"] spAll := by
  refine T.F_all_of.ok sc_all_of (fun vs H Q E h => ?_) (fun cdv A outer s H vs Q E hr h => ?_)
  · obtain ⟨h, rfl, _⟩ := h
    rfl
  obtain ⟨h, rfl, h0, h1, q⟩ := h
  refine ⟨_, (@pss_one _ _ _ (@ps_ret _ _ _ _ (@pe_op _ _ _ _ _ _ _ _ op_sub (@pe_op _ _ _ _ _ _ _ _ op_shl pe_int (pv 0)) pe_int))), ?_⟩
  exact ⟨_, rfl, _, _, rfl, rfl, ⟨h0, by omega, by decide⟩, _, _, rfl, rfl, q⟩
theorem ok_with_one (T : Tx K mg base ad) : FnOk P w K mg base CX0 1 ad.f_with_one ad.d_with_one ["mask", "hand"] spWith := by
  refine T.F_with_one.ok sc_with_one (fun vs H Q E h => ?_) (fun cdv A outer s H vs Q E hr h => ?_)
  · obtain ⟨m, h, rfl, _⟩ := h
    rfl
  obtain ⟨m, h, rfl, h0, h1, q⟩ := h
  refine ⟨_, (@pss_one _ _ _ (@ps_ret _ _ _ _ (@pe_op _ _ _ _ _ _ _ _ op_or (pv 0) (@pe_op _ _ _ _ _ _ _ _ op_shl pe_int (pv 1))))), ?_⟩
  exact ⟨_, rfl, _, rfl, _, _, rfl, rfl, ⟨h0, by omega, by decide⟩, _, _, rfl, rfl, q⟩
theorem ok_members (T : Tx K mg base ad) : FnOk P w K mg base CX0 1 ad.f_members ad.d_members ["mask"] spMembers := by
  refine T.F_members.ok sc_members (fun vs H Q E h => ?_) (fun cdv A outer s H vs Q E hr h => ?_)
  · obtain ⟨m, rfl, _⟩ := h
    rfl
  obtain ⟨m, rfl, m0, m1, q⟩ := h
  refine ⟨_, (@pss_one _ _ _ (@ps_ret _ _ _ _ (pe_comp (fsc := defScope s_members) (N := ["mask"]) (Nc := ["mask", "hand"]) rfl rfl ⟨rfl, by decide +kernel, by decide +kernel, rfl, by decide +kernel, rfl, by decide +kernel, rfl, by decide +kernel⟩ rfl (pi_range1 rfl T.z_range (@pa_cons _ _ _ _ _ (pe_bm0 PySem.F.plainAttrs_int PySem.F.slot_int_bit_length PySem.F.type_int_bit_length mt_bits (pv 0)) pa_nil (by rfl))) (fun _ _ _ _ => (pif_one (@pt_cmpR _ _ _ _ _ _ _ _ op_eq (@pe_op _ _ _ _ _ _ _ _ op_and (@pe_op _ _ _ _ _ _ _ _ op_shr (pv 0) (pv 1)) pe_int) pe_int (nomark _)))) (fun _ _ _ _ => (pv 1))))), ?_⟩
  have hb : (Builtin.Int.intBits m) ≤ 12 := intBits_le_iff.mpr (by show m.natAbs < 4096; omega)
  refine ⟨_, rfl, rfl, m, rfl, rfl, _, rfl, by omega, by omega, ?_⟩
  have en : ((Builtin.Int.intBits m : Nat) : Int).toNat = Builtin.Int.intBits m := by omega
  rw [en]
  refine comp_range (small63 (by omega)) (fun D i ys H' => ys = (hands i (bit m)).map V.int ∧ H' = upd H D (.lst ys)) (fun D hD => ⟨rfl, rfl⟩) (fun D i ys H' ⟨e1, e2⟩ => by rw [e2, e1]; exact ⟨upd_same, by rw [List.length_map]; exact hands_len i (bit m)⟩) ?_ ?_
  · rintro D i ys H' K1 K2 hD hi ⟨e1, rfl⟩ k1 k2
    have ei : (0 + (i : Int)).toNat = i := by omega
    refine ⟨_, rfl, _, rfl, _, _, rfl, rfl, (by show (0 : Int) ≤ 0 + (i : Int); omega), _, _, rfl, rfl, rfl, _, rfl, ?_⟩
    dsimp only
    rw [show decide (V.int (Builtin.bitAnd (m / 2 ^ (0 + (i : Int)).toNat) 1) = V.int 1) = bit m i from by rw [holds_bit, ei]]
    have ms := hands_succ i (bit m)
    cases e : bit m i with
    | true =>
      rw [e, if_pos rfl] at ms
      refine iteT ⟨_, rfl, ?_⟩
      refine k1 _ _ upd_same ⟨?_, by rw [upd_upd]⟩
      rw [ms, List.map_append, e1, Int.zero_add]
      rfl
    | false =>
      rw [e, if_neg (by decide)] at ms
      refine iteF ?_
      exact k2 _ ⟨by rw [ms]; exact e1, rfl⟩
  · rintro D ys H' hD ⟨rfl, rfl⟩
    refine q D _ hD (same_new hD _) ?_
    rw [upd_same, bits_all m0 m1]
theorem ok_hands_of (T : Tx K mg base ad) : FnOk P w K mg base CX0 1 ad.f_hands_of ad.d_hands_of ["leads"] spHandsOf := by
  refine T.F_hands_of.ok sc_hands_of (fun vs H Q E h => ?_) (fun cdv A outer s H vs Q E hr h => ?_)
  · obtain ⟨a, t, h, rfl, _⟩ := h
    rfl
  obtain ⟨a, t, h, rfl, ha, hl, h12, q⟩ := h
  refine ⟨_, (@pss_one _ _ _ (@ps_ret _ _ _ _ (pe_listrange rfl (by rfl) T.z_list (by rfl) T.z_range (@pe_callB _ _ _ _ _ _ _ _ _ call_len_seq (by rfl) T.z_len PySem.boot_len (@pa_cons _ _ _ _ _ (pv 0) pa_nil (by rfl)) (by decide) (by decide) (by rfl) (by rfl))))), ?_⟩
  and_intros
  have e : (vtb t).length = h := by unfold vtb; rw [List.length_map, hl]
  refine ⟨by omega, fun l hl0 => ?_⟩
  rw [e, show (List.map (fun i : Nat => V.int (i : Int)) (List.range h)) = (ups h).map V.int from (by unfold ups; rw [List.map_map]; rfl)]
  exact q l _ hl0 (same_new hl0 _) upd_same
theorem ok_way_by (T : Tx K mg base ad) : FnOk P w K mg base CX0 1 ad.f_way_by ad.d_way_by ["reached", "x", "y"] spWayBy := by
  refine T.F_way_by.ok sc_way_by (fun vs H Q E h => ?_) (fun cdv A outer s H vs Q E hr h => ?_)
  · obtain ⟨t, h, x, y, L, be, rfl, _⟩ := h
    rfl
  obtain ⟨t, h, x, y, L, be, rfl, td, hy, yx, h12, q⟩ := h
  refine ⟨_, (@pss_cons _ _ _ _ _ (@ps_set _ _ (3) _ _ _ _ sc_way_by.nd rfl (Or.inl rfl) (@pe_lst _ _ _ _ (@pa_cons _ _ _ _ _ (pv 2) pa_nil (by rfl))) (by rfl) (by first | exact .inl rfl | exact .inr rfl | assumption)) (@pss_cons _ _ _ _ _ (ps_while PassesOwn.never (@pt_cmpR _ _ _ _ _ _ _ _ op_ne (@pe_ix _ _ _ _ _ _ _ ix_list (pv 3) pe_int (fun _ _ => rfl)) (pv 1) (nomark _)) (@pss_one _ _ _ (@ps_expr _ _ _ _ (pe_bm PySem.F.plainAttrs_list PySem.F.slot_list_insert PySem.F.type_list_insert mt_insert (pv 3) (@pa_cons _ _ _ _ _ pe_int (@pa_cons _ _ _ _ _ (@pe_ix _ _ _ _ _ _ _ ix_list (@pe_ix _ _ _ _ _ _ _ ix_tup (pv 0) pe_int (fun _ _ => rfl)) (@pe_ix _ _ _ _ _ _ _ ix_list (pv 3) pe_int (fun _ _ => rfl)) (fun _ _ => rfl)) pa_nil (by rfl)) (by rfl))) (by rfl)))) (@pss_one _ _ _ (@ps_ret _ _ _ _ (pv 3))))), ?_⟩
  obtain ⟨b, f, bf, et, eb, ef, re⟩ := td.is
  obtain ⟨rk, par⟩ := re.par
  and_intros
  refine ⟨(by show 1 ≤ sizeLine; decide), fun l hl => ?_⟩
  have s1 := same_new hl (.lst [V.int (y : Int)])
  have e1 : (upd H l (.lst [V.int (y : Int)])) l = some (.lst ((natz (y :: [])).map V.int)) := upd_same
  generalize upd H l (.lst [V.int (y : Int)]) = H1 at s1 e1 ⊢
  refine ⟨fun m σ' H' => ∃ (w : Nat) (r : List Nat), σ' = [some (.ref t), some (.int (x : Int)), some (.int (y : Int)), some (.ref l)] ∧ Same H H' ∧ H' l = some (.lst ((natz (w :: r)).map V.int)) ∧ Part h x y L be rk w r ∧ rk w = m, ⟨_, y, [], rfl, s1, e1, Part.start rk hy yx, rfl⟩, ?_⟩
  rintro m σ' H' ⟨w, r, rfl, s2, e2, pt, rm⟩
  have wh : w < h := pt.all w (List.mem_cons_self ..)
  have at0 : atI ((natz (w :: r)).map V.int) ((0 : Nat) : Int) = some (.int (w : Int)) := atI_nat rfl
  have rl : r.length ≤ 12 := by
    have := nodup_len (xs := natz (w :: r)) (ys := ups h) (List.Pairwise.map _ (fun a b (ne : a ≠ b) e => ne (Int.ofNat.inj e)) (pt.rise.imp fun z e => by rw [e] at z; exact Nat.lt_irrefl _ z)) fun z mz => by
      obtain ⟨v, mv, rfl⟩ := List.mem_map.mp mz
      exact List.mem_map.mpr ⟨v, List.mem_range.mpr (pt.all v mv), rfl⟩
    unfold natz at this
    rw [List.length_map, ups_len, List.length_cons] at this
    omega
  refine ⟨_, rfl, l, _, _, _, rfl, rfl, SqL.of e2, at0, ?_⟩
  and_intros
  by_cases c : w = x
  · refine ifF (ne_f (by rw [c])) ?_
    subst c
    and_intros
    exact q l (w :: r) H' hl s2 e2 pt.way
  · refine ifT (ne_t fun e => c (Int.ofNat.inj e)) ?_
    obtain ⟨p, hp, p1, p2, p3, p4⟩ := par w wh c
    refine ⟨fun σ' H' => ∃ (w' : Nat) (r : List Nat), σ' = [some (.ref t), some (.int (x : Int)), some (.int (y : Int)), some (.ref l)] ∧ Same H H' ∧ H' l = some (.lst ((natz (w' :: r)).map V.int)) ∧ Part h x y L be rk w' r ∧ rk w' < m, fun σ' H' ⟨w', r, a1, a2, a3, a4, a5⟩ => ⟨rk w', a5, w', r, a1, a2, a3, a4, rfl⟩, ?_⟩
    have et2 := s2 _ _ et
    and_intros
    refine ⟨.inl ⟨rfl, _, SqL.of e2⟩, ?_⟩
    and_intros
    refine ⟨l, _, _, _, rfl, rfl, SqL.of e2, at0, ?_⟩
    refine ⟨f, _, _, _, rfl, rfl, SqL.of (s2 _ _ ef), atG (by rw [re.lenf]; exact wh), ?_⟩
    rw [p1]
    refine ⟨l, _, 0, V.int (p : Int), rfl, rfl, e2, Nat.zero_le _, small1000 (by unfold natz; rw [List.length_map, List.length_map, List.length_cons]; omega), ?_⟩
    exact ⟨p, w :: r, rfl, same_upd s2 hl, by rw [upd_same]; rfl, pt.step c hp p2 p3 p4, by omega⟩
theorem ok_is_whole (T : Tx K mg base ad) : FnOk P w K mg base CX0 1 ad.f_is_whole ad.d_is_whole ["thing"] spWhole := by
  refine T.F_is_whole.ok sc_is_whole (fun vs H Q E h => ?_) (fun cdv A outer s H vs Q E hr h => ?_)
  · obtain ⟨c, rfl, _⟩ := h
    rfl
  obtain ⟨c, rfl, q⟩ := h
  refine ⟨_, (@pss_one _ _ _ (@ps_ret _ _ _ _ (@pe_and _ _ _ _ _ _ _ (@pe_callB _ _ _ _ _ _ _ _ _ call_isi (by rfl) T.z_isinstance PyProof.Rows.boot_isinstance (@pa_cons _ _ _ _ _ (pv 0) (@pa_cons _ _ _ _ _ (pe_bltn (v := .ty "int") rfl T.z_int PyProof.Rows.boot_int rfl) pa_nil (by rfl)) (by rfl)) (by decide) (by decide) (by rfl) (by rfl)) (@pe_one _ _ _ _ _ (@pe_not _ _ _ _ (@pe_callB _ _ _ _ _ _ _ _ _ call_isi (by rfl) T.z_isinstance PyProof.Rows.boot_isinstance (@pa_cons _ _ _ _ _ (pv 0) (@pa_cons _ _ _ _ _ (pe_bltn (v := .ty "bool") rfl T.z_bool PyProof.Rows.boot_bool rfl) pa_nil (by rfl)) (by rfl)) (by decide) (by decide) (by rfl) (by rfl))))))), ?_⟩
  refine ⟨_, rfl, _, _, _, _, rfl, TyOf.int c, kit_int_int, _, rfl, ?_⟩
  refine iteT ?_
  exact ⟨_, rfl, _, _, _, _, rfl, TyOf.int c, kit_int_bool, _, rfl, q⟩
theorem ok_is_beaten (T : Tx K mg base ad) : FnOk P w K mg base CX0 1 ad.f_is_beaten ad.d_is_beaten ["strengths", "hand", "others"] spBeaten := by
  refine T.F_is_beaten.ok sc_is_beaten (fun vs H Q E h => ?_) (fun cdv A outer s H vs Q E hr h => ?_)
  · obtain ⟨r, l, rs, h, i, F, zs, rfl, _⟩ := h
    rfl
  obtain ⟨r, l, rs, h, i, F, zs, rfl, hr0, tb, hi, hl, sub, z60, q⟩ := h
  refine ⟨_, (@pss_one _ _ _ (@ps_ret _ _ _ _ (@pe_callB _ _ _ _ _ _ _ _ _ (call_any rfl) (by rfl) T.z_any PyProof.Rows.boot_any (@pa_cons _ _ _ _ _ (pe_comp (fsc := defScope s_is_beaten) (N := ["strengths", "hand", "others"]) (Nc := ["strengths", "hand", "others", "other"]) rfl rfl ⟨rfl, by decide +kernel, by decide +kernel, rfl, by decide +kernel, rfl, by decide +kernel, rfl, by decide +kernel⟩ rfl (pi_list (pv 2)) (fun _ _ _ _ => pif_nil) (fun _ _ _ _ => (@pe_cmpR _ _ _ _ _ _ _ _ op_gt (@pe_ix _ _ _ _ _ _ _ (ix_listK K) (@pe_ix _ _ _ _ _ _ _ (ix_listK K) (pv 0) (pv 3) (fun _ _ => rfl)) (pv 1) (fun _ _ => rfl)) (@pe_ix _ _ _ _ _ _ _ (ix_listK K) (@pe_ix _ _ _ _ _ _ _ (ix_listK K) (pv 0) (pv 1) (fun _ _ => rfl)) (pv 3) (fun _ _ => rfl)) (nomark _)))) pa_nil (by rfl)) (by decide) (by decide) (by rfl) (by rfl)))), ?_⟩
  refine ⟨_, rfl, l, rfl, ⟨_, SqL.of hl⟩, ?_⟩
  refine comp_list (xs := zs.map V.int) (by rw [List.length_map]; exact small63 (by omega)) (fun D k ys J => ys = ((zs.take k).map (beatI F (i : Int))).map V.bl ∧ J = upd H D (.lst ys)) (fun D hD => ⟨rfl, rfl⟩) (fun D k ys J ⟨f1, f2⟩ => ⟨by rw [f2]; exact upd_same, by rw [f1, List.length_map, List.length_map]; exact List.length_take_le _ _⟩) (fun D k ys J hD ⟨_, f2⟩ => by rw [f2]; exact SqL.of (same_new hD _ _ _ hl)) ?_ ?_
  · rintro D k w ys J K1 K2 hD hw ⟨f1, rfl⟩ k1 k2
    obtain ⟨z, hz, rfl⟩ := int_at hw
    obtain ⟨j, hj, rfl⟩ := sub z (List.mem_of_getElem? hz)
    have sD := same_new hD (.lst ys)
    obtain ⟨ai, _, _, a3, a4⟩ := (tb.same sD).row hi
    obtain ⟨aj, _, _, b3, b4⟩ := (tb.same sD).row hj
    have er := sD _ _ hr0
    refine yes (ifT rfl ?_)
    refine ⟨_, rfl, _, rfl, r, _, _, _, rfl, rfl, SqL.of er, b3, ?_⟩
    refine ⟨_, rfl, aj, _, _, _, rfl, rfl, SqL.of b4, row_cell (F j) hi, ?_⟩
    refine ⟨_, rfl, _, rfl, r, _, _, _, rfl, rfl, SqL.of er, a3, ?_⟩
    refine ⟨_, rfl, ai, _, _, _, rfl, rfl, SqL.of a4, row_cell (F i) hj, ?_⟩
    and_intros
    refine k1 _ _ upd_same ⟨?_, by rw [upd_upd]⟩
    rw [f1, List.take_add_one, hz, List.map_append, List.map_append]
    rfl
  rintro D ys H1 hD ⟨rfl, rfl⟩
  rw [List.length_map, List.take_of_length_le (Nat.le_refl _)]
  refine ⟨D, _, rfl, SqL.of upd_same, ?_⟩
  rw [show (zs.map (beatI F (i : Int))).any id = beaten F (i : Int) zs from (by unfold beaten; rw [List.any_map]; rfl)]
  exact q _ (same_new hD _)
theorem ok_law_whole (T : Tx K mg base ad) : FnOk P w K mg base CX0 1 ad.f_law_whole ad.d_law_whole ["_law_found"] spWhole := by
  refine T.F_law_whole.ok sc_law_whole (fun vs H Q E h => ?_) (fun cdv A outer s H vs Q E hr h => ?_)
  · obtain ⟨c, rfl, _⟩ := h
    rfl
  obtain ⟨c, rfl, q⟩ := h
  refine ⟨_, (@pss_one _ _ _ (@ps_ret _ _ _ _ (@pe_and _ _ _ _ _ _ _ (@pe_callB _ _ _ _ _ _ _ _ _ call_isi (by rfl) T.z_isinstance PyProof.Rows.boot_isinstance (@pa_cons _ _ _ _ _ (pv 0) (@pa_cons _ _ _ _ _ (pe_bltn (v := .ty "int") rfl T.z_int PyProof.Rows.boot_int rfl) pa_nil (by rfl)) (by rfl)) (by decide) (by decide) (by rfl) (by rfl)) (@pe_one _ _ _ _ _ (@pe_not _ _ _ _ (@pe_callB _ _ _ _ _ _ _ _ _ call_isi (by rfl) T.z_isinstance PyProof.Rows.boot_isinstance (@pa_cons _ _ _ _ _ (pv 0) (@pa_cons _ _ _ _ _ (pe_bltn (v := .ty "bool") rfl T.z_bool PyProof.Rows.boot_bool rfl) pa_nil (by rfl)) (by rfl)) (by decide) (by decide) (by rfl) (by rfl))))))), ?_⟩
  refine ⟨_, rfl, _, _, _, _, rfl, TyOf.int c, kit_int_int, _, rfl, ?_⟩
  refine iteT ?_
  exact ⟨_, rfl, _, _, _, _, rfl, TyOf.int c, kit_int_bool, _, rfl, q⟩
theorem ok_law_cell (T : Tx K mg base ad) : FnOk P w K mg base CX0 1 ad.f_law_cell ad.d_law_cell ["_law_script", "_law_k"] (spC40 K) := by
  refine T.F_law_cell.ok sc_law_cell (fun vs H Q E h => ?_) (fun cdv A outer s H vs Q E hr h => ?_)
  · obtain ⟨p, ns, k, rfl, _⟩ := h
    rfl
  obtain ⟨p, ns, k, rfl, hS, h63, k0, k1, q⟩ := h
  refine ⟨_, (@pss_cons _ _ _ _ _ (@ps_if _ _ _ _ _ _ _ _ (@pt_cmpR _ _ _ _ _ _ _ _ op_lt (pv 1) (@pe_callB _ _ _ _ _ _ _ _ _ call_len_seq (by rfl) T.z_len PySem.boot_len (@pa_cons _ _ _ _ _ (pv 0) pa_nil (by rfl)) (by decide) (by decide) (by rfl) (by rfl)) (nomark _)) (@pss_one _ _ _ (@ps_ret _ _ _ _ (@pe_op _ _ _ _ _ _ _ _ op_modN (@pe_ix _ _ _ _ _ _ _ ix_list (pv 0) (pv 1) (fun _ _ => rfl)) (@pe_op _ _ _ _ _ _ _ _ op_pow pe_int pe_int)))) pss_nil) (@pss_one _ _ _ (@ps_ret _ _ _ _ (@pe_op _ _ _ _ _ _ _ _ op_modN (@pe_op _ _ _ _ _ _ _ _ op_mulB (@pe_op _ _ _ _ _ _ _ _ op_add (@pe_op _ _ _ _ _ _ _ _ op_mulB (pv 1) (pv 1)) pe_int) pe_int) pe_int)))), ?_⟩
  have hl : (ns.map V.int).length = ns.length := List.length_map _
  have szk : Sz 64 k := sz_of (by omega) (by omega)
  have p40 : (0 : Int) < 10 ^ (40 : Int).toNat := by decide +kernel
  refine ⟨_, rfl, _, rfl, p, _, rfl, .inl hS, _, _, rfl, rfl, _, rfl, ?_⟩
  refine ite2 (fun c => ?_) (fun c => ?_)
  · have c' : k < (((ns.map V.int).length : Nat) : Int) := of_decide_eq_true c
    rw [hl] at c'
    obtain ⟨v, hv⟩ := item_at k0 c'
    refine ⟨_, rfl, _, rfl, p, _, _, _, rfl, rfl, hS, hv, _, _, rfl, rfl, cpow40, _, _, rfl, rfl, (Int.ne_of_gt p40), ?_⟩
    exact q _ (fmod_in v p40).1 (fmod_in v p40).2
  · and_intros
    have m := fmod_in ((k * k + 7) * 48271) (show (0 : Int) < 1009 by decide)
    exact q _ m.1 (Int.lt_trans m.2 (by decide))
theorem ok_law_mixed (T : Tx K mg base ad) : FnOk P w K mg base CX0 1 ad.f_law_mixed ad.d_law_mixed ["_law_cell_here", "_law_by"] spMixed := by
  refine T.F_law_mixed.ok sc_law_mixed (fun vs H Q E h => ?_) (fun cdv A outer s H vs Q E hr h => ?_)
  · obtain ⟨c, b, rfl, _⟩ := h
    rfl
  obtain ⟨c, b, rfl, szc, szb, q⟩ := h
  refine ⟨_, (@pss_cons _ _ _ _ _ (@ps_set _ _ (2) _ _ _ _ sc_law_mixed.nd rfl (Or.inl rfl) (@pe_op _ _ _ _ _ _ _ _ op_add (@pe_op _ _ _ _ _ _ _ _ op_mulB (pv 0) pe_int) (@pe_op _ _ _ _ _ _ _ _ op_mulB (pv 1) pe_int)) (by rfl) (by first | exact .inl rfl | exact .inr rfl | assumption)) (@pss_cons _ _ _ _ _ (@ps_set _ _ (2) _ _ _ _ sc_law_mixed.nd rfl (Or.inl rfl) (@pe_op _ _ _ _ _ _ _ _ op_modN (@pe_op _ _ _ _ _ _ _ _ op_add (pv 2) pe_int) (@pe_op _ _ _ _ _ _ _ _ op_add (@pe_op _ _ _ _ _ _ _ _ op_pow pe_int pe_int) pe_int)) (by rfl) (by first | exact .inl rfl | exact .inr rfl | assumption)) (@pss_one _ _ _ (@ps_ret _ _ _ _ (@pe_op _ _ _ _ _ _ _ _ op_fdivB (@pe_op _ _ _ _ _ _ _ _ op_modN (@pe_op _ _ _ _ _ _ _ _ op_mulB (pv 2) (pv 2)) (@pe_op _ _ _ _ _ _ _ _ op_add (@pe_op _ _ _ _ _ _ _ _ op_pow pe_int pe_int) pe_int)) pe_int))))), ?_⟩
  and_intros
  exact q _ (mix_end _).1 (mix_end _).2
theorem ok_law_order (T : Tx K mg base ad) : FnOk P w K mg base CX0 1 ad.f_law_order ad.d_law_order ["_law_cell_here", "_law_hands"] spOrder51 := by
  refine T.F_law_order.ok sc_law_order (fun vs H Q E h => ?_) (fun cdv A outer s H vs Q E hr h => ?_)
  · obtain ⟨c, h, rfl, _⟩ := h
    rfl
  obtain ⟨c, h, rfl, c0, c1, h1, h12, q⟩ := h
  refine ⟨_, (@pss_cons _ _ _ _ _ (@ps_set _ _ (2) _ _ _ _ sc_law_order.nd rfl (Or.inl rfl) (pe_listrange rfl (by rfl) T.z_list (by rfl) T.z_range (pv 1)) (by rfl) (by first | exact .inl rfl | exact .inr rfl | assumption)) (@pss_cons _ _ _ _ _ (@ps_set _ _ (3) _ _ _ _ sc_law_order.nd rfl (Or.inl rfl) (@pe_lst _ _ _ _ pa_nil) (by rfl) (by first | exact .inl rfl | exact .inr rfl | assumption)) (@pss_cons _ _ _ _ _ (ps_while PassesOwn.never (@pt_cmpR _ _ _ _ _ _ _ _ (op_neD (K := K) hr.units) (pv 2) (@pe_lst _ _ _ _ pa_nil) (nomark _)) (@pss_cons _ _ _ _ _ (@ps_expr _ _ _ _ (pe_bm PySem.F.plainAttrs_list PySem.F.slot_list_append PySem.F.type_list_append mt_append (pv 3) (@pa_cons _ _ _ _ _ (pe_bm PySem.F.plainAttrs_list PySem.F.slot_list_pop PySem.F.type_list_pop mt_popAt (pv 2) (@pa_cons _ _ _ _ _ (@pe_op _ _ _ _ _ _ _ _ op_modN (pv 0) (@pe_callB _ _ _ _ _ _ _ _ _ call_len_seq (by rfl) T.z_len PySem.boot_len (@pa_cons _ _ _ _ _ (pv 2) pa_nil (by rfl)) (by decide) (by decide) (by rfl) (by rfl))) pa_nil (by rfl))) pa_nil (by rfl))) (by rfl)) (@pss_one _ _ _ (@ps_set _ _ (0) _ _ _ _ sc_law_order.nd rfl (Or.inl rfl) (@pe_op _ _ _ _ _ _ _ _ op_fdivB (pv 0) (@pe_op _ _ _ _ _ _ _ _ op_add (@pe_callB _ _ _ _ _ _ _ _ _ call_len_seq (by rfl) T.z_len PySem.boot_len (@pa_cons _ _ _ _ _ (pv 2) pa_nil (by rfl)) (by decide) (by decide) (by rfl) (by rfl)) pe_int)) (by rfl) (by first | exact .inl rfl | exact .inr rfl | assumption))))) (@pss_one _ _ _ (@ps_ret _ _ _ _ (pv 3)))))), ?_⟩
  obtain ⟨n, rfl⟩ : ∃ n : Nat, h = (n : Int) := ⟨h.toNat, by omega⟩
  and_intros
  refine ⟨by omega, fun l hl => ?_⟩
  rw [show (List.map (fun i : Nat => V.int (i : Int)) (List.range n)) = (ups n).map V.int from (by unfold ups; rw [List.map_map]; rfl)]
  have s1 := same_new hl (.lst ((ups n).map V.int))
  have e1 : (upd H l (.lst ((ups n).map V.int))) l = some (.lst ((ups n).map V.int)) := upd_same
  generalize upd H l (.lst ((ups n).map V.int)) = H1 at s1 e1 ⊢
  refine ⟨(by show 0 ≤ sizeLine; decide), fun lo hlo0 => ?_⟩
  have ll : l ≠ lo := fun z => by rw [← z, e1] at hlo0; cases hlo0
  have hlo : H lo = none := none_of s1 hlo0
  have s2 := s1.trans (same_new hlo0 (.lst []))
  have e2 : (upd H1 lo (.lst [])) l = some (.lst ((ups n).map V.int)) := by rw [upd_ne ll]; exact e1
  have e3 : (upd H1 lo (.lst [])) lo = some (.lst (([] : List Int).map V.int)) := upd_same
  generalize upd H1 lo (.lst []) = H2 at s2 e2 e3 ⊢
  refine ⟨fun m σ' H' => ∃ (z : Int) (left got : List Int), σ' = [some (.int z), some (.int (n : Int)), some (.ref l), some (.ref lo)] ∧ 0 ≤ z ∧ z < 10 ^ 40 ∧ Same H H' ∧ H' l = some (.lst (left.map V.int)) ∧ H' lo = some (.lst (got.map V.int)) ∧ left.length = m ∧ left.length ≤ 12 ∧ got.length ≤ 12 - left.length ∧ (got ++ left).Perm (ups n), ⟨n, c, ups n, [], rfl, c0, c1, s2, e2, e3, ups_len n, by rw [ups_len]; omega, Nat.zero_le _, List.Perm.refl _⟩, ?_⟩
  rintro m σ' H' ⟨z, left, got, rfl, z0, z1, s3, f1, f2, f3, f6, f4, f5⟩
  refine ⟨_, rfl, (by show 0 ≤ sizeLine; decide), fun z3 hz3 => ?_⟩
  have s34 := same_new hz3 (.lst [])
  have e4 : (upd H' z3 (.lst [])) z3 = some (.lst (([] : List Int).map V.int)) := upd_same
  generalize upd H' z3 (.lst []) = H4 at s34 e4 ⊢
  refine ⟨.list (left.map .int), .list (([] : List Int).map .int), .lst (SqL.of (s34 _ _ f1)) (.ints _), .lst (SqL.of e4) (.ints []), (shape_ints _).2, (shape_ints _).2, ?_⟩
  rw [show PyData.eqv (.list (left.map .int)) (.list (([] : List Int).map .int)) = decide (left = []) from eqv_ints _ _]
  refine ⟨_, rfl, ?_⟩
  have g1 := s34 _ _ f1
  have g2 := s34 _ _ f2
  have s4 := s3.trans s34
  by_cases cl : left = []
  · refine ifF (by rw [decide_eq_true cl]; rfl) ?_
    rw [cl, List.append_nil] at f5
    and_intros
    exact q lo got H4 s4 g2 (by rw [Int.toNat_natCast]; exact f5)
  · refine ifT (by rw [decide_eq_false cl]; rfl) ?_
    have pl : 0 < left.length := List.length_pos_iff.mpr cl
    refine ⟨fun σ' H' => ∃ (z : Int) (left' got' : List Int), σ' = [some (.int z), some (.int (n : Int)), some (.ref l), some (.ref lo)] ∧ 0 ≤ z ∧ z < 10 ^ 40 ∧ Same H H' ∧ H' l = some (.lst (left'.map V.int)) ∧ H' lo = some (.lst (got'.map V.int)) ∧ left'.length = m - 1 ∧ left'.length ≤ 12 ∧ got'.length ≤ 12 - left'.length ∧ (got' ++ left').Perm (ups n), fun σ' H' e => ⟨m - 1, by omega, e⟩, ?_⟩
    have mm := fmod_in z (show (0 : Int) < (left.length : Int) by omega)
    and_intros
    refine ⟨.inl ⟨rfl, _, SqL.of g2⟩, ?_⟩
    and_intros
    refine ⟨.inl ⟨rfl, _, SqL.of g1⟩, ?_⟩
    and_intros
    refine ⟨(by show (_ : Int) ≠ 0; rw [List.length_map]; omega), ?_⟩
    dsimp only
    rw [List.length_map]
    generalize z.fmod (left.length : Int) = j' at mm ⊢
    obtain ⟨j, rfl⟩ : ∃ j : Nat, j' = (j : Int) := ⟨j'.toNat, by omega⟩
    have hj : j < left.length := by omega
    refine ⟨l, _, _, j, V.int left[j], rfl, rfl, g1, by omega, by omega, seqAt (by rw [List.length_map]; exact hj), (by rw [List.getElem?_map, List.getElem?_eq_getElem hj]; rfl), ?_⟩
    have k2 : (upd H4 l (.lst ((left.map V.int).eraseIdx j))) lo = some (.lst (got.map V.int)) := by rw [upd_ne (Ne.symm ll)]; exact g2
    have k1 : (upd H4 l (.lst ((left.map V.int).eraseIdx j))) l = some (.lst ((left.eraseIdx j).map V.int)) := by rw [upd_same, map_erase]
    have s5 := same_upd (o := .lst ((left.map V.int).eraseIdx j)) s4 hl
    generalize upd H4 l (.lst ((left.map V.int).eraseIdx j)) = H5 at s5 k1 k2 ⊢
    refine ⟨lo, _, _, rfl, rfl, k2, (by rw [List.length_map]; exact small1000 (by omega)), ?_⟩
    have k1' : (upd H5 lo (.lst (got.map V.int ++ [V.int left[j]]))) l = some (.lst ((left.eraseIdx j).map V.int)) := by rw [upd_ne ll]; exact k1
    have k2' : (upd H5 lo (.lst (got.map V.int ++ [V.int left[j]]))) lo = some (.lst ((got ++ [left[j]]).map V.int)) := by rw [upd_same, List.map_append]; rfl
    have s6 := same_upd (o := .lst (got.map V.int ++ [V.int left[j]])) s5 hlo
    generalize upd H5 lo (.lst (got.map V.int ++ [V.int left[j]])) = H6 at s6 k1' k2' ⊢
    have le : (left.eraseIdx j).length = left.length - 1 := by rw [List.length_eraseIdx, if_pos hj]
    have lc := div40 (d := ((left.eraseIdx j).length : Int) + 1) z0 (by omega) z1
    and_intros
    rw [List.length_map]
    refine ⟨⟨by show (_ : Int) ≠ 0; omega, (show Sz 64 (((left.eraseIdx j).length : Int) + 1) from sz_of (by omega) (by omega)).mono (by decide)⟩, ?_⟩
    exact ⟨_, _, _, rfl, lc.1, lc.2, s6, k1', k2', by omega, by omega, by rw [List.length_append]; show got.length + 1 ≤ _; omega, erase_perm (List.getElem?_eq_getElem hj) f5⟩
theorem ok_law_slip (T : Tx K mg base ad) : FnOk P w K mg base CX0 1 ad.f_law_slip ad.d_law_slip ["_law_ranks_here"] (spSlip K) := by
  refine T.F_law_slip.ok sc_law_slip (fun vs H Q E h => ?_) (fun cdv A outer s H vs Q E hr h => ?_)
  · obtain ⟨p, rs, rfl, _⟩ := h
    rfl
  obtain ⟨p, rs, rfl, hS, h12, q⟩ := h
  refine ⟨_, (@pss_cons _ _ _ _ _ (@ps_set _ _ (1) _ _ _ _ sc_law_slip.nd rfl (Or.inl rfl) (@pe_lst _ _ _ _ pa_nil) (by rfl) (by first | exact .inl rfl | exact .inr rfl | assumption)) (@pss_cons _ _ _ _ _ (ps_for PassesOwn.never rfl (pi_list (pe_sortedset rfl (by rfl) T.z_sorted (by rfl) T.z_set (pv 0))) (pg_name (i := 2) sc_law_slip.nd rfl (Or.inr rfl)) (@pss_one _ _ _ (@ps_expr _ _ _ _ (pe_bm PySem.F.plainAttrs_list PySem.F.slot_list_append PySem.F.type_list_append mt_append (pv 1) (@pa_cons _ _ _ _ _ (@pe_callB _ _ _ _ _ _ _ _ _ (call_sum rfl) (by rfl) T.z_sum PyProof.Rows.boot_sum (@pa_cons _ _ _ _ _ (pe_comp (fsc := defScope s_law_slip) (N := ["_law_ranks_here", "_law_tiers", "_law_rank"]) (Nc := ["_law_ranks_here", "_law_tiers", "_law_rank", "_law_hand"]) rfl rfl ⟨rfl, by decide +kernel, by decide +kernel, rfl, by decide +kernel, rfl, by decide +kernel, rfl, by decide +kernel⟩ rfl (pi_range1 rfl T.z_range (@pa_cons _ _ _ _ _ (@pe_callB _ _ _ _ _ _ _ _ _ call_len_seq (by rfl) T.z_len PySem.boot_len (@pa_cons _ _ _ _ _ (pv 0) pa_nil (by rfl)) (by decide) (by decide) (by rfl) (by rfl)) pa_nil (by rfl))) (fun _ _ _ _ => (pif_one (pt_chain op_eq op_gt (@pe_ix _ _ _ _ _ _ _ (ix_listK K) (pv 0) (pv 3) (fun _ _ => rfl)) (pv 2) pe_int))) (fun _ _ _ _ => (@pe_op _ _ _ _ _ _ _ _ op_shl pe_int (pv 3)))) pa_nil (by rfl)) (by decide) (by decide) (by rfl) (by rfl)) pa_nil (by rfl))) (by rfl)))) (@pss_one _ _ _ (@ps_ret _ _ _ _ (@pe_callTy _ _ _ _ _ _ _ _ _ call_tuple_of (by rfl) T.z_tuple PyProof.Rows.boot_tuple (@pa_cons _ _ _ _ _ (pe_comp (fsc := defScope s_law_slip) (N := ["_law_ranks_here", "_law_tiers", "_law_rank"]) (Nc := ["_law_ranks_here", "_law_tiers", "_law_rank", "_law_tier"]) rfl rfl ⟨rfl, by decide +kernel, by decide +kernel, rfl, by decide +kernel, rfl, by decide +kernel, rfl, by decide +kernel⟩ rfl (pi_list (pv 1)) (fun _ _ _ _ => (pif_one (@pt_cmpR _ _ _ _ _ _ _ _ op_gt (pv 3) pe_int (nomark _)))) (fun _ _ _ _ => (pv 3))) pa_nil (by rfl)) (by decide) (by decide) (by rfl) (by rfl)))))), ?_⟩
  refine ⟨(by show 0 ≤ sizeLine; decide), fun l hl => ?_⟩
  have s0 := same_new hl (.lst [])
  have e0 : (upd H l (.lst [])) l = some (.lst (([] : List Int).map V.int)) := upd_same
  generalize upd H l (.lst []) = H0 at s0 e0 ⊢
  and_intros
  refine ⟨p, rs, rfl, s0.seq hS, by omega, fun l2 ms m1 m2 hl2 => ?_⟩
  obtain rfl := sset_of m1 m2
  have sl := sset_len rs
  have s1 := s0.trans (same_new hl2 (.lst ((sset rs).map V.int)))
  have e1 : (upd H0 l2 (.lst ((sset rs).map V.int))) l = some (.lst (([] : List Int).map V.int)) := same_new hl2 _ _ _ e0
  have el : (upd H0 l2 (.lst ((sset rs).map V.int))) l2 = some (.lst ((sset rs).map V.int)) := upd_same
  have ll : l2 ≠ l := fun z => by rw [z, e0] at hl2; cases hl2
  generalize upd H0 l2 (.lst ((sset rs).map V.int)) = H1 at s1 e1 el ⊢
  refine ⟨l2, rfl, ⟨_, SqL.of el⟩, for_list (xs := (sset rs).map V.int) (fun i σ' H' => ∃ v2 : Option V, σ' = [some (.ref p), some (.ref l), v2] ∧ Same H H' ∧ H' l2 = some (.lst ((sset rs).map V.int)) ∧ H' l = some (.lst ((allT rs ((sset rs).take i)).map V.int))) ⟨none, rfl, s1, el, e1⟩ (fun i σ' H' _ ⟨_, _, _, e, _⟩ => SqL.of e) ?_ ?_⟩
  · rintro i w σ' H' hw ⟨v2, rfl, s2, f1, f2⟩
    obtain ⟨r, hr0, rfl⟩ := int_at hw
    have il := (List.getElem?_eq_some_iff.mp hr0).1
    have et : (sset rs).take (i + 1) = (sset rs).take i ++ [r] := by rw [List.take_add_one, hr0]; rfl
    have hl' : (rs.map V.int).length = rs.length := List.length_map _
    and_intros
    refine ⟨.inl ⟨rfl, _, SqL.of f2⟩, ?_⟩
    refine ⟨_, rfl, p, _, rfl, .inl (s2.seq hS), _, rfl, by omega, by omega, ?_⟩
    have en : (((rs.map V.int).length : Nat) : Int).toNat = rs.length := by omega
    rw [en]
    refine comp_range (small63 (by omega)) (fun D j ys H2 => ys = ((hands j (fun k => isR rs r k && decide (0 < r))).map fun h => (1 : Int) * 2 ^ h.toNat).map V.int ∧ H2 = upd H' D (.lst ys)) (fun D hD => ⟨rfl, rfl⟩) (fun D j ys H2 ⟨g1, g2⟩ => ⟨by rw [g2]; exact upd_same, by rw [g1, List.length_map, List.length_map]; exact hands_len _ _⟩) ?_ ?_
    · rintro D j ys H2 K1 K2 hD hj ⟨g1, rfl⟩ k1 k2
      obtain ⟨z, hz⟩ : ∃ z, rs[j]? = some z := ⟨_, List.getElem?_eq_getElem hj⟩
      have sD := same_new hD (.lst ys)
      have ms := hands_succ j (fun k => isR rs r k && decide (0 < r))
      have e0 : (0 : Int) + (j : Int) = (j : Int) := Int.zero_add _
      have no : (isR rs r j && decide (0 < r)) = false → K2 (upd H' D (.lst ys)) := fun e => by
        rw [e, if_neg (by decide)] at ms
        exact k2 _ ⟨by rw [ms]; exact g1, rfl⟩
      refine ⟨_, rfl, _, rfl, p, _, _, _, rfl, rfl, (s2.trans sD).seq hS, (by rw [e0]; exact atN hz), _, rfl, rfl, _, rfl, ?_⟩
      by_cases c : z = r
      · have ei : isR rs r j = true := by unfold isR; rw [hz, c]; exact decide_eq_true rfl
        refine ifT (eq_t c) ?_
        refine ⟨_, _, rfl, rfl, _, rfl, ?_⟩
        by_cases cz : 0 < r
        · refine ifT (decide_eq_true cz) ?_
          rw [show (isR rs r j && decide (0 < r)) = true from by rw [ei, decide_eq_true cz]; rfl, if_pos rfl] at ms
          refine ⟨_, rfl, _, _, rfl, rfl, (by rw [e0]; exact pow_small (by omega)), ?_⟩
          refine k1 _ _ upd_same ⟨?_, by rw [upd_upd]⟩
          rw [ms, List.map_append, List.map_append, g1]
          show _ = _ ++ [V.int (1 * 2 ^ (j : Int).toNat)]
          rw [e0]
        · exact ifF (decide_eq_false cz) (no (by rw [decide_eq_false cz, Bool.and_false]))
      · have ei : isR rs r j = false := by unfold isR; rw [hz]; exact decide_eq_false fun e => c (Option.some.inj e)
        refine ifF (eq_f c) ?_
        exact ⟨_, rfl, ifF rfl (no (by rw [ei, Bool.false_and]))⟩
    · rintro D ys H2 hD ⟨rfl, rfl⟩
      refine ⟨D, _, rfl, SqL.of upd_same, ?_⟩
      have e : ((hands rs.length (fun k => isR rs r k && decide (0 < r))).map fun h => (1 : Int) * 2 ^ h.toNat).sum = if 0 < r then tierOf rs r else 0 := by
        rw [show ((hands rs.length (fun k => isR rs r k && decide (0 < r))).map fun h => (1 : Int) * 2 ^ h.toNat).sum = msum rs.length (fun k => isR rs r k && decide (0 < r)) from bsum_hands _ _]
        by_cases cz : 0 < r
        · rw [if_pos cz]
          exact msum_congr _ fun k _ => by rw [decide_eq_true cz, Bool.and_true]
        · rw [if_neg cz]
          exact msum_zero fun k _ => by rw [decide_eq_false cz, Bool.and_false]
      rw [e]
      have sD := same_new hD (.lst (((hands rs.length (fun k => isR rs r k && decide (0 < r))).map fun h => (1 : Int) * 2 ^ h.toNat).map V.int))
      have g1 := sD _ _ f1
      have g2 := sD _ _ f2
      generalize upd H' D (.lst (((hands rs.length (fun k => isR rs r k && decide (0 < r))).map fun h => (1 : Int) * 2 ^ h.toNat).map V.int)) = H3 at sD g1 g2 ⊢
      refine ⟨l, _, _, rfl, rfl, g2, (by unfold allT; rw [List.length_map, List.length_map]; exact small1000 (Nat.le_trans (List.length_take_le _ _) (by omega))), ?_⟩
      refine ⟨_, rfl, same_upd (s2.trans sD) hl, by rw [upd_ne ll]; exact g1, ?_⟩
      rw [upd_same, et]
      unfold allT
      rw [List.map_append, List.map_append]
      rfl
  · rintro σ' H' ⟨v2, rfl, s2, f1, f2⟩
    rw [List.length_map, List.take_of_length_le (Nat.le_refl _)] at f2
    have al : (allT rs (sset rs)).length = (sset rs).length := List.length_map _
    refine ⟨_, rfl, l, rfl, ⟨_, SqL.of f2⟩, ?_⟩
    refine comp_list (xs := (allT rs (sset rs)).map V.int) (by rw [List.length_map]; exact small63 (by omega)) (fun D i ys J => ys = (((allT rs (sset rs)).take i).filter fun t => decide (0 < t)).map V.int ∧ J = upd H' D (.lst ys)) (fun D hD => ⟨rfl, rfl⟩)
      (fun D i ys J ⟨g1, g2⟩ => ⟨by rw [g2]; exact upd_same, by rw [g1, List.length_map]; exact Nat.le_trans (List.length_filter_le _ _) (List.length_take_le _ _)⟩) (fun D i ys J hD ⟨_, g2⟩ => by rw [g2]; exact SqL.of (same_new hD _ _ _ f2)) ?_ ?_
    · rintro D i x ys J K1 K2 hD hx ⟨g1, rfl⟩ k1 k2
      obtain ⟨z, hz, rfl⟩ := int_at hx
      have et : (allT rs (sset rs)).take (i + 1) = (allT rs (sset rs)).take i ++ [z] := by rw [List.take_add_one, hz]; rfl
      refine ⟨_, rfl, _, _, rfl, rfl, _, rfl, ?_⟩
      by_cases c : 0 < z
      · refine ifT (decide_eq_true c) ?_
        refine ⟨_, rfl, ?_⟩
        refine k1 _ _ upd_same ⟨?_, by rw [upd_upd]⟩
        rw [et, List.filter_append, List.map_append, g1]
        simp [c]
      · refine ifF (decide_eq_false c) ?_
        refine k2 _ ⟨?_, rfl⟩
        rw [et, List.filter_append, g1]
        simp [c]
    · rintro D ys J hD ⟨rfl, rfl⟩
      rw [List.length_map, List.take_of_length_le (Nat.le_refl _), allT_tiers _ fun u m => sset_mem.mp m]
      refine ⟨D, _, rfl, .inl ⟨SqL.of upd_same, fun t ht => ?_⟩⟩
      have s9 := s2.trans (same_new hD (.lst ((((sset rs).filter fun r => decide (0 < r)).map (tierOf rs)).map V.int)))
      exact q t _ (none_of s9 ht) (s9.trans (same_new ht _)) upd_same
theorem ok_Pairs_told_by (T : Tx K mg base ad) : FnOk P w K mg base CX0 1 ad.f_Pairs_told_by ad.d_Pairs_told_by ["self", "paper"] (spToldP ad.c_Pairs) := by
  refine T.F_Pairs_told_by.ok sc_Pairs_told_by (fun vs H Q E h => ?_) (fun cdv A outer s H vs Q E hr h => ?_)
  · obtain ⟨a, p, h, s, ns, ls, F, rfl, _⟩ := h
    rfl
  obtain ⟨a, p, h, s, ns, ls, F, rfl, md, pp, q⟩ := h
  refine ⟨_, (@pss_one _ _ _ (@ps_ret _ _ _ _ (pe_comp (fsc := defScope s_Pairs_told_by) (N := ["self", "paper"]) (Nc := ["self", "paper", "hand"]) rfl rfl ⟨rfl, by decide +kernel, by decide +kernel, rfl, by decide +kernel, rfl, by decide +kernel, rfl, by decide +kernel⟩ rfl (pi_range1 rfl T.z_range (@pa_cons _ _ _ _ _ (pe_fld (pv 0) rfl) pa_nil (by rfl))) (fun _ _ _ _ => pif_nil) (fun _ _ _ _ => (pe_ifExp (@pt_cmpR _ _ _ _ _ _ _ _ (op_in_seqK K) (pv 2) (@pe_ix _ _ _ _ _ _ _ (ix_tupK K) (pv 1) pe_int (fun _ _ => rfl)) (by with_unfolding_all rfl)) pe_int pe_int))))), ?_⟩
  obtain ⟨dx, la, k1, k2⟩ := id md.is
  obtain ⟨m, sh, pk, ms, rows, p1, p2, p3, p4, p5, p6, p7⟩ := pp.is
  have h12 := md.h12
  and_intros
  refine ⟨a, _, dx, _, _, rfl, k1, T.cl_Pairs, T.na_Pairs_hands, rfl, ?_⟩
  refine ⟨_, rfl, by omega, by omega, ?_⟩
  rw [Int.toNat_natCast]
  refine comp_range (small63 (by omega)) (fun D i ys J => ys = ((List.range i).map fun j : Nat => if (j : Int) ∈ picksGo F s ns then (1 : Int) else 0).map V.int ∧ J = upd H D (.lst ys)) (fun D hD => ⟨rfl, rfl⟩) (fun D i ys J ⟨g1, g2⟩ => ⟨by rw [g2]; exact upd_same, by rw [g1, List.length_map, List.length_map, List.length_range]; exact Nat.le_refl _⟩) ?_ ?_
  · rintro D i ys J K1 K2 hD hi ⟨g1, rfl⟩ kk1 kk2
    have e0 : (0 : Int) + (i : Int) = (i : Int) := Int.zero_add _
    have s1 := same_new hD (.lst ys)
    rw [e0]
    refine yes (ifT rfl ?_)
    have p1' := s1 _ _ p1
    have p7' := s1 _ _ p7
    and_intros
    refine ⟨all_flat _, ?_⟩
    by_cases c : (i : Int) ∈ picksGo F s ns
    · rw [in_yes c]
      refine ⟨_, rfl, ?_⟩
      refine ifT rfl ?_
      refine kk1 _ _ upd_same ⟨?_, by rw [upd_upd]⟩
      rw [List.range_succ, List.map_append, List.map_append, g1]
      simp [c]
    · rw [in_no c]
      refine ⟨_, rfl, ?_⟩
      refine ifF rfl ?_
      refine kk1 _ _ upd_same ⟨?_, by rw [upd_upd]⟩
      rw [List.range_succ, List.map_append, List.map_append, g1]
      simp [c]
  rintro D ys H1 hD ⟨rfl, rfl⟩
  exact q D _ hD (same_new hD _) upd_same
theorem ok_overs (T : Tx K mg base ad) : FnOk P w K mg base CX0 2 ad.f_overs ad.d_overs ["sheet", "hands"] spOvers51 := by
  refine T.F_overs.ok sc_overs (fun vs H Q E h => ?_) (fun cdv A outer s H vs Q E hr h => ?_)
  · obtain ⟨l, ls, h, rfl, _⟩ := h
    rfl
  obtain ⟨l, ls, h, rfl, hl, g0, l60, h1, h12, q⟩ := h
  refine ⟨_, (@pss_cons _ _ _ _ _ (ps_setC (j := 2) (fsc := defScope s_overs) (N := ["sheet", "hands", "many", "slip", "number", "behind", "tier", "others", "x", "y"]) (Nc := ["sheet", "hands", "many", "slip", "number", "behind", "tier", "others", ".s8", "y", "x"]) rfl rfl ⟨rfl, by decide +kernel, by decide +kernel, rfl, by decide +kernel, rfl, by decide +kernel, rfl, by decide +kernel⟩ rfl sc_overs.nd rfl rfl (pi_range1 rfl T.z_range (@pa_cons _ _ _ _ _ (pv 1) pa_nil (by rfl))) (fun _ _ _ _ => pif_nil) (fun _ _ _ _ => (by exact (pe_compIn0 (fsc := defScope s_overs) (Nc := ["sheet", "hands", "many", "slip", "number", "behind", "tier", "others", ".s8", "y", "x"]) (Nd := ["sheet", "hands", "many", "slip", "number", "behind", "tier", "others", ".s8", ".s9", "x", "y"]) rfl ⟨rfl, by decide +kernel, by decide +kernel, rfl, by decide +kernel, rfl, by decide +kernel, rfl, by decide +kernel⟩ rfl (pi_range1 rfl T.z_range (@pa_cons _ _ _ _ _ (pv 1) pa_nil (by rfl))) (fun _ _ _ _ => pif_nil) (fun _ _ _ _ => pe_int)))) rfl) (@pss_cons _ _ _ _ _ (ps_for PassesOwn.never rfl (pi_list (pv 0)) (pg_tup rfl (pgs_cons (pg_name (i := 3) sc_overs.nd rfl (Or.inl rfl)) (pgs_cons (pg_name (i := 4) sc_overs.nd rfl (Or.inl rfl)) pgs_nil))) (@pss_cons _ _ _ _ _ (@ps_set _ _ (5) _ _ _ _ sc_overs.nd rfl (Or.inl rfl) (@pe_call _ _ _ _ _ _ _ _ _ _ _ _ _ _ _ _ (ok_all_of T) (hr.mono (by decide)) rfl T.m_all_of T.F_all_of.kp T.b_all_of .nil pass0 (@pa_cons _ _ _ _ _ (pv 1) pa_nil (by rfl)) (by decide) (by rfl) (by rfl)) (by rfl) (by first | exact .inl rfl | exact .inr rfl | assumption)) (@pss_one _ _ _ (ps_for PassesOwn.never rfl (pi_tup (pv 3)) (pg_name (i := 6) sc_overs.nd rfl (Or.inl rfl)) (@pss_cons _ _ _ _ _ (@ps_set _ _ (5) _ _ _ _ sc_overs.nd rfl (Or.inl rfl) (@pe_op _ _ _ _ _ _ _ _ op_and (pv 5) (@pe_un _ _ _ _ _ _ un_inv (pv 6))) (by rfl) (by first | exact .inl rfl | exact .inr rfl | assumption)) (@pss_cons _ _ _ _ _ (@ps_set _ _ (7) _ _ _ _ sc_overs.nd rfl (Or.inl rfl) (@pe_call _ _ _ _ _ _ _ _ _ _ _ _ _ _ _ _ (ok_members T) (hr.mono (by decide)) rfl T.m_members T.F_members.kp T.b_members .nil pass0 (@pa_cons _ _ _ _ _ (pv 5) pa_nil (by rfl)) (by decide) (by rfl) (by rfl)) (by rfl) (by first | exact .inl rfl | exact .inr rfl | assumption)) (@pss_one _ _ _ (ps_for PassesOwn.never rfl (pi_list (@pe_call _ _ _ _ _ _ _ _ _ _ _ _ _ _ _ _ (ok_members T) (hr.mono (by decide)) rfl T.m_members T.F_members.kp T.b_members .nil pass0 (@pa_cons _ _ _ _ _ (pv 6) pa_nil (by rfl)) (by decide) (by rfl) (by rfl))) (pg_name (i := 8) sc_overs.nd rfl (Or.inl rfl)) (@pss_one _ _ _ (ps_for PassesOwn.never rfl (pi_list (pv 7)) (pg_name (i := 9) sc_overs.nd rfl (Or.inl rfl)) (@pss_one _ _ _ (ps_asg (@pe_op _ _ _ _ _ _ _ _ op_add (@pe_ix _ _ _ _ _ _ _ ix_list (@pe_ix _ _ _ _ _ _ _ ix_list (pv 2) (pv 8) (fun _ _ => rfl)) (pv 9) (fun _ _ => rfl)) (pv 4)) (pg_sub (@pe_ix _ _ _ _ _ _ _ ix_list (pv 2) (pv 8) (fun _ _ => rfl)) (pv 9) set_list))))))))))))) (@pss_one _ _ _ (@ps_ret _ _ _ _ (pv 2))))), ?_⟩
  and_intros
  refine ⟨by omega, by omega, ?_⟩
  rw [Int.toNat_natCast]
  refine comp_range (small63 (by omega)) (fun D i ys J => ∃ as : List Addr, ys = as.map V.ref ∧ as.length = i ∧ as.Nodup ∧ J D = some (.lst ys) ∧ Same H J ∧ D ∉ as ∧ ∀ a ∈ as, H a = none ∧ J a = some (.lst (((List.range h).map fun _ => (0 : Int)).map V.int))) (fun D hD => ⟨[], rfl, rfl, List.nodup_nil, upd_same, same_new hD _, (fun m => nomatch m), fun _ m => nomatch m⟩) (fun D i ys J ⟨as, f1, f2, _, f3, _⟩ => ⟨f3, by rw [f1, List.length_map, f2]; exact Nat.le_refl _⟩) ?_ ?_
  · rintro D i ys J K1 K2 hD hi ⟨as, rfl, f2, f3, f4, f5, f6, f7⟩ k1 k2
    refine yes (ifT rfl ?_)
    refine ⟨_, rfl, (h : Int), rfl, by omega, by omega, ?_⟩
    rw [Int.toNat_natCast]
    refine comp_range (small63 (by omega)) (fun D2 j ys J2 => ys = ((List.range j).map fun _ => (0 : Int)).map V.int ∧ J2 = upd J D2 (.lst ys)) (fun D2 hD2 => ⟨rfl, rfl⟩) (fun D2 j ys J2 ⟨g1, g2⟩ => ⟨by rw [g2]; exact upd_same, by rw [g1, List.length_map, List.length_map, List.length_range]; exact Nat.le_refl _⟩) ?_ ?_
    · rintro D2 j ys J2 L1 L2 hD2 hj ⟨g1, rfl⟩ l1 l2
      refine yes (ifT rfl ?_)
      refine l1 _ _ upd_same ⟨?_, by rw [upd_upd]⟩
      rw [g1, List.range_succ, List.map_append, List.map_append]
      rfl
    rintro D2 ys J2 hD2 ⟨rfl, rfl⟩
    have sD := same_new hD2 (.lst (((List.range h).map fun _ => (0 : Int)).map V.int))
    have eD : (upd J D2 (.lst (((List.range h).map fun _ => (0 : Int)).map V.int))) D2 = some (.lst (((List.range h).map fun _ => (0 : Int)).map V.int)) := upd_same
    have dd : D2 ≠ D := fun z => by rw [z, f4] at hD2; cases hD2
    have na : D2 ∉ as := fun m => by rw [(f7 D2 m).2] at hD2; cases hD2
    generalize upd J D2 (.lst (((List.range h).map fun _ => (0 : Int)).map V.int)) = J5 at sD eD ⊢
    refine k1 _ _ (sD _ _ f4) ⟨as ++ [D2], by rw [List.map_append]; rfl, by rw [List.length_append, f2]; rfl, List.nodup_append.mpr ⟨f3, by simp, fun a ma b mb e => na (by rw [← List.mem_singleton.mp mb, ← e]; exact ma)⟩, upd_same, same_upd (f5.trans sD) hD, fun m => ?_, fun a m => ?_⟩
    · rcases List.mem_append.mp m with m | m
      · exact f6 m
      · exact dd (List.mem_singleton.mp m).symm
    · rcases List.mem_append.mp m with m | m
      · exact ⟨(f7 a m).1, by rw [upd_ne (fun z => f6 (by rw [← z]; exact m))]; exact sD _ _ (f7 a m).2⟩
      · rw [List.mem_singleton.mp m]
        exact ⟨none_of f5 hD2, by rw [upd_ne dd]; exact eD⟩
  rintro D ys H1 hD ⟨as, rfl, f2, f3, f4, f5, f6, f7⟩
  have tb0 : TabF H1 as h (fun _ _ => 0) := ⟨f2, f3, fun x a ha => (f7 a (List.mem_of_getElem? ha)).2⟩
  have nw : ∀ a ∈ as, H a = none := fun a m => (f7 a m).1
  have out : ∀ {b : Addr} {o : HO}, H b = some o → b ∉ as := fun {b o} e m => by rw [nw b m] at e; cases e
  clear f7 f3 f2
  refine ⟨_, rfl, l, rfl, ⟨_, SqL.of (f5 _ _ hl)⟩, for_list (xs := vls ls) (fun i σ' H' => ∃ v3 v4 v5 v6 v7 v8 v9 : Option V, σ' = [some (.ref l), some (.int (h : Int)), some (.ref D), v3, v4, v5, v6, v7, v8, v9] ∧ Keep as H1 H' ∧ TabF H' as h (fun x y => tsum (aheadB x y) (dsL (ls.take i)))) ⟨none, none, none, none, none, none, none, rfl, Keep.of (fun _ _ e => e), tb0⟩ (fun i σ' H' _ ⟨_, _, _, _, _, _, _, _, k, _⟩ => SqL.of (k.same f5 nw _ _ hl)) ?_ ?_⟩
  · rintro i w σ' H' hw ⟨v3, v4, v5, v6, v7, v8, v9, rfl, k1, tb⟩
    obtain ⟨f, hf, rfl, fm, et⟩ := vls_get hw
    obtain ⟨g1, g2, g3⟩ := g0 f fm
    have kH := k1.same f5 nw
    refine ⟨f.1, _, rfl, SqT.of (kH _ _ g1), rfl, _, _, rfl, _, _, rfl, rfl, ?_⟩
    and_intros
    refine ⟨by omega, by omega, ?_⟩
    rw [Int.toNat_natCast, full_msum]
    and_intros
    obtain ⟨ts, ets⟩ : ∃ ts, ts = f.2.2.1 := ⟨_, rfl⟩
    obtain ⟨n, en⟩ : ∃ n, n = f.2.2.2 := ⟨_, rfl⟩
    obtain ⟨F0, eF0⟩ : ∃ F0 : Nat → Nat → Int, F0 = fun x y => tsum (aheadB x y) (dsL (ls.take i)) := ⟨_, rfl⟩
    rw [← ets] at g2 g3
    rw [← eF0] at tb
    rw [← en]
    refine ⟨⟨_, SqT.of (kH _ _ g2)⟩, for_tup (xs := ts.map V.int) (fun j σ' H2 => ∃ v6 v7 v8 v9 : Option V, σ' = [some (.ref l), some (.int (h : Int)), some (.ref D), some (.ref f.2.1), some (.int n), some (.int (msum h (stT (ts.take j)).1)), v6, v7, v8, v9] ∧ Keep as H1 H2 ∧ TabF H2 as h (fun x y => F0 x y + n * (stT (ts.take j)).2 x y)) ⟨_, _, _, _, rfl, k1, tb.congr fun x y _ _ => (by show F0 x y = F0 x y + n * 0; rw [Int.mul_zero, Int.add_zero])⟩ (fun j σ' H2 _ ⟨_, _, _, _, _, k, _⟩ => SqT.of (k.same f5 nw _ _ g2)) ?_ ?_⟩
    · rintro j u σ' H2 hu ⟨v6, v7, v8, v9, rfl, k2, tb2⟩
      obtain ⟨t, ht, rfl⟩ := int_at hu
      have ej : ts.take (j + 1) = ts.take j ++ [t] := by rw [List.take_add_one, ht]; rfl
      have es := stT_snoc (ts.take j) t
      rw [← ej] at es
      have eb : Builtin.bitAnd (msum h (stT (ts.take j)).1) (Builtin.bitNot t) = msum h (stT (ts.take (j + 1))).1 := by
        rw [and_msum, es]
        exact msum_congr h fun i _ => by rw [bit_not]; rfl
      and_intros
      have mb := msum_4096 h12 (stT (ts.take (j + 1))).1
      rw [← eb] at mb
      refine ⟨mb.1, mb.2, fun po Ho hpo so eo => ?_⟩
      rw [eb] at eo
      and_intros
      obtain ⟨gt, egt⟩ := first_tier h12 g3 (List.mem_of_getElem? ht)
      have mt := msum_4096 h12 gt
      rw [← egt] at mt
      refine ⟨mt.1, mt.2, fun px Hx hpx sx ex => ?_⟩
      have tbx := tb2.same (so.trans sx)
      have npo : po ∉ as := tb2.not hpo
      have npx : px ∉ as := (tb2.same so).not hpx
      have kx := (k2.trans (Keep.of so)).trans (Keep.of sx)
      have eo' := sx _ _ eo
      have memx : ∀ {z : Int}, z ∈ hands 12 (bit t) ↔ ∃ i : Nat, i < h ∧ bit t i = true ∧ z = (i : Int) := fun {z} => by
        rw [egt, hands_bits h12]
        refine ⟨fun ⟨i, a, b, e⟩ => ⟨i, a, by rw [bit_msum, decide_eq_true a, b]; rfl, e⟩, fun ⟨i, a, b, e⟩ => ⟨i, a, ?_, e⟩⟩
        rw [bit_msum, decide_eq_true a] at b
        exact b
      have memy : ∀ {z : Int}, z ∈ hands 12 (bit (msum h (stT (ts.take (j + 1))).1)) ↔ ∃ i : Nat, i < h ∧ (stT (ts.take (j + 1))).1 i = true ∧ z = (i : Int) := fun {z} => hands_bits h12 _
      have ndx := hands_nodup 12 (bit t)
      have ndy := hands_nodup 12 (bit (msum h (stT (ts.take (j + 1))).1))
      generalize exs : hands 12 (bit t) = xs at ex memx ndx
      generalize eys : hands 12 (bit (msum h (stT (ts.take (j + 1))).1)) = ys at eo' memy ndy
      clear eo
      refine ⟨px, rfl, ⟨_, SqL.of ex⟩, for_list (xs := xs.map V.int) (fun k σ' H3 => ∃ (v8 v9 : Option V) (G : Nat → Nat → Int), σ' = [some (.ref l), some (.int (h : Int)), some (.ref D), some (.ref f.2.1), some (.int n), some (.int (Builtin.bitAnd (msum h (stT (ts.take j)).1) (Builtin.bitNot t))), some (.int t), some (.ref po), v8, v9] ∧ Keep as Hx H3 ∧ TabF H3 as h G ∧ ∀ x' y' : Nat, G x' y' = F0 x' y' + n * (stT (ts.take j)).2 x' y' + if (x' : Int) ∈ xs.take k ∧ (y' : Int) ∈ ys then n else 0) ⟨_, _, _, rfl, Keep.of (fun _ _ e => e), tbx, fun x' y' => (by rw [if_neg (fun z => nomatch z.1)]; exact (Int.add_zero _).symm)⟩ (fun k σ' H3 _ ⟨_, _, _, _, kk, _⟩ => SqL.of (kk _ _ npx ex)) ?_ ?_⟩
      · rintro k u σ' H3 hu ⟨v8, v9, G, rfl, k3, tb3, eG⟩
        obtain ⟨zx, hzx, rfl⟩ := int_at hu
        obtain ⟨x, hx, bx, rfl⟩ := memx.mp (List.mem_of_getElem? hzx)
        obtain ⟨ekx, nkx⟩ := step_at ndx hzx
        and_intros
        refine ⟨⟨_, SqL.of (k3 _ _ npo eo')⟩, for_list (xs := ys.map V.int) (fun m σ' H4 => ∃ (v9 : Option V) (G' : Nat → Nat → Int), σ' = [some (.ref l), some (.int (h : Int)), some (.ref D), some (.ref f.2.1), some (.int n), some (.int (Builtin.bitAnd (msum h (stT (ts.take j)).1) (Builtin.bitNot t))), some (.int t), some (.ref po), some (.int (x : Int)), v9] ∧ Keep as Hx H4 ∧ TabF H4 as h G' ∧ ∀ x' y' : Nat, G' x' y' = G x' y' + if x' = x ∧ (y' : Int) ∈ ys.take m then n else 0) ⟨_, _, rfl, k3, tb3, fun x' y' => (by rw [if_neg (fun z => nomatch z.2)]; exact (Int.add_zero _).symm)⟩ (fun m σ' H4 _ ⟨_, _, _, kk, _⟩ => SqL.of (kk _ _ npo eo')) ?_ ?_⟩
        · rintro m u σ' H4 hu ⟨v9, G', rfl, k4, tb4, eG'⟩
          obtain ⟨zy, hzy, rfl⟩ := int_at hu
          obtain ⟨y, hy, _, rfl⟩ := memy.mp (List.mem_of_getElem? hzy)
          obtain ⟨eky, nky⟩ := step_at ndy hzy
          obtain ⟨a, r1, r2, r3, r4⟩ := tb4.row hx
          have eD := k4 _ _ f6 (kx _ _ f6 f4)
          refine ⟨_, rfl, _, rfl, D, _, _, _, rfl, rfl, SqL.of eD, r3, ?_⟩
          refine ⟨_, rfl, a, _, _, _, rfl, rfl, SqL.of r4, row_cell (G' x) hy, ?_⟩
          and_intros
          refine ⟨D, _, _, _, rfl, rfl, SqL.of eD, r3, ?_⟩
          refine ⟨_, rfl, a, _, _, y, rfl, rfl, r4, ixN_nat (by rw [List.length_map, List.length_map, List.length_range]; exact hy), ?_⟩
          refine ⟨_, putT G' x y n, rfl, k4.put r2, tb4.put r1 n, fun x' y' => ?_⟩
          unfold putT
          rw [eG', eky]
          refine if_or n _ ?_ ?_
          · rw [mem_snoc]
            exact ⟨fun ⟨a, b⟩ => b.elim (fun c => .inl ⟨a, c⟩) fun c => .inr ⟨a, c⟩, fun z => z.elim (fun c => ⟨c.1, .inl c.2⟩) fun c => ⟨c.1, .inr c.2⟩⟩
          · exact fun z => nky (by rw [← z.2.2]; exact z.1.2)
        · rintro σ' H4 ⟨v9, G', rfl, k4, tb4, eG'⟩
          rw [List.length_map, List.take_of_length_le (Nat.le_refl _)] at eG'
          refine ⟨_, _, _, rfl, k4, tb4, fun x' y' => ?_⟩
          rw [eG', eG, ekx]
          refine if_or n _ ?_ ?_
          · rw [mem_snoc]
            exact ⟨fun ⟨a, b⟩ => a.elim (fun c => .inl ⟨c, b⟩) fun c => .inr ⟨c, b⟩, fun z => z.elim (fun c => ⟨.inl c.1, c.2⟩) fun c => ⟨.inr c.1, c.2⟩⟩
          · exact fun z => nkx (by rw [← z.2.1]; exact z.1.1)
      · rintro σ' H3 ⟨v8, v9, G, rfl, k3, tb3, eG⟩
        rw [List.length_map, List.take_of_length_le (Nat.le_refl _)] at eG
        refine ⟨_, _, _, _, by rw [eb], kx.trans k3, tb3.congr fun x y hx hy => ?_⟩
        rw [eG, es]
        show _ = F0 x y + n * ((stT (ts.take j)).2 x y + if (bit t x && ((stT (ts.take j)).1 y && !bit t y)) = true then 1 else 0)
        rw [Int.mul_add, ← Int.add_assoc]
        have e2 : (stT (ts.take (j + 1))).1 y = ((stT (ts.take j)).1 y && !bit t y) := by rw [es]; rfl
        have e1 : ((x : Int) ∈ xs ∧ (y : Int) ∈ ys) ↔ (bit t x && ((stT (ts.take j)).1 y && !bit t y)) = true := by
          rw [← e2, Bool.and_eq_true, memx, memy]
          exact ⟨fun ⟨⟨i, _, b, e⟩, ⟨k, _, c, e'⟩⟩ => ⟨by rw [Int.ofNat.inj e]; exact b, by rw [Int.ofNat.inj e']; exact c⟩, fun ⟨a, b⟩ => ⟨⟨x, hx, a, rfl⟩, ⟨y, hy, b, rfl⟩⟩⟩
        by_cases c : (bit t x && ((stT (ts.take j)).1 y && !bit t y)) = true
        · rw [if_pos c, if_pos (e1.mpr c), Int.mul_one]
        · rw [if_neg c, if_neg (fun z => c (e1.mp z)), Int.mul_zero]
    · rintro σ' H2 ⟨v6, v7, v8, v9, rfl, k2, tb2⟩
      rw [List.length_map, List.take_of_length_le (Nat.le_refl _)] at tb2
      refine ⟨_, _, _, _, _, _, _, rfl, k2, tb2.congr fun x y hx hy => ?_⟩
      rw [et, tsum_snoc, ← ets, ← en, eF0, ahead_mul g3 hx hy]
  · rintro σ' H' ⟨v3, v4, v5, v6, v7, v8, v9, rfl, k1, tb⟩
    rw [vls_len, List.take_of_length_le (Nat.le_refl _)] at tb
    exact ⟨_, rfl, q D as H' hD (k1.same f5 nw) f6 nw (k1 _ _ f6 f4) tb⟩
theorem ok_leads_of (T : Tx K mg base ad) : FnOk P w K mg base CX0 2 ad.f_leads_of ad.d_leads_of ["many"] spLeadsT := by
  refine T.F_leads_of.ok sc_leads_of (fun vs H Q E h => ?_) (fun cdv A outer s H vs Q E hr h => ?_)
  · obtain ⟨a, as, h, F, rfl, _⟩ := h
    rfl
  obtain ⟨a, as, h, F, rfl, ha, g, h12, q⟩ := h
  refine ⟨_, (@pss_cons _ _ _ _ _ (@ps_set _ _ (1) _ _ _ _ sc_leads_of.nd rfl (Or.inr rfl) (@pe_call _ _ _ _ _ _ _ _ _ _ _ _ _ _ _ _ (ok_hands_of T) (hr.mono (by decide)) rfl T.m_hands_of T.F_hands_of.kp T.b_hands_of .nil pass0 (@pa_cons _ _ _ _ _ (pv 0) pa_nil (by rfl)) (by decide) (by rfl) (by rfl)) (by rfl) (by first | exact .inl rfl | exact .inr rfl | assumption)) (@pss_one _ _ _ (@ps_ret _ _ _ _ (pe_compC (fsc := defScope s_leads_of) (N := ["many", "hands"]) (Nc := ["many", "hands", "x"]) rfl rfl ⟨rfl, by decide +kernel, by decide +kernel, rfl, by decide +kernel, rfl, by decide +kernel, rfl, by decide +kernel⟩ rfl (pi_list (pv 1)) (fun _ _ _ _ => pif_nil) (fun _ _ _ _ => (by exact (pe_compIn (fsc := defScope s_leads_of) (Nc := ["many", "hands", "x"]) (Nd := ["many", "hands", "x", "y"]) rfl ⟨rfl, by decide +kernel, by decide +kernel, rfl, by decide +kernel, rfl, by decide +kernel, rfl, by decide +kernel⟩ rfl (pi_listK K (pv 1)) (fun _ _ _ _ => pif_nil) (fun _ _ _ _ => (@pe_op _ _ _ _ _ _ _ _ op_sub (@pe_ix _ _ _ _ _ _ _ (ix_listK K) (@pe_ix _ _ _ _ _ _ _ (ix_listK K) (pv 0) (pv 2) (fun _ _ => rfl)) (pv 3) (fun _ _ => rfl)) (@pe_ix _ _ _ _ _ _ _ (ix_listK K) (@pe_ix _ _ _ _ _ _ _ (ix_listK K) (pv 0) (pv 3) (fun _ _ => rfl)) (pv 2) (fun _ _ => rfl))))))))))), ?_⟩
  and_intros
  refine ⟨a, tbOf as h F, h, rfl, (by rw [g.vtb]; exact ha), g.good.1, h12, fun l H1 hl s1 e1 => ?_⟩
  and_intros
  have ul := ups_len h
  refine ⟨⟨_, SqL.of e1⟩, ?_⟩
  refine comp_list (xs := (ups h).map V.int) (by rw [List.length_map, ul]; exact small63 (by omega)) (fun D i ys J => ∃ bs : List Addr, ys = bs.map V.ref ∧ bs.length = i ∧ bs.Nodup ∧ J D = some (.lst ys) ∧ Same H1 J ∧ D ∉ bs ∧ (∀ c ∈ bs, H1 c = none) ∧ ∀ k b, bs[k]? = some b → J b = some (.lst (((List.range h).map fun y => F k y - F y k).map V.int))) (fun D hD => ⟨[], rfl, rfl, List.nodup_nil, upd_same, same_new hD _, (fun m => nomatch m), (fun _ m => nomatch m), fun k r e => by cases e⟩) (fun D i ys J ⟨u, f1, f2, _, f3, _⟩ => ⟨f3, by rw [f1, List.length_map, f2]; exact Nat.le_refl _⟩) (fun D i ys J hD ⟨_, _, _, _, _, f4, _⟩ => SqL.of (f4 _ _ e1)) ?_ ?_
  · rintro D i x ys J K1 K2 hD hx ⟨bs, rfl, f2, f3, f4, f5, f6, f7, f8⟩ k1 k2
    obtain ⟨z, hz, rfl⟩ := int_at hx
    obtain ⟨rfl, hi⟩ := ups_at hz
    refine yes (ifT rfl ?_)
    have gJ := (g.same s1).same f5
    refine ⟨_, rfl, l, rfl, ⟨_, SqL.of (f5 _ _ e1)⟩, ?_⟩
    refine comp_list (xs := (ups h).map V.int) (by rw [List.length_map, ul]; exact small63 (by omega)) (fun D2 j ys J2 => ys = ((List.range j).map fun y => F i y - F y i).map V.int ∧ J2 = upd J D2 (.lst ys)) (fun D2 hD2 => ⟨rfl, rfl⟩) (fun D2 j ys J2 ⟨f1, f2⟩ => ⟨by rw [f2]; exact upd_same, by rw [f1, List.length_map, List.length_map, List.length_range]; exact Nat.le_refl _⟩) (fun D2 j ys J2 hD2 ⟨_, f2⟩ => by rw [f2]; exact SqL.of (same_new hD2 _ _ _ (f5 _ _ e1))) ?_ ?_
    · rintro D2 j y ys J2 L1 L2 hD2 hy ⟨e, rfl⟩ l1 l2
      obtain ⟨w, hw, rfl⟩ := int_at hy
      obtain ⟨rfl, hj⟩ := ups_at hw
      refine yes (ifT rfl ?_)
      have sD := same_new hD2 (.lst ys)
      have aJ := sD _ _ ((s1.trans f5) _ _ ha)
      obtain ⟨ri, _, _, a1, a2⟩ := (gJ.same sD).row hi
      obtain ⟨rj, _, _, b1, b2⟩ := (gJ.same sD).row hj
      refine ⟨_, rfl, _, rfl, a, _, _, _, rfl, rfl, SqL.of aJ, a1, ?_⟩
      refine ⟨_, rfl, ri, _, _, _, rfl, rfl, SqL.of a2, row_cell (F i) hj, ?_⟩
      refine ⟨_, rfl, _, rfl, a, _, _, _, rfl, rfl, SqL.of aJ, b1, ?_⟩
      refine ⟨_, rfl, rj, _, _, _, rfl, rfl, SqL.of b2, row_cell (F j) hi, ?_⟩
      and_intros
      refine l1 _ _ upd_same ⟨?_, by rw [upd_upd]⟩
      rw [e, List.range_succ, List.map_append, List.map_append]
      rfl
    rintro D2 ys H5 hD2 ⟨rfl, rfl⟩
    rw [List.length_map, ul]
    have sD := same_new hD2 (.lst (((List.range h).map fun y => F i y - F y i).map V.int))
    have eD : (upd J D2 (.lst (((List.range h).map fun y => F i y - F y i).map V.int))) D2 = some (.lst (((List.range h).map fun y => F i y - F y i).map V.int)) := upd_same
    have dd : D2 ≠ D := fun z => by rw [z, f4] at hD2; cases hD2
    have na : D2 ∉ bs := fun m => by
      obtain ⟨k, hk⟩ := List.getElem?_of_mem m
      rw [f8 k D2 hk] at hD2
      cases hD2
    have nD2 := none_of f5 hD2
    generalize upd J D2 (.lst (((List.range h).map fun y => F i y - F y i).map V.int)) = J5 at sD eD ⊢
    refine k1 _ _ (sD _ _ f4) ⟨bs ++ [D2], by rw [List.map_append]; rfl, by rw [List.length_append, f2]; rfl, List.nodup_append.mpr ⟨f3, by simp, fun a ma b mb e => na (by rw [← List.mem_singleton.mp mb, ← e]; exact ma)⟩, upd_same, same_upd (f5.trans sD) hD, fun m => ?_, fun c m => ?_, fun k b e => ?_⟩
    · rcases List.mem_append.mp m with m | m
      · exact f6 m
      · exact dd (List.mem_singleton.mp m).symm
    · rcases List.mem_append.mp m with m | m
      · exact f7 c m
      · rw [List.mem_singleton.mp m]; exact nD2
    · by_cases c : k < bs.length
      · rw [List.getElem?_append_left c] at e
        rw [upd_ne (fun z => f6 (by rw [← z]; exact List.mem_of_getElem? e))]
        exact sD _ _ (f8 k b e)
      · rw [List.getElem?_append_right (by omega)] at e
        have ek : k = i := by
          have := (List.getElem?_eq_some_iff.mp e).1
          rw [List.length_singleton] at this
          omega
        rw [ek, f2, Nat.sub_self] at e
        cases Option.some.inj e
        rw [upd_ne dd, ek]
        exact eD
  rintro D ys H2 hD ⟨bs, rfl, f2, f3, f4, f5, f6, f7, f8⟩
  rw [List.length_map, ul] at f2
  exact q D bs H2 (none_of s1 hD) f6 (fun c m => none_of s1 (f7 c m)) (s1.trans f5) f4 ⟨f2, f3, f8⟩
theorem ok_reached_from (T : Tx K mg base ad) : FnOk P w K mg base CX0 2 ad.f_reached_from ad.d_reached_from ["leads", "x"] (spReached ad.lP) := by
  refine T.F_reached_from.okC sc_reached_from (fun vs H Q E h => ?_) (fun cdv hcd A outer s H vs Q E hr h => ?_)
  · obtain ⟨a, as, h, x, L, rfl, _⟩ := h
    rfl
  obtain ⟨a, as, h, x, L, rfl, ha, tb, hx, h12, lt, q⟩ := h
  refine ⟨_, (@pss_cons _ _ _ _ _ (@ps_set _ _ (2) _ _ _ _ sc_reached_from.nd rfl (Or.inr rfl) (@pe_callTy _ _ _ _ _ _ _ _ _ call_list_of (by rfl) T.z_list PyProof.Rows.boot_list (@pa_cons _ _ _ _ _ (@pe_ix _ _ _ _ _ _ _ ix_list (pv 0) (pv 1) (fun _ _ => rfl)) pa_nil (by rfl)) (by decide) (by decide) (by rfl) (by rfl)) (by rfl) (by first | exact .inl rfl | exact .inr rfl | assumption)) (@pss_cons _ _ _ _ _ (ps_setC (j := 3) (fsc := defScope s_reached_from) (N := ["leads", "x", "best", "before", "left", "through", "hand", "link"]) (Nc := ["leads", "x", "best", "before", "left", "through", ".s6", "link", "hand"]) rfl rfl ⟨rfl, by decide +kernel, by decide +kernel, rfl, by decide +kernel, rfl, by decide +kernel, rfl, by decide +kernel⟩ rfl sc_reached_from.nd rfl rfl (pi_list (pv 0)) (fun _ _ _ _ => pif_nil) (fun _ _ _ _ => (pv 1)) rfl) (@pss_cons _ _ _ _ _ (ps_setC (j := 4) (fsc := defScope s_reached_from) (N := ["leads", "x", "best", "before", "left", "through", "hand", "link"]) (Nc := ["leads", "x", "best", "before", "left", "through", ".s6", "link", "hand"]) rfl rfl ⟨rfl, by decide +kernel, by decide +kernel, rfl, by decide +kernel, rfl, by decide +kernel, rfl, by decide +kernel⟩ rfl sc_reached_from.nd rfl rfl (pi_list (@pe_call _ _ _ _ _ _ _ _ _ _ _ _ _ _ _ _ (ok_hands_of T) (hr.mono (by decide)) rfl T.m_hands_of T.F_hands_of.kp T.b_hands_of .nil pass0 (@pa_cons _ _ _ _ _ (pv 0) pa_nil (by rfl)) (by decide) (by rfl) (by rfl))) (fun _ _ _ _ => (pif_one (@pt_cmpR _ _ _ _ _ _ _ _ op_ne (pv 8) (pv 1) (nomark _)))) (fun _ _ _ _ => (pv 8)) rfl) (@pss_cons _ _ _ _ _ (ps_while PassesOwn.never (@pt_cmpR _ _ _ _ _ _ _ _ (op_neD (K := K) hr.units) (pv 4) (@pe_lst _ _ _ _ pa_nil) (nomark _)) (@pss_cons _ _ _ _ _ (@ps_set _ _ (5) _ _ _ _ sc_reached_from.nd rfl (Or.inl rfl) (pe_maxkey (fsc := defScope s_reached_from) (N := ["leads", "x", "best", "before", "left", "through", "hand", "link"]) (Nc := ["leads", "x", "best", "before", "left", "through", ".s6", "link", "hand"]) (x := "hand") rfl T.lam (hcd.symm.trans T.lcode) (hr.mono (by decide)) rfl T.z_max rfl rfl ⟨rfl, by decide +kernel, by decide +kernel, rfl, by decide +kernel, rfl, by decide +kernel, rfl, by decide +kernel⟩ rfl rfl (pv 4) (fun _ _ _ _ _ => (@pe_ix _ _ _ _ _ _ _ (ix_listK K) (pv 2) (pv 8) (fun _ _ => rfl)))) (by rfl) (by first | exact .inl rfl | exact .inr rfl | assumption)) (@pss_cons _ _ _ _ _ (@ps_expr _ _ _ _ (pe_bm PySem.F.plainAttrs_list PySem.F.slot_list_remove PySem.F.type_list_remove mt_remove (pv 4) (@pa_cons _ _ _ _ _ (pv 5) pa_nil (by rfl))) (by rfl)) (@pss_one _ _ _ (ps_for PassesOwn.never rfl (pi_list (pv 4)) (pg_name (i := 6) sc_reached_from.nd rfl (Or.inl rfl)) (@pss_cons _ _ _ _ _ (@ps_set _ _ (7) _ _ _ _ sc_reached_from.nd rfl (Or.inl rfl) (@pe_callB _ _ _ _ _ _ _ _ _ (call_min2 rfl) (by rfl) T.z_min PyProof.Rows.boot_min (@pa_cons _ _ _ _ _ (@pe_ix _ _ _ _ _ _ _ ix_list (pv 2) (pv 5) (fun _ _ => rfl)) (@pa_cons _ _ _ _ _ (@pe_ix _ _ _ _ _ _ _ ix_list (@pe_ix _ _ _ _ _ _ _ ix_list (pv 0) (pv 5) (fun _ _ => rfl)) (pv 6) (fun _ _ => rfl)) pa_nil (by rfl)) (by rfl)) (by decide) (by decide) (by rfl) (by rfl)) (by rfl) (by first | exact .inl rfl | exact .inr rfl | assumption)) (@pss_one _ _ _ (@ps_if _ _ _ _ _ _ _ _ (@pt_cmpR _ _ _ _ _ _ _ _ op_gt (pv 7) (@pe_ix _ _ _ _ _ _ _ ix_list (pv 2) (pv 6) (fun _ _ => rfl)) (nomark _)) (@pss_cons _ _ _ _ _ (ps_asg (pv 7) (pg_sub (pv 2) (pv 6) set_list)) (@pss_one _ _ _ (ps_asg (pv 5) (pg_sub (pv 3) (pv 6) set_list)))) pss_nil)))))))) (@pss_one _ _ _ (@ps_ret _ _ _ _ (@pe_tup _ _ _ _ _ (@pa_cons _ _ _ _ _ (pv 2) (@pa_cons _ _ _ _ _ (pv 3) pa_nil (by rfl)) (by rfl))))))))), ?_⟩
  obtain ⟨ax, _, _, x3, x4⟩ := tb.row hx
  refine ⟨_, rfl, _, rfl, a, _, _, _, rfl, rfl, SqL.of ha, x3, ?_⟩
  refine ⟨ax, _, rfl, .inl (SqL.of x4), fun b hb => ?_⟩
  obtain ⟨be0, ebe⟩ : ∃ be0, be0 = (List.range h).map fun y => L x y := ⟨_, rfl⟩
  rw [← ebe]
  have s1 := same_new hb (.lst (be0.map V.int))
  have e1 : (upd H b (.lst (be0.map V.int))) b = some (.lst (be0.map V.int)) := upd_same
  generalize upd H b (.lst (be0.map V.int)) = H1 at s1 e1 ⊢
  and_intros
  refine ⟨⟨_, SqL.of (s1 _ _ ha)⟩, ?_⟩
  refine comp_list (xs := as.map V.ref) (by rw [List.length_map, tb.1]; exact small63 (by omega)) (fun D i ys J => ys = (List.replicate i (x : Int)).map V.int ∧ J = upd H1 D (.lst ys)) (fun D hD => ⟨rfl, rfl⟩) (fun D i ys J ⟨f1, f2⟩ => ⟨by rw [f2]; exact upd_same, by rw [f1, List.length_map, List.length_replicate]; exact Nat.le_refl _⟩) (fun D i ys J hD ⟨_, f2⟩ => by rw [f2]; exact SqL.of (same_new hD _ _ _ (s1 _ _ ha))) ?_ ?_
  · rintro D i y ys J K1 K2 hD hy ⟨f1, rfl⟩ k1 k2
    refine yes (ifT rfl ?_)
    refine ⟨_, rfl, ?_⟩
    refine k1 _ _ upd_same ⟨?_, by rw [upd_upd]⟩
    rw [f1, List.replicate_succ', List.map_append]
    rfl
  rintro f ys H2 hf ⟨rfl, rfl⟩
  rw [List.length_map, tb.1]
  have fb : f ≠ b := fun z => by rw [z, e1] at hf; cases hf
  have hfH := none_of s1 hf
  have s2 := s1.trans (same_new hf (.lst ((List.replicate h (x : Int)).map V.int)))
  have e2 : (upd H1 f (.lst ((List.replicate h (x : Int)).map V.int))) f = some (.lst ((List.replicate h (x : Int)).map V.int)) := upd_same
  have b2 := same_new hf (.lst ((List.replicate h (x : Int)).map V.int)) _ _ e1
  generalize upd H1 f (.lst ((List.replicate h (x : Int)).map V.int)) = H2 at s2 e2 b2 ⊢
  and_intros
  have tb2 := tb.same s2
  refine ⟨a, tbOf as h L, h, rfl, (by rw [tb2.vtb]; exact s2 _ _ ha), tb2.good.1, h12, fun l0 H3 hl0 s3 e3 => ?_⟩
  have b3 := s3 _ _ b2
  have f3 := s3 _ _ e2
  have s3 := s2.trans s3
  and_intros
  refine ⟨⟨_, SqL.of e3⟩, ?_⟩
  refine comp_list (xs := (ups h).map V.int) (by rw [List.length_map, ups_len]; exact small63 (by omega)) (fun D i ys J => ys = (butX i x).map V.int ∧ J = upd H3 D (.lst ys)) (fun D hD => ⟨rfl, rfl⟩) (fun D i ys J ⟨g1, g2⟩ => ⟨by rw [g2]; exact upd_same, by rw [g1, List.length_map]; unfold butX; rw [List.length_map]; exact Nat.le_trans (List.length_filter_le _ _) (by rw [List.length_range]; exact Nat.le_refl _)⟩) (fun D i ys J hD ⟨_, g2⟩ => by rw [g2]; exact SqL.of (same_new hD _ _ _ e3)) ?_ ?_
  · rintro D i y ys J K1 K2 hD hy ⟨g1, rfl⟩ k1 k2
    obtain ⟨z, hz, rfl⟩ := int_at hy
    obtain ⟨rfl, hi⟩ := ups_at hz
    and_intros
    by_cases c : i = x
    · refine ifF (ne_f (by rw [c])) ?_
      exact k2 _ ⟨by rw [g1, butX_succ, if_pos c, List.append_nil], rfl⟩
    · refine ifT (ne_t fun e => c (Int.ofNat.inj e)) ?_
      refine ⟨_, rfl, ?_⟩
      exact k1 _ _ upd_same ⟨by rw [g1, butX_succ, if_neg c, List.map_append]; rfl, by rw [upd_upd]⟩
  rintro l ys H4 hl ⟨rfl, rfl⟩
  rw [List.length_map, ups_len]
  have lb : l ≠ b := fun z => by rw [z, b3] at hl; cases hl
  have lf : l ≠ f := fun z => by rw [z, f3] at hl; cases hl
  have hlH := none_of s3 hl
  have sn := same_new hl (.lst ((butX h x).map V.int))
  have e4 : (upd H3 l (.lst ((butX h x).map V.int))) l = some (.lst ((butX h x).map V.int)) := upd_same
  have b4 := sn _ _ b3
  have f4 := sn _ _ f3
  have s4 := s3.trans sn
  generalize upd H3 l (.lst ((butX h x).map V.int)) = H4 at s4 e4 b4 f4 ⊢
  have bl := butX_len' hx
  refine ⟨fun m σ' H' => ∃ (v5 v6 v7 : Option V) (be bf left : List Int) (rk : Nat → Nat), σ' = [some (V.ref a), some (.int (x : Int)), some (.ref b), some (.ref f), some (.ref l), v5, v6, v7] ∧ Sm H H' ∧ (LamQ ad.lP h H → Same H H') ∧ LT ad.lP H' ∧ (left.length + 1 = h ∨ L1 ad.lP H') ∧ H' b = some (.lst (be.map V.int)) ∧ H' f = some (.lst (bf.map V.int)) ∧ H' l = some (.lst (left.map V.int)) ∧ Dij h x L be bf left rk ∧ left.length = m,
    ⟨_, none, none, none, be0, List.replicate h (x : Int), butX h x, fun _ => 0, rfl, Sm.of s4, (fun _ => s4), lt.same s4, .inl bl, b4, f4, e4, (by rw [ebe]; exact Dij.start hx L), rfl⟩, ?_⟩
  rintro m σ' H' ⟨v5, v6, v7, be, bf, left, rk, rfl, sm, sq, lt', l1, eb, ef, el, dj, lm⟩
  refine ⟨_, rfl, (by show 0 ≤ sizeLine; decide), fun z3 hz3 => ?_⟩
  have sz := same_new hz3 (.lst [])
  have ez : (upd H' z3 (.lst [])) z3 = some (.lst (([] : List Int).map V.int)) := upd_same
  generalize upd H' z3 (.lst []) = H5 at sz ez ⊢
  have eb := sz _ _ eb
  have ef := sz _ _ ef
  have el := sz _ _ el
  have sm := sm.trans (Sm.of sz)
  have sq : LamQ ad.lP h H → Same H H5 := fun z => (sq z).trans sz
  have lt' := lt'.same sz
  have l1 : left.length + 1 = h ∨ L1 ad.lP H5 := l1.imp id fun z => z.same sz
  refine ⟨.list (left.map .int), .list (([] : List Int).map .int), .lst (SqL.of el) (.ints _), .lst (SqL.of ez) (.ints []), (shape_ints _).2, (shape_ints _).2, ?_⟩
  rw [show PyData.eqv (.list (left.map .int)) (.list (([] : List Int).map .int)) = decide (left = []) from eqv_ints _ _]
  refine ⟨_, rfl, ?_⟩
  by_cases cl : left = []
  · refine ifF (by rw [decide_eq_true cl]; rfl) ?_
    subst cl
    and_intros
    refine ⟨(by show 2 ≤ sizeLine; decide), fun t ht => ?_⟩
    have st := same_new ht (.tup [V.ref b, V.ref f])
    have l1' : h = 1 ∨ L1 ad.lP H5 := l1.imp (fun z => by rw [List.length_nil] at z; omega) id
    exact q t b f be bf _ (sm.trans (Sm.of st)) (fun z => (sq z).trans st) (LamQ.same ⟨lt', l1'⟩ st) (sm.gone t ht) hb hfH (Ne.symm fb) upd_same (st _ _ eb) (st _ _ ef) dj.done
  · refine ifT (by rw [decide_eq_false cl]; rfl) ?_
    have pl : 0 < left.length := List.length_pos_iff.mpr cl
    refine ⟨fun σ' H' => ∃ (v5 v6 v7 : Option V) (be bf left : List Int) (rk : Nat → Nat), σ' = [some (V.ref a), some (.int (x : Int)), some (.ref b), some (.ref f), some (.ref l), v5, v6, v7] ∧ Sm H H' ∧ (LamQ ad.lP h H → Same H H') ∧ LT ad.lP H' ∧ (left.length + 1 = h ∨ L1 ad.lP H') ∧ H' b = some (.lst (be.map V.int)) ∧ H' f = some (.lst (bf.map V.int)) ∧ H' l = some (.lst (left.map V.int)) ∧ Dij h x L be bf left rk ∧ left.length = m - 1, fun σ' H' e => ⟨m - 1, by omega, e⟩, ?_⟩
    and_intros
    refine ⟨l, left.map V.int, fun i => be.getD (left.getD i 0).toNat 0, rfl, by rw [List.length_map]; exact pl, lt', fun H6 q1 q2 q3 q4 => ?_⟩
    have s56 := sm_lam lt' q2 q4
    have eb := s56.lst eb
    have ef := s56.lst ef
    have el := s56.lst el
    have sm := sm.trans s56
    have lsub : ∀ {i : Nat} {z : Int}, left[i]? = some z → ∃ y : Nat, z = (y : Int) ∧ y < h ∧ y ≠ x ∧ left.getD i 0 = (y : Int) := fun {i z} e => by
      obtain ⟨y, a1, a2, a3⟩ := dj.sub z (List.mem_of_getElem? e)
      exact ⟨y, a3, a1, a2, by rw [List.getD_eq_getElem?_getD, e]; exact a3⟩
    have sq : LamQ ad.lP h H → Same H H6 := fun z => by
      have l1' : L1 ad.lP H5 := by
        rcases (LamQ.same z (sq z)).2 with c | c
        · have := dj.sub _ (List.mem_of_getElem? (List.getElem?_eq_getElem pl))
          obtain ⟨y, a1, a2, _⟩ := this
          omega
        · exact c
      rw [← q3 l1']
      exact sq z
    clear q2 q3 q4 s56
    refine ⟨SqL.of el, fun i w hw => ?_, fun i w hw bst => ?_⟩
    · obtain ⟨z, hz, rfl⟩ := int_at hw
      obtain ⟨y, rfl, hy, _, ey⟩ := lsub hz
      refine ⟨_, rfl, _, rfl, b, _, _, _, rfl, rfl, SqL.of eb, atG (by rw [dj.lenb]; exact hy), ?_⟩
      refine ⟨?_, rfl⟩
      show V.int (be.getD y 0) = V.int (be.getD (left.getD i 0).toNat 0)
      rw [ey]
      rfl
    obtain ⟨z, hz, rfl⟩ := int_at hw
    obtain ⟨t, rfl, hth, htx, et⟩ := lsub hz
    have tm := List.mem_of_getElem? hz
    have best : ∀ y : Nat, (y : Int) ∈ left → be.getD y 0 ≤ be.getD t 0 := fun y my => by
      obtain ⟨j, hj⟩ := List.getElem?_of_mem my
      have jl := (List.getElem?_eq_some_iff.mp hj).1
      have := (bst j (by rw [List.length_map]; exact jl)).1
      dsimp only at this
      rw [et, List.getD_eq_getElem?_getD (l := left), hj] at this
      exact this
    clear bst
    and_intros
    refine ⟨.inl ⟨rfl, _, SqL.of el⟩, ?_⟩
    and_intros
    refine ⟨l, left, (t : Int), rfl, rfl, el, tm, ?_⟩
    rw [← erase_idx]
    have lme : (left.erase (t : Int)).length = left.length - 1 := List.length_erase_of_mem tm
    obtain ⟨lf2, elf⟩ : ∃ lf2, lf2 = left.erase (t : Int) := ⟨_, rfl⟩
    rw [← elf]
    have sub2 : ∀ z ∈ lf2, ∃ y : Nat, y < h ∧ z = (y : Int) := fun z m => by
      rw [elf] at m
      obtain ⟨y, a1, _, a3⟩ := dj.sub z (List.mem_of_mem_erase m)
      exact ⟨y, a1, a3⟩
    have nd2 : lf2.Nodup := by rw [elf]; exact dj.nd.erase _
    have nt2 : (t : Int) ∉ lf2 := fun m => by rw [elf] at m; exact (dj.nd.mem_erase_iff.mp m).1 rfl
    rw [← elf] at lme
    have k1 : ∀ {c : Addr} {xs : List V}, H6 c = some (.lst xs) → c ≠ l → (upd H6 l (.lst (lf2.map V.int))) c = some (.lst xs) := fun e n => by rw [upd_ne n]; exact e
    have el' : (upd H6 l (.lst (lf2.map V.int))) l = some (.lst (lf2.map V.int)) := upd_same
    have eb' := k1 eb (Ne.symm lb)
    have ef' := k1 ef (Ne.symm lf)
    have sm' := sm.put (o := .lst (lf2.map V.int)) hlH
    have sq' : LamQ ad.lP h H → Same H (upd H6 l (.lst (lf2.map V.int))) := fun z => same_upd (sq z) hlH
    have l1' : L1 ad.lP (upd H6 l (.lst (lf2.map V.int))) := Lam1.put q1 el
    generalize upd H6 l (.lst (lf2.map V.int)) = H7 at el' eb' ef' sm' sq' l1' ⊢
    clear k1
    and_intros
    refine ⟨⟨_, SqL.of el'⟩, for_list (xs := lf2.map V.int) (fun k σ' H' => ∃ (v6 v7 : Option V) (be' bf' : List Int), σ' = [some (V.ref a), some (.int (x : Int)), some (.ref b), some (.ref f), some (.ref l), some (.int (t : Int)), v6, v7] ∧ Sm H H' ∧ (LamQ ad.lP h H → Same H H') ∧ L1 ad.lP H' ∧ H' b = some (.lst (be'.map V.int)) ∧ H' f = some (.lst (bf'.map V.int)) ∧ H' l = some (.lst (lf2.map V.int)) ∧ Upd h t L be bf (lf2.take k) be' bf') ⟨_, _, be, bf, rfl, sm', sq', l1', eb', ef', el', Upd.nil dj.lenb dj.lenf⟩ (fun k σ' H' _ ⟨_, _, _, _, _, _, _, _, _, _, e, _⟩ => SqL.of e) ?_ ?_⟩
    · rintro k w σ' H' hw ⟨v6, v7, be', bf', rfl, sm8, sq8, l18, eb8, ef8, el8, ud⟩
      obtain ⟨z, hz, rfl⟩ := int_at hw
      obtain ⟨y, hy, rfl⟩ := sub2 z (List.mem_of_getElem? hz)
      obtain ⟨ek, nk⟩ := step_at nd2 hz
      have lb8 : be'.length = h := ud.1
      have lf8 : bf'.length = h := ud.2.1
      have bt : be'.getD t 0 = be.getD t 0 := ud.at hth fun m => nt2 (List.mem_of_mem_take m)
      have by' : be'.getD y 0 = be.getD y 0 := ud.at hy nk
      obtain ⟨at8, _, _, r3, r4⟩ := (tb.sm sm8).row hth
      have ha8 := sm8.lst ha
      and_intros
      refine ⟨b, _, _, _, rfl, rfl, SqL.of eb8, atG (by omega), ?_⟩
      refine ⟨_, rfl, _, rfl, a, _, _, _, rfl, rfl, SqL.of ha8, r3, ?_⟩
      refine ⟨_, rfl, at8, _, _, _, rfl, rfl, SqL.of r4, row_cell (L t) hy, ?_⟩
      refine ⟨_, _, rfl, ?_⟩
      rw [min_if, bt]
      and_intros
      refine ⟨b, _, _, _, rfl, rfl, SqL.of eb8, atG (by omega), ?_⟩
      and_intros
      rw [by']
      by_cases c : be.getD y 0 < min (be.getD t 0) (L t y)
      · refine ifT (decide_eq_true c) ?_
        and_intros
        refine ⟨b, _, _, y, rfl, rfl, eb8, ixN_nat (by rw [List.length_map]; omega), ?_⟩
        rw [set_map]
        have ef9 : (upd H' b (.lst ((be'.set y (min (be.getD t 0) (L t y))).map V.int))) f = some (.lst (bf'.map V.int)) := by rw [upd_ne fb]; exact ef8
        have eb9 : (upd H' b (.lst ((be'.set y (min (be.getD t 0) (L t y))).map V.int))) b = some (.lst ((be'.set y (min (be.getD t 0) (L t y))).map V.int)) := upd_same
        have el9 : (upd H' b (.lst ((be'.set y (min (be.getD t 0) (L t y))).map V.int))) l = some (.lst (lf2.map V.int)) := by rw [upd_ne lb]; exact el8
        have sm9 := sm8.put (o := .lst ((be'.set y (min (be.getD t 0) (L t y))).map V.int)) hb
        have sq9 : LamQ ad.lP h H → Same H (upd H' b (.lst ((be'.set y (min (be.getD t 0) (L t y))).map V.int))) := fun z => same_upd (sq8 z) hb
        have l19 : L1 ad.lP (upd H' b (.lst ((be'.set y (min (be.getD t 0) (L t y))).map V.int))) := Lam1.put l18 eb8
        generalize upd H' b (.lst ((be'.set y (min (be.getD t 0) (L t y))).map V.int)) = H9 at ef9 eb9 el9 sm9 sq9 l19 ⊢
        and_intros
        refine ⟨f, _, _, y, rfl, rfl, ef9, ixN_nat (by rw [List.length_map]; omega), ?_⟩
        rw [set_map]
        exact ⟨_, _, be'.set y (min (be.getD t 0) (L t y)), bf'.set y (t : Int), rfl, sm9.put hfH, (fun z => same_upd (sq9 z) hfH), Lam1.put l19 ef9, by rw [upd_ne (Ne.symm fb)]; exact eb9, upd_same, by rw [upd_ne lf]; exact el9, by rw [ek]; exact ud.put hy c⟩
      · refine ifF (decide_eq_false c) ?_
        exact ⟨_, _, be', bf', rfl, sm8, sq8, l18, eb8, ef8, el8, by rw [ek]; exact ud.skip c⟩
    · rintro σ' H' ⟨v6, v7, be', bf', rfl, sm8, sq8, l18, eb8, ef8, el8, ud⟩
      rw [List.length_map, List.take_of_length_le (Nat.le_refl _), elf] at ud
      exact ⟨_, _, _, be', bf', lf2, _, rfl, sm8, sq8, .inr l18, .inr l18, eb8, ef8, el8, by rw [elf]; exact dj.step hx tm best ud, by omega⟩
theorem ok_cut_by (T : Tx K mg base ad) : FnOk P w K mg base CX0 2 ad.f_cut_by ad.d_cut_by ["reached", "x", "y"] spCutBy := by
  refine T.F_cut_by.ok sc_cut_by (fun vs H Q E h => ?_) (fun cdv A outer s H vs Q E hr h => ?_)
  · obtain ⟨t, h, x, y, L, be, rfl, _⟩ := h
    rfl
  obtain ⟨t, h, x, y, L, be, rfl, td, hx, hy, h12, q⟩ := h
  refine ⟨_, (@pss_cons _ _ _ _ _ (@ps_set _ _ (3) _ _ _ _ sc_cut_by.nd rfl (Or.inl rfl) (@pe_call _ _ _ _ _ _ _ _ _ _ _ _ _ _ _ _ (ok_with_one T) (hr.mono (by decide)) rfl T.m_with_one T.F_with_one.kp T.b_with_one .nil pass0 (@pa_cons _ _ _ _ _ pe_int (@pa_cons _ _ _ _ _ (pv 1) pa_nil (by rfl)) (by rfl)) (by decide) (by rfl) (by rfl)) (by rfl) (by first | exact .inl rfl | exact .inr rfl | assumption)) (@pss_cons _ _ _ _ _ (ps_for PassesOwn.never rfl (pi_enum rfl T.z_enumerate (@pa_cons _ _ _ _ _ (@pe_ix _ _ _ _ _ _ _ ix_tup (pv 0) pe_int (fun _ _ => rfl)) pa_nil (by rfl))) (pg_tup rfl (pgs_cons (pg_name (i := 4) sc_cut_by.nd rfl (Or.inl rfl)) (pgs_cons (pg_name (i := 5) sc_cut_by.nd rfl (Or.inl rfl)) pgs_nil))) (@pss_one _ _ _ (@ps_if _ _ _ _ _ _ _ _ (@pt_cmpR _ _ _ _ _ _ _ _ op_gt (pv 5) (@pe_ix _ _ _ _ _ _ _ ix_list (@pe_ix _ _ _ _ _ _ _ ix_tup (pv 0) pe_int (fun _ _ => rfl)) (pv 2) (fun _ _ => rfl)) (nomark _)) (@pss_one _ _ _ (@ps_set _ _ (3) _ _ _ _ sc_cut_by.nd rfl (Or.inl rfl) (@pe_call _ _ _ _ _ _ _ _ _ _ _ _ _ _ _ _ (ok_with_one T) (hr.mono (by decide)) rfl T.m_with_one T.F_with_one.kp T.b_with_one .nil pass0 (@pa_cons _ _ _ _ _ (pv 3) (@pa_cons _ _ _ _ _ (pv 4) pa_nil (by rfl)) (by rfl)) (by decide) (by rfl) (by rfl)) (by rfl) (by first | exact .inl rfl | exact .inr rfl | assumption))) pss_nil))) (@pss_one _ _ _ (@ps_ret _ _ _ _ (pv 3))))), ?_⟩
  obtain ⟨b, f, bf, et, eb, ef, re⟩ := td.is
  have bl := re.lenb
  and_intros
  refine ⟨0, (x : Int), rfl, by omega, by omega, ?_⟩
  rw [show Builtin.bitOr 0 (1 * 2 ^ (x : Int).toNat) = msum h (fun i => decide (i = x)) from (by
    rw [Int.toNat_natCast, show (0 : Int) = msum h (fun _ => false) from (msum_zero fun _ _ => rfl).symm, or_at _ hx]
    exact msum_congr h fun i _ => by rw [Bool.false_or])]
  and_intros
  refine ⟨⟨_, SqL.of eb⟩, for_enum (xs := be.map V.int) (fun i σ' H' => ∃ v4 v5 : Option V, σ' = [some (.ref t), some (.int (x : Int)), some (.int (y : Int)), some (.int (msum h fun j => decide (j = x) || (decide (j < i) && decide (be.getD y 0 < be.getD j 0)))), v4, v5] ∧ Same H H') ⟨none, none, ?_, fun _ _ e => e⟩ (fun i σ' H' _ ⟨_, _, _, e⟩ => SqL.of (e _ _ eb)) ?_ ?_⟩
  · rw [msum_congr h (g := fun j => decide (j = x) || (decide (j < 0) && decide (be.getD y 0 < be.getD j 0))) (fun j _ => by rw [decide_eq_false (Nat.not_lt_zero j), Bool.false_and, Bool.or_false])]
    rfl
  · rintro i w T0 σ' H' hw ⟨v4, v5, rfl, s1⟩ hT
    obtain ⟨z, hz, rfl⟩ := int_at hw
    have hi : i < be.length := (List.getElem?_eq_some_iff.mp hz).1
    have ez : be.getD i 0 = z := by rw [List.getD_eq_getElem?_getD, hz]; rfl
    have s2 := same_new hT (.tup [.int (i : Int), .int z])
    have eT : (upd H' T0 (.tup [.int (i : Int), .int z])) T0 = some (.tup [.int (i : Int), .int z]) := upd_same
    generalize upd H' T0 (.tup [.int (i : Int), .int z]) = H2 at s2 eT ⊢
    have s12 := s1.trans s2
    refine ⟨T0, _, rfl, SqT.of eT, rfl, _, _, rfl, _, _, rfl, rfl, ?_⟩
    have et2 := s12 _ _ et
    and_intros
    refine ⟨b, _, _, _, rfl, rfl, SqL.of (s12 _ _ eb), atG (by omega), ?_⟩
    and_intros
    by_cases c : be.getD y 0 < z
    · refine ifT (decide_eq_true c) ?_
      and_intros
      refine ⟨_, (i : Int), rfl, by omega, by omega, ?_⟩
      rw [Int.toNat_natCast, or_at _ (by omega)]
      refine ⟨some (.int (i : Int)), some (.int z), ?_, s12⟩
      have em : msum h (fun j => (decide (j = x) || (decide (j < i) && decide (be.getD y 0 < be.getD j 0))) || decide (j = i)) = msum h (fun j => decide (j = x) || (decide (j < i + 1) && decide (be.getD y 0 < be.getD j 0))) := msum_congr h fun j _ => ?_
      · rw [em]; rfl
      · by_cases e : j = i
        · subst e
          rw [decide_eq_true rfl, decide_eq_true (show j < j + 1 by omega), ez, decide_eq_true c]
          simp
        · rw [decide_eq_false e, Bool.or_false]
          by_cases d : j < i
          · rw [decide_eq_true d, decide_eq_true (show j < i + 1 by omega)]
          · rw [decide_eq_false d, decide_eq_false (show ¬ j < i + 1 by omega)]
    · refine ifF (decide_eq_false c) ?_
      refine ⟨some (.int (i : Int)), some (.int z), ?_, s12⟩
      have em : msum h (fun j => decide (j = x) || (decide (j < i) && decide (be.getD y 0 < be.getD j 0))) = msum h (fun j => decide (j = x) || (decide (j < i + 1) && decide (be.getD y 0 < be.getD j 0))) := msum_congr h fun j _ => ?_
      · rw [em]; rfl
      · by_cases e : j = i
        · subst e
          rw [ez, decide_eq_false c, Bool.and_false, Bool.and_false]
        · by_cases d : j < i
          · rw [decide_eq_true d, decide_eq_true (show j < i + 1 by omega)]
          · rw [decide_eq_false d, decide_eq_false (show ¬ j < i + 1 by omega)]
  · rintro σ' H' ⟨v4, v5, rfl, s1⟩
    rw [List.length_map, bl]
    and_intros
    rw [msum_congr h (g := cutF x y be) (fun j hj => ?_)]
    · exact q _ s1
    · unfold cutF
      rw [decide_eq_true hj, Bool.true_and, Bool.decide_or]
theorem ok_are_hands (T : Tx K mg base ad) : FnOk P w K mg base CX0 2 ad.f_are_hands ad.d_are_hands ["thing"] spHands := by
  refine T.F_are_hands.ok sc_are_hands (fun vs H Q E h => ?_) (fun cdv A outer s H vs Q E hr h => ?_)
  · obtain ⟨n, rfl, _⟩ := h
    rfl
  obtain ⟨n, rfl, n0, n1, q⟩ := h
  refine ⟨_, (@pss_one _ _ _ (@ps_ret _ _ _ _ (@pe_and _ _ _ _ _ _ _ (@pe_call _ _ _ _ _ _ _ _ _ _ _ _ _ _ _ _ (ok_is_whole T) (hr.mono (by decide)) rfl T.m_is_whole T.F_is_whole.kp T.b_is_whole .nil pass0 (@pa_cons _ _ _ _ _ (pv 0) pa_nil (by rfl)) (by decide) (by rfl) (by rfl)) (@pe_one _ _ _ _ _ (pe_chain op_le op_le pe_int (pv 0) (pe_glob (v := .int 12) rfl T.k_MOST_HANDS ⟨_, rfl⟩)))))), ?_⟩
  refine ⟨_, rfl, n, rfl, ?_⟩
  and_intros
  refine ifT (decide_eq_true n0) ?_
  and_intros
  show Q (.bl (decide (n ≤ 12))) H
  rw [decide_eq_true n1]
  exact q
theorem ok_are_seats (T : Tx K mg base ad) : FnOk P w K mg base CX0 2 ad.f_are_seats ad.d_are_seats ["thing"] spSeats := by
  refine T.F_are_seats.ok sc_are_seats (fun vs H Q E h => ?_) (fun cdv A outer s H vs Q E hr h => ?_)
  · obtain ⟨n, rfl, _⟩ := h
    rfl
  obtain ⟨n, rfl, n0, n1, q⟩ := h
  refine ⟨_, (@pss_one _ _ _ (@ps_ret _ _ _ _ (@pe_and _ _ _ _ _ _ _ (@pe_call _ _ _ _ _ _ _ _ _ _ _ _ _ _ _ _ (ok_is_whole T) (hr.mono (by decide)) rfl T.m_is_whole T.F_is_whole.kp T.b_is_whole .nil pass0 (@pa_cons _ _ _ _ _ (pv 0) pa_nil (by rfl)) (by decide) (by rfl) (by rfl)) (@pe_one _ _ _ _ _ (pe_chain op_le op_le pe_int (pv 0) (pe_glob (v := .int 60) rfl T.k_MOST_SEATS ⟨_, rfl⟩)))))), ?_⟩
  refine ⟨_, rfl, n, rfl, ?_⟩
  and_intros
  refine ifT (decide_eq_true n0) ?_
  and_intros
  show Q (.bl (decide (n ≤ 60))) H
  rw [decide_eq_true n1]
  exact q
theorem ok_are_lots (T : Tx K mg base ad) : FnOk P w K mg base CX0 2 ad.f_are_lots ad.d_are_lots ["thing", "hands"] (spLots K) := by
  refine T.F_are_lots.ok sc_are_lots (fun vs H Q E h => ?_) (fun cdv A outer s H vs Q E hr h => ?_)
  · obtain ⟨l, ns, n, rfl, _⟩ := h
    rfl
  obtain ⟨l, ns, n, rfl, hl, pm, n12, q⟩ := h
  refine ⟨_, (@pss_cons _ _ _ _ _ (@ps_if _ _ _ _ _ _ _ _ (@pt_not _ _ _ _ (@pt_val _ _ _ (@pe_callB _ _ _ _ _ _ _ _ _ call_isi (by rfl) T.z_isinstance PyProof.Rows.boot_isinstance (@pa_cons _ _ _ _ _ (pv 0) (@pa_cons _ _ _ _ _ (pe_bltn (v := .ty "list") rfl T.z_list PyProof.Rows.boot_list rfl) pa_nil (by rfl)) (by rfl)) (by decide) (by decide) (by rfl) (by rfl)) (by intro _; rfl))) (@pss_one _ _ _ (@ps_ret _ _ _ _ pe_bl)) pss_nil) (@pss_one _ _ _ (@ps_ret _ _ _ _ (@pe_and _ _ _ _ _ _ _ (@pe_callB _ _ _ _ _ _ _ _ _ (call_all rfl) (by rfl) T.z_all PyProof.Rows.boot_all (@pa_cons _ _ _ _ _ (pe_comp (fsc := defScope s_are_lots) (N := ["thing", "hands"]) (Nc := ["thing", "hands", "hand"]) rfl rfl ⟨rfl, by decide +kernel, by decide +kernel, rfl, by decide +kernel, rfl, by decide +kernel, rfl, by decide +kernel⟩ rfl (pi_list (pv 0)) (fun _ _ _ _ => pif_nil) (fun _ _ _ _ => (@pe_call _ _ _ _ _ _ _ _ _ _ _ _ _ _ _ _ (ok_is_whole T) (hr.mono (by decide)) rfl T.m_is_whole T.F_is_whole.kp T.b_is_whole .nil pass0 (@pa_cons _ _ _ _ _ (pv 2) pa_nil (by rfl)) (by decide) (by rfl) (by rfl)))) pa_nil (by rfl)) (by decide) (by decide) (by rfl) (by rfl)) (@pe_one _ _ _ _ _ (@pe_cmpR _ _ _ _ _ _ _ _ (op_eqD (K := K) hr.units) (@pe_callB _ _ _ _ _ _ _ _ _ call_sortedI (by rfl) T.z_sorted PyProof.Rows.boot_sorted (@pa_cons _ _ _ _ _ (pv 0) pa_nil (by rfl)) (by decide) (by decide) (by rfl) (by rfl)) (pe_listrange rfl (by rfl) T.z_list (by rfl) T.z_range (pv 1)) (nomark _))))))), ?_⟩
  have nl : ns.length = n := by rw [pm.length_eq, ups_len]
  refine ⟨_, rfl, _, _, _, _, rfl, TyOf.lst hl, kit_list_list, ?_⟩
  and_intros
  refine ⟨⟨_, SqL.of hl⟩, ?_⟩
  refine comp_list (xs := ns.map V.int) (by rw [List.length_map]; exact small63 (by omega)) (fun D i ys H' => ys = (List.replicate i true).map V.bl ∧ H' = upd H D (.lst ys)) (fun D hD => ⟨rfl, rfl⟩) (fun D i ys H' ⟨f1, f2⟩ => ⟨by rw [f2]; exact upd_same, by rw [f1, List.length_map, List.length_replicate]; exact Nat.le_refl _⟩) (fun D i ys H' hD ⟨_, f2⟩ => by rw [f2]; exact SqL.of (same_new hD _ _ _ hl)) ?_ ?_
  · rintro D i x ys H' K1 K2 hD hx ⟨f1, rfl⟩ k1 k2
    obtain ⟨z, hz, rfl⟩ := int_at hx
    refine yes (ifT rfl ?_)
    refine ⟨_, rfl, z, rfl, ?_⟩
    refine k1 _ _ upd_same ⟨?_, by rw [upd_upd]⟩
    rw [f1, List.replicate_succ', List.map_append]
    rfl
  · rintro D ys H' hD ⟨rfl, rfl⟩
    refine ⟨D, _, rfl, SqL.of upd_same, ?_⟩
    rw [show (List.replicate (ns.map V.int).length true).all id = true from List.all_eq_true.mpr fun b m => (List.mem_replicate.mp m).2]
    have s1 := same_new hD (.lst ((List.replicate (ns.map V.int).length true).map V.bl))
    generalize upd H D (.lst ((List.replicate (ns.map V.int).length true).map V.bl)) = H1 at s1 ⊢
    and_intros
    refine ⟨l, ns, rfl, SqL.of (s1 _ _ hl), by omega, fun a ms pa sa ha => ?_⟩
    have e := ups_of pa sa pm
    subst e
    have s2 := same_new ha (.lst ((ups n).map V.int))
    have e2 : (upd H1 a (.lst ((ups n).map V.int))) a = some (.lst ((ups n).map V.int)) := upd_same
    generalize upd H1 a (.lst ((ups n).map V.int)) = H2 at s2 e2 ⊢
    and_intros
    refine ⟨by omega, fun b hb => ?_⟩
    rw [← ups_v]
    have s3 := same_new hb (.lst ((ups n).map V.int))
    refine ⟨.list ((ups n).map .int), .list ((ups n).map .int), .lst (SqL.of (s3 _ _ e2)) (.ints _), .lst (SqL.of upd_same) (.ints _), (shape_ints _).2, (shape_ints _).2, ?_⟩
    rw [show PyData.eqv (.list ((ups n).map .int)) (.list ((ups n).map .int)) = true from by show PyData.eqvAll _ _ = true; rw [eqv_ints]; exact decide_eq_true rfl]
    exact q _ ((s1.trans s2).trans s3)
theorem ok_law_ranks (T : Tx K mg base ad) : FnOk P w K mg base CX0 2 ad.f_law_ranks ad.d_law_ranks ["_law_cell_here", "_law_hands"] spRanks51 := by
  refine T.F_law_ranks.ok sc_law_ranks (fun vs H Q E h => ?_) (fun cdv A outer s H vs Q E hr h => ?_)
  · obtain ⟨c, h, rfl, _⟩ := h
    rfl
  obtain ⟨c, h, rfl, c0, c1, h1, h12, q⟩ := h
  refine ⟨_, (@pss_cons _ _ _ _ _ (@ps_set _ _ (2) _ _ _ _ sc_law_ranks.nd rfl (Or.inl rfl) (@pe_call _ _ _ _ _ _ _ _ _ _ _ _ _ _ _ _ (ok_law_mixed T) (hr.mono (by decide)) rfl T.m_law_mixed T.F_law_mixed.kp T.b_law_mixed .nil pass0 (@pa_cons _ _ _ _ _ (pv 0) (@pa_cons _ _ _ _ _ pe_int pa_nil (by rfl)) (by rfl)) (by decide) (by rfl) (by rfl)) (by rfl) (by first | exact .inl rfl | exact .inr rfl | assumption)) (@pss_cons _ _ _ _ _ (@ps_if _ _ _ _ _ _ _ _ (@pt_cmpR _ _ _ _ _ _ _ _ op_lt (@pe_op _ _ _ _ _ _ _ _ op_modN (pv 2) pe_int) pe_int (nomark _)) (@pss_cons _ _ _ _ _ (@ps_set _ _ (3) _ _ _ _ sc_law_ranks.nd rfl (Or.inr rfl) (@pe_call _ _ _ _ _ _ _ _ _ _ _ _ _ _ _ _ (ok_law_order T) (hr.mono (by decide)) rfl T.m_law_order T.F_law_order.kp T.b_law_order .nil pass0 (@pa_cons _ _ _ _ _ (@pe_op _ _ _ _ _ _ _ _ op_fdivB (pv 2) pe_int) (@pa_cons _ _ _ _ _ (pv 1) pa_nil (by rfl)) (by rfl)) (by decide) (by rfl) (by rfl)) (by rfl) (by first | exact .inl rfl | exact .inr rfl | assumption)) (@pss_cons _ _ _ _ _ (@ps_set _ _ (4) _ _ _ _ sc_law_ranks.nd rfl (Or.inr rfl) (@pe_ix _ _ _ _ _ _ _ ix_list (@pe_lst _ _ _ _ (@pa_cons _ _ _ _ _ (pv 1) (@pa_cons _ _ _ _ _ (@pe_op _ _ _ _ _ _ _ _ op_modN (@pe_op _ _ _ _ _ _ _ _ op_fdivB (pv 2) pe_int) (@pe_op _ _ _ _ _ _ _ _ op_add (pv 1) pe_int)) pa_nil (by rfl)) (by rfl))) (@pe_op _ _ _ _ _ _ _ _ op_modN (@pe_op _ _ _ _ _ _ _ _ op_fdivB (pv 2) pe_int) pe_int) (fun _ _ => rfl)) (by rfl) (by first | exact .inl rfl | exact .inr rfl | assumption)) (@pss_one _ _ _ (@ps_ret _ _ _ _ (pe_comp (fsc := defScope s_law_ranks) (N := ["_law_cell_here", "_law_hands", "_law_number", "_law_order_here", "_law_most", "_law_spread"]) (Nc := ["_law_cell_here", "_law_hands", "_law_number", "_law_order_here", "_law_most", "_law_spread", "_law_hand"]) rfl rfl ⟨rfl, by decide +kernel, by decide +kernel, rfl, by decide +kernel, rfl, by decide +kernel, rfl, by decide +kernel⟩ rfl (pi_range1 rfl T.z_range (@pa_cons _ _ _ _ _ (pv 1) pa_nil (by rfl))) (fun _ _ _ _ => pif_nil) (fun _ _ _ _ => (@pe_op _ _ _ _ _ _ _ _ op_mulB (@pe_callTy _ _ _ _ _ _ _ _ _ call_int1 (by rfl) T.z_int PyProof.Rows.boot_int (@pa_cons _ _ _ _ _ (@pe_cmpR _ _ _ _ _ _ _ _ op_lt (@pe_ix _ _ _ _ _ _ _ (ix_listK K) (pv 3) (pv 6) (fun _ _ => rfl)) (pv 4) (nomark _)) pa_nil (by rfl)) (by decide) (by decide) (by rfl) (by rfl)) (@pe_op _ _ _ _ _ _ _ _ op_add (@pe_ix _ _ _ _ _ _ _ (ix_listK K) (pv 3) (pv 6) (fun _ _ => rfl)) pe_int)))))))) pss_nil) (@pss_cons _ _ _ _ _ (@ps_set _ _ (5) _ _ _ _ sc_law_ranks.nd rfl (Or.inr rfl) (@pe_op _ _ _ _ _ _ _ _ op_add pe_int (@pe_op _ _ _ _ _ _ _ _ op_modN (@pe_op _ _ _ _ _ _ _ _ op_fdivB (pv 2) pe_int) pe_int)) (by rfl) (by first | exact .inl rfl | exact .inr rfl | assumption)) (@pss_one _ _ _ (@ps_ret _ _ _ _ (pe_comp (fsc := defScope s_law_ranks) (N := ["_law_cell_here", "_law_hands", "_law_number", "_law_order_here", "_law_most", "_law_spread"]) (Nc := ["_law_cell_here", "_law_hands", "_law_number", "_law_order_here", "_law_most", "_law_spread", "_law_hand"]) rfl rfl ⟨rfl, by decide +kernel, by decide +kernel, rfl, by decide +kernel, rfl, by decide +kernel, rfl, by decide +kernel⟩ rfl (pi_range1 rfl T.z_range (@pa_cons _ _ _ _ _ (pv 1) pa_nil (by rfl))) (fun _ _ _ _ => pif_nil) (fun _ _ _ _ => (@pe_op _ _ _ _ _ _ _ _ op_modN (@pe_call _ _ _ _ _ _ _ _ _ _ _ _ _ _ _ _ (ok_law_mixed T) (hr.mono (by decide)) rfl T.m_law_mixed T.F_law_mixed.kp T.b_law_mixed .nil pass0 (@pa_cons _ _ _ _ _ (pv 0) (@pa_cons _ _ _ _ _ (@pe_op _ _ _ _ _ _ _ _ op_add pe_int (pv 6)) pa_nil (by rfl)) (by rfl)) (by decide) (by rfl) (by rfl)) (pv 5))))))))), ?_⟩
  obtain ⟨n, rfl⟩ : ∃ n : Nat, h = (n : Int) := ⟨h.toNat, by omega⟩
  have szc : Sz 200 c := (sz18 c0 c1).mono (by decide)
  and_intros
  refine ⟨c, 1, rfl, szc, szd 64, fun z z0 z1 => ?_⟩
  have d64 := div_in z0 (show (1 : Int) ≤ 64 by decide) z1
  and_intros
  refine ite2 (fun _ => ?_) (fun _ => ?_)
  · and_intros
    refine ⟨z.fdiv 64, (n : Int), rfl, d64.1, Int.lt_trans d64.2 (by decide), h1, h12, fun o ns H1 s1 e1 pm => ?_⟩
    rw [Int.toNat_natCast] at pm
    have nl : ns.length = n := by rw [pm.length_eq, ups_len]
    have nm : ∀ x ∈ ns, 0 ≤ x ∧ x < n := fun x m => by
      have := pm.mem_iff.mp m
      unfold ups at this
      obtain ⟨i, hi, rfl⟩ := List.mem_map.mp this
      have := List.mem_range.mp hi
      omega
    and_intros
    refine ⟨(by show (_ : Int) ≠ 0; omega), ?_⟩
    have m2 := fmod_in (z.fdiv 2) (show (0 : Int) < 2 by decide)
    refine ⟨(by show 2 ≤ sizeLine; decide), fun b2 hb2 => ?_⟩
    dsimp only
    have s2 := s1.trans (same_new hb2 (.lst [V.int n, V.int ((z.fdiv 8).fmod (n + 1))]))
    have e2 : (upd H1 b2 (.lst [V.int n, V.int ((z.fdiv 8).fmod (n + 1))])) b2 = some (.lst [V.int n, V.int ((z.fdiv 8).fmod (n + 1))]) := upd_same
    have eo := same_new hb2 (.lst [V.int n, V.int ((z.fdiv 8).fmod (n + 1))]) _ _ e1
    generalize upd H1 b2 (.lst [V.int n, V.int ((z.fdiv 8).fmod (n + 1))]) = H2 at s2 e2 eo ⊢
    and_intros
    obtain ⟨v, hv⟩ : ∃ v : Int, atI [V.int (n : Int), V.int ((z.fdiv 8).fmod (n + 1))] ((z.fdiv 2).fmod 2) = some (.int v) := by
      rcases (by omega : (z.fdiv 2).fmod 2 = 0 ∨ (z.fdiv 2).fmod 2 = 1) with e | e
      · rw [e]; exact ⟨_, rfl⟩
      · rw [e]; exact ⟨_, rfl⟩
    refine ⟨b2, _, _, _, rfl, rfl, SqL.of e2, hv, ?_⟩
    and_intros
    refine ⟨by omega, by omega, ?_⟩
    rw [Int.toNat_natCast]
    refine comp_range (small63 (by omega)) (fun D i ys J => ∃ us : List Int, ys = us.map V.int ∧ us.length = i ∧ (∀ u ∈ us, 0 ≤ u ∧ u ≤ 12) ∧ J = upd H2 D (.lst ys)) (fun D hD => ⟨[], rfl, rfl, (fun _ m => nomatch m), rfl⟩) (fun D i ys J ⟨us, g1, g2, _, g3⟩ => ⟨by rw [g3]; exact upd_same, by rw [g1, List.length_map, g2]; exact Nat.le_refl _⟩) ?_ ?_
    · rintro D i ys J K1 K2 hD hi ⟨us, rfl, g2, g3, rfl⟩ k1 k2
      have e0 : (0 : Int) + (i : Int) = (i : Int) := Int.zero_add _
      have eo' := same_new hD (.lst (us.map V.int)) _ _ eo
      have ni := nm _ (List.getElem_mem (show i < ns.length by omega))
      have gi : atI (ns.map V.int) (0 + (i : Int)) = some (.int ns[i]) := by rw [e0]; exact atN (List.getElem?_eq_getElem (by omega))
      refine yes (ifT rfl ?_)
      refine ⟨_, rfl, _, rfl, o, _, _, _, rfl, rfl, SqL.of eo', gi, _, rfl, _, _, rfl, rfl, .inr ⟨_, rfl, ?_⟩⟩
      have b01 : ∀ b : Bool, (0 : Int) ≤ (if b = true then 1 else 0) ∧ (if b = true then (1 : Int) else 0) ≤ 1 := fun b => by cases b <;> decide
      have hb := b01 (decide (ns[i] < v))
      generalize (if decide (ns[i] < v) = true then (1 : Int) else 0) = y at hb ⊢
      have szy : Sz 64 y := sz_of (by omega) (by omega)
      have szn : Sz 64 (ns[i] + 1) := sz_of (by omega) (by omega)
      refine ⟨_, rfl, _, rfl, o, _, _, _, rfl, rfl, SqL.of eo', gi, _, _, rfl, rfl, _, _, rfl, rfl, ⟨_, _, szy, szn, by decide +kernel⟩, ?_⟩
      refine k1 _ _ upd_same ⟨us ++ [y * (ns[i] + 1)], by rw [List.map_append]; rfl, by rw [List.length_append, g2]; rfl, fun u m => ?_, by rw [upd_upd]⟩
      rcases List.mem_append.mp m with m | m
      · exact g3 u m
      · rw [List.mem_singleton.mp m]
        rcases (by omega : y = 0 ∨ y = 1) with e | e
        · rw [e, Int.zero_mul]; omega
        · rw [e, Int.one_mul]; omega
    · rintro D ys J hD ⟨us, rfl, g2, g3, rfl⟩
      exact q D us _ (none_of s2 hD) (s2.trans (same_new hD _)) upd_same ⟨by omega, g3⟩
  · and_intros
    refine ⟨by omega, by omega, ?_⟩
    rw [Int.toNat_natCast]
    have m4 := fmod_in (z.fdiv 8) (show (0 : Int) < 4 by decide)
    dsimp only
    refine comp_range (small63 (by omega)) (fun D i ys J => ∃ us : List Int, ys = us.map V.int ∧ us.length = i ∧ (∀ u ∈ us, 0 ≤ u ∧ u ≤ 12) ∧ J = upd H D (.lst ys)) (fun D hD => ⟨[], rfl, rfl, (fun _ m => nomatch m), rfl⟩) (fun D i ys J ⟨us, g1, g2, _, g3⟩ => ⟨by rw [g3]; exact upd_same, by rw [g1, List.length_map, g2]; exact Nat.le_refl _⟩) ?_ ?_
    · rintro D i ys J K1 K2 hD hi ⟨us, rfl, g2, g3, rfl⟩ k1 k2
      refine yes (ifT rfl ?_)
      and_intros
      refine ⟨c, 20 + (0 + (i : Int)), rfl, szc, sz_of (by omega) (by omega), fun y y0 y1 => ?_⟩
      have my := fmod_in y (show (0 : Int) < 2 + (z.fdiv 8).fmod 4 by omega)
      and_intros
      refine ⟨(by show (_ : Int) ≠ 0; omega), ?_⟩
      refine k1 _ _ upd_same ⟨us ++ [y.fmod (2 + (z.fdiv 8).fmod 4)], by rw [List.map_append]; rfl, by rw [List.length_append, g2]; rfl, fun u m => ?_, by rw [upd_upd]⟩
      rcases List.mem_append.mp m with m | m
      · exact g3 u m
      · rw [List.mem_singleton.mp m]; omega
    · rintro D ys J hD ⟨us, rfl, g2, g3, rfl⟩
      exact q D us _ hD (same_new hD _) upd_same ⟨by omega, g3⟩
theorem ok_law_sheet (T : Tx K mg base ad) : FnOk P w K mg base CX0 2 ad.f_law_sheet ad.d_law_sheet ["_law_votes_here"] spSheet51 := by
  refine T.F_law_sheet.ok sc_law_sheet (fun vs H Q E h => ?_) (fun cdv A outer s H vs Q E hr h => ?_)
  · obtain ⟨l, vo, h, rfl, _⟩ := h
    rfl
  obtain ⟨l, vo, h, rfl, hl, g0, l24, nv, h12, q⟩ := h
  refine ⟨_, (@pss_cons _ _ _ _ _ (@ps_set _ _ (1) _ _ _ _ sc_law_sheet.nd rfl (Or.inr rfl) pe_dnewT (by rfl) (by first | exact .inl rfl | exact .inr rfl | assumption)) (@pss_cons _ _ _ _ _ (ps_for PassesOwn.never rfl (pi_list (pv 0)) (pg_tup rfl (pgs_cons (pg_name (i := 2) sc_law_sheet.nd rfl (Or.inl rfl)) (pgs_cons (pg_name (i := 3) sc_law_sheet.nd rfl (Or.inl rfl)) pgs_nil))) (@pss_cons _ _ _ _ _ (@ps_set _ _ (4) _ _ _ _ sc_law_sheet.nd rfl (Or.inl rfl) (@pe_call _ _ _ _ _ _ _ _ _ _ _ _ _ _ _ _ (ok_law_slip T) (hr.mono (by decide)) rfl T.m_law_slip T.F_law_slip.kp T.b_law_slip .nil pass0 (@pa_cons _ _ _ _ _ (pv 2) pa_nil (by rfl)) (by decide) (by rfl) (by rfl)) (by rfl) (by first | exact .inl rfl | exact .inr rfl | assumption)) (@pss_one _ _ _ (ps_dput (u1 hr.units) (pv 1) (pv 4) (@pe_op _ _ _ _ _ _ _ _ op_add (pe_dget2 (u1 hr.units) (pv 1) (pv 4) pe_int ⟨rfl, rfl, rfl, rfl⟩) (pv 3)) rfl)))) (@pss_one _ _ _ (@ps_ret _ _ _ _ (pe_comp (fsc := defScope s_law_sheet) (N := ["_law_votes_here", "_law_many", "_law_ranks_here", "_law_number", "_law_slip_here"]) (Nc := ["_law_votes_here", "_law_many", "_law_ranks_here", "_law_number", ".s4", "_law_slip_here"]) rfl rfl ⟨rfl, by decide +kernel, by decide +kernel, rfl, by decide +kernel, rfl, by decide +kernel, rfl, by decide +kernel⟩ rfl (pi_list (@pe_callB _ _ _ _ _ _ _ _ _ (call_sortedDT rfl hr.units) (by rfl) T.z_sorted PyProof.Rows.boot_sorted (@pa_cons _ _ _ _ _ (pv 1) pa_nil (by rfl)) (by decide) (by decide) (by rfl) (by rfl))) (fun _ _ _ _ => pif_nil) (fun _ _ _ _ => (@pe_tup _ _ _ _ _ (@pa_cons _ _ _ _ _ (pv 5) (@pa_cons _ _ _ _ _ (pe_dget (u1 hr.units) (pv 1) (pv 5) (fun _ _ => rfl)) pa_nil (by rfl)) (by rfl))))))))), ?_⟩
  intro d hd
  have s0 := same_new hd (.dT [])
  have e0 : (upd H d (.dT [])) d = some (.dT []) := upd_same
  generalize upd H d (.dT []) = H0 at s0 e0 ⊢
  refine ⟨_, rfl, l, rfl, ⟨_, SqL.of (s0 _ _ hl)⟩, for_list (xs := vvo vo) (fun i σ' H' => ∃ (v2 v3 v4 : Option V) (kvs : List (List Key × V)), σ' = [some (V.ref l), some (.ref d), v2, v3, v4] ∧ Same H H' ∧ H' d = some (.dT kvs) ∧ GoodK h kvs ∧ kvs.length ≤ i ∧ LowK (20000000000 * ((i : Nat) : Int)) kvs ∧ (kvs.map (·.1)).Nodup ∧ ∀ f, tsum f (dsK kvs) = sumV (fun rs => f (tiersOf rs)) (vo.take (i))) ⟨none, none, none, [], rfl, s0, e0, (fun _ m => nomatch m), Nat.le_refl _, (fun _ m => nomatch m), List.nodup_nil, fun _ => rfl⟩ (fun i σ' H' _ ⟨_, _, _, _, _, e, _⟩ => SqL.of (e _ _ hl)) ?_ ?_⟩
  · rintro i x σ' H' hx ⟨v2, v3, v4, kvs, rfl, s1, e1, g, hk, lw, nd, sm⟩
    obtain ⟨f, hf, rfl, fm, et⟩ := vvo_get hx
    obtain ⟨g1, g2, g3⟩ := g0 f fm
    have hi : i < vo.length := (List.getElem?_eq_some_iff.mp hf).1
    obtain ⟨nf0, nf1, nfr⟩ := nv f fm
    refine ⟨f.1, _, rfl, SqT.of (s1 _ _ g1), rfl, _, _, rfl, _, _, rfl, rfl, ?_⟩
    and_intros
    refine ⟨f.2.1, f.2.2.1, rfl, SqL.of (s1 _ _ g2), by omega, fun t H2 ht s2 e2 => ?_⟩
    have fi : First h (tiersOf f.2.2.1) := ⟨_, g3, nfr, rfl⟩
    generalize ets : tiersOf f.2.2.1 = ts at e2 fi
    have d2 := s2 _ _ e1
    have kt : H2 t = some (.tup ((ts.map Sum.inl : List Key).map kV)) := by rw [kv_map]; exact e2
    obtain ⟨n, en⟩ : ∃ n, n = f.2.2.2 := ⟨_, rfl⟩
    rw [← en] at nf0 nf1 ⊢
    have put : ∀ (z : Int) (H3 : Hp), 0 ≤ z → z ≤ 20000000000 * ((i : Int) + 1) → (∀ f, tsum f (dsK (putK kvs (ts.map Sum.inl) (.int z))) = tsum f (dsK kvs) + if f ts then n else 0) → Same H2 H3 → H3 d = some (.dT kvs) → H3 t = some (.tup ((ts.map Sum.inl : List Key).map kV)) → ∃ a H4, V.ref d = V.ref a ∧ DPut H3 a (.ref t) (.int z) H4 ∧ ∃ (v2 v3 v4 : Option V) (qs : List (List Key × V)), [some (V.ref l), some (.ref d), some (.ref f.2.1), some (.int n), some (.ref t)] = [some (V.ref l), some (.ref d), v2, v3, v4] ∧ Same H H4 ∧ H4 d = some (.dT qs) ∧ GoodK h qs ∧ qs.length ≤ i + 1 ∧ LowK (20000000000 * ((i + 1 : Nat) : Int)) qs ∧ (qs.map (·.1)).Nodup ∧ ∀ f, tsum f (dsK qs) = sumV (fun rs => f (tiersOf rs)) (vo.take (i + 1)) := fun z H3 z0 z1 zs s3 d3 t3 =>
      ⟨d, _, rfl, DPut.t d3 t3 (small1000 (by omega)), _, _, _, _, rfl, same_upd ((s1.trans s2).trans s3) hd, upd_same, goodK_put g fi, Nat.le_trans (putK_len ..) (by omega), lw.put (by omega) z0 (by omega), nd_put nd, fun f' => by
        rw [zs f', sm f', et, sumV_snoc, ets, en]⟩
    refine ⟨_, rfl, d, rfl, .inr ⟨_, .inl d2⟩, _, rfl, _, DGet.t d2 kt, ?_⟩
    cases ev : valV kvs (ts.map Sum.inl : List Key) with
    | none =>
      and_intros
      exact put _ H2 (by omega) (by omega) (fun f => by rw [Int.zero_add]; exact put_new f ev) (fun _ _ e => e) d2 kt
    | some w =>
      obtain ⟨mm, rfl⟩ := goodK_val g ev
      have lv := lw.val ev
      and_intros
      exact put _ H2 (by omega) (by omega) (fun f => put_sum f nd ev) (fun _ _ e => e) d2 kt
  · rintro σ' H' ⟨v2, v3, v4, kvs, rfl, s1, e1, g, hk, lw, nd, sm⟩
    rw [vvo_len] at hk lw sm
    rw [List.take_of_length_le (Nat.le_refl _)] at sm
    obtain ⟨ks, k1, k2, k3⟩ := goodK_keys g
    refine ⟨_, rfl, d, kvs, ks, rfl, .inl e1, k1, by omega, fun l2 rs r1 r2 r3 hl2 => ?_⟩
    have sl := same_new hl2 (.lst (rs.map fun q => V.ref q.1))
    have el : (upd H' l2 (.lst (rs.map fun q => V.ref q.1))) l2 = some (.lst (rs.map fun q => V.ref q.1)) := upd_same
    generalize upd H' l2 (.lst (rs.map fun q => V.ref q.1)) = H1 at sl el ⊢
    have rl : rs.length ≤ 60 := by
      have := r2.length_eq
      rw [List.length_map] at this
      omega
    refine ⟨l2, rfl, ⟨_, SqL.of el⟩, ?_⟩
    refine comp_list (xs := rs.map fun q => V.ref q.1) (by rw [List.length_map]; exact small63 (by omega)) (fun D i ys H2 => ∃ ms : Ls, ys = vls ms ∧ ms.length = i ∧ H2 D = some (.lst ys) ∧ Same H1 H2 ∧ GoodL h H2 ms ∧ NumL ms ∧ dsL ms = (rs.take i).map fun r => (r.2, nvK kvs r.2)) (fun D hD => ⟨[], rfl, rfl, upd_same, same_new hD _, (fun _ m => nomatch m), (fun _ m => nomatch m), rfl⟩) (fun D i ys H2 ⟨ms, f1, f2, f3, _⟩ => ⟨f3, by rw [f1, vls_len]; omega⟩) (fun D i ys H2 hD ⟨ms, _, _, _, f4, _⟩ => SqL.of (f4 _ _ el)) ?_ ?_
    · rintro D i x ys H2 K1 K2 hD hx ⟨ms, rfl, f2, f3, f4, f5, f6, f7⟩ kk1 kk2
      rw [List.getElem?_map] at hx
      obtain ⟨r, er, rfl⟩ := Option.map_eq_some_iff.mp hx
      have rm := List.mem_of_getElem? er
      have sH := sl.trans f4
      have ek := sH _ _ (r1 r rm)
      obtain ⟨fr, n, ev⟩ := k3 r.2 (r2.mem_iff.mp (List.mem_map.mpr ⟨r, rm, rfl⟩))
      refine yes (ifT rfl ?_)
      have dg := DGet.t (k := (r.2.map Sum.inl : List Key)) (sH _ _ e1) (by rw [kv_map]; exact ek)
      rw [ev] at dg
      refine ⟨_, rfl, _, rfl, _, rfl, d, .int n, rfl, dg, (by show 2 ≤ sizeLine; decide), fun t ht => ?_⟩
      have s6 := same_new ht (.tup [V.ref r.1, V.int n])
      have lv := lw.val ev
      refine kk1 _ _ (s6 _ _ f3) ⟨ms ++ [(t, r.1, r.2, n)], by unfold vls; rw [List.map_append]; rfl, by rw [List.length_append, f2]; rfl, upd_same, same_upd (f4.trans s6) hD, fun q m => ?_, fun q m => ?_, ?_⟩
      · have keep : ∀ b u, (upd H2 t (.tup [V.ref r.1, V.int n])) b = some (.tup u) → (upd (upd H2 t (.tup [V.ref r.1, V.int n])) D (.lst (vls ms ++ [V.ref t]))) b = some (.tup u) := fun b u e => by
          rw [upd_ne (ne_of e (s6 _ _ f3) (fun z => nomatch z))]
          exact e
        rcases List.mem_append.mp m with m | m
        · obtain ⟨a1, a2, a3⟩ := f5 q m
          exact ⟨keep _ _ (s6 _ _ a1), keep _ _ (s6 _ _ a2), a3⟩
        · rw [List.mem_singleton.mp m]
          exact ⟨keep _ _ upd_same, keep _ _ (s6 _ _ ek), fr⟩
      · rcases List.mem_append.mp m with m | m
        · exact f6 q m
        · rw [List.mem_singleton.mp m]
          exact ⟨lv.1, by show n ≤ _; omega⟩
      · rw [show rs.take (i + 1) = rs.take i ++ [r] from by rw [List.take_add_one, er]; rfl, List.map_append, ← f7]
        unfold dsL
        rw [List.map_append]
        show _ ++ [(r.2, n)] = _ ++ [(r.2, nvK kvs r.2)]
        rw [show nvK kvs r.2 = n from by unfold nvK; rw [ev]]
    rintro D ys H2 hD ⟨ms, rfl, f2, f3, f4, f5, f6, f7⟩
    rw [List.length_map, List.take_of_length_le (Nat.le_refl _)] at f7
    rw [List.length_map] at f2
    refine q D ms H2 ((s1.trans sl).trans f4) f3 f5 (by omega) f6 fun f => ?_
    rw [f7, ← sm, ← sorted_sum nd k1 r2 f, List.map_map]
    rfl
theorem ok_law_solid (T : Tx K mg base ad) : FnOk P w K mg base CX0 2 ad.f_law_solid ad.d_law_solid ["_law_inner", "_law_hands", "_law_number"] spSolid := by
  refine T.F_law_solid.ok sc_law_solid (fun vs H Q E h => ?_) (fun cdv A outer s H vs Q E hr h => ?_)
  · obtain ⟨p, h, I, z, rfl, _⟩ := h
    rfl
  obtain ⟨p, h, I, z, rfl, hp, h1, h12, z0, z1, q⟩ := h
  refine ⟨_, (@pss_cons _ _ _ _ _ (@ps_set _ _ (3) _ _ _ _ sc_law_solid.nd rfl (Or.inl rfl) (@pe_call _ _ _ _ _ _ _ _ _ _ _ _ _ _ _ _ (ok_law_order T) (hr.mono (by decide)) rfl T.m_law_order T.F_law_order.kp T.b_law_order .nil pass0 (@pa_cons _ _ _ _ _ (@pe_op _ _ _ _ _ _ _ _ op_fdivB (pv 2) pe_int) (@pa_cons _ _ _ _ _ (pv 1) pa_nil (by rfl)) (by rfl)) (by decide) (by rfl) (by rfl)) (by rfl) (by first | exact .inl rfl | exact .inr rfl | assumption)) (@pss_cons _ _ _ _ _ (@ps_set _ _ (4) _ _ _ _ sc_law_solid.nd rfl (Or.inl rfl) (@pe_op _ _ _ _ _ _ _ _ op_add pe_int (@pe_op _ _ _ _ _ _ _ _ op_modN (pv 2) pe_int)) (by rfl) (by first | exact .inl rfl | exact .inr rfl | assumption)) (@pss_cons _ _ _ _ _ (@ps_set _ _ (5) _ _ _ _ sc_law_solid.nd rfl (Or.inl rfl) (@pe_lst _ _ _ _ pa_nil) (by rfl) (by first | exact .inl rfl | exact .inr rfl | assumption)) (@pss_cons _ _ _ _ _ (ps_for PassesOwn.never rfl (pi_range1 rfl T.z_range (@pa_cons _ _ _ _ _ (pv 1) pa_nil (by rfl))) (pg_name (i := 6) sc_law_solid.nd rfl (Or.inl rfl)) (@pss_cons _ _ _ _ _ (@ps_set _ _ (7) _ _ _ _ sc_law_solid.nd rfl (Or.inl rfl) (@pe_op _ _ _ _ _ _ _ _ op_add pe_int (@pe_op _ _ _ _ _ _ _ _ op_fdivB (@pe_ix _ _ _ _ _ _ _ ix_list (pv 3) (pv 6) (fun _ _ => rfl)) (pv 4))) (by rfl) (by first | exact .inl rfl | exact .inr rfl | assumption)) (@pss_cons _ _ _ _ _ (@ps_ifJ _ _ _ _ _ _ _ _ (@pt_cmpR _ _ _ _ _ _ _ _ op_notIn_seq (pv 6) (pv 0) (by with_unfolding_all rfl)) (@pss_one _ _ _ (@ps_set _ _ (7) _ _ _ _ sc_law_solid.nd rfl (Or.inl rfl) (@pe_ix _ _ _ _ _ _ _ ix_list (@pe_lst _ _ _ _ (@pa_cons _ _ _ _ _ (@pe_op _ _ _ _ _ _ _ _ op_add (pv 7) (pv 1)) (@pa_cons _ _ _ _ _ pe_int pa_nil (by rfl)) (by rfl))) (@pe_op _ _ _ _ _ _ _ _ op_modN (@pe_op _ _ _ _ _ _ _ _ op_fdivB (pv 2) pe_int) pe_int) (fun _ _ => rfl)) (by rfl) (by first | exact .inl rfl | exact .inr rfl | assumption))) pss_nil) (@pss_one _ _ _ (@ps_expr _ _ _ _ (pe_bm PySem.F.plainAttrs_list PySem.F.slot_list_append PySem.F.type_list_append mt_append (pv 5) (@pa_cons _ _ _ _ _ (pv 7) pa_nil (by rfl))) (by rfl)))))) (@pss_one _ _ _ (@ps_ret _ _ _ _ (pv 5))))))), ?_⟩
  have d64 := div_in z0 (show (1 : Int) ≤ 64 by decide) z1
  have szz := sz18 z0 z1
  and_intros
  refine ⟨z.fdiv 64, (h : Int), rfl, d64.1, Int.lt_trans d64.2 (by decide), by omega, by omega, fun lo os H1 s1 e1 po => ?_⟩
  rw [Int.toNat_natCast] at po
  have m3 := fmod_in z (show (0 : Int) < 3 by decide)
  have m2 := fmod_in (z.fdiv 4) (show (0 : Int) < 2 by decide)
  have ol : os.length = h := by rw [po.length_eq]; unfold ups; rw [List.length_map, List.length_range]
  and_intros
  dsimp only
  generalize z.fmod 3 = wd at m3 ⊢
  refine ⟨(by show 0 ≤ sizeLine; decide), fun l hl => ?_⟩
  have hlH := none_of s1 hl
  have s2 := s1.trans (same_new hl (.lst []))
  have e2 : (upd H1 l (.lst [])) l = some (.lst (([] : List Int).map V.int)) := upd_same
  have e1' := (same_new hl (.lst [])) _ _ e1
  generalize upd H1 l (.lst []) = H2 at s2 e2 e1' ⊢
  have lol : lo ≠ l := fun e => by rw [e, hl] at e1; cases e1
  and_intros
  refine ⟨by omega, by omega, for_range (fun i σ' H' => ∃ (v6 v7 : Option V) (rs : List Int), σ' = [some (.ref p), some (.int (h : Int)), some (.int z), some (.ref lo), some (.int (1 + wd)), some (.ref l), v6, v7] ∧ Same H H' ∧ H' lo = some (.lst (os.map V.int)) ∧ H' l = some (.lst (rs.map V.int)) ∧ rs.length = i ∧ ∀ k r, rs[k]? = some r → RankI h (I k) r) ⟨none, none, [], rfl, s2, e1', e2, rfl, fun k r e => by cases e⟩ ?_ ?_⟩
  · rintro i σ' H3 hi ⟨v6, v7, rs, rfl, s3, e3, e4, ln, hk⟩
    have hi' : i < h := by omega
    have ex : (0 : Int) + (i : Int) = (i : Int) := Int.zero_add _
    obtain ⟨o, ho⟩ : ∃ o, os[i]? = some o := ⟨_, List.getElem?_eq_getElem (by omega)⟩
    obtain ⟨j, hj, rfl⟩ := ups_in (po.mem_iff.mp (List.mem_of_getElem? ho))
    have szj : Sz 64 (j : Int) := sz_of (by omega) (by omega)
    have szw : Sz 64 (1 + wd) := sz_of (by omega) (by omega)
    refine ⟨_, rfl, _, rfl, lo, _, _, _, rfl, rfl, SqL.of e3, (by rw [ex]; exact atN ho), ?_⟩
    refine ⟨_, rfl, _, _, rfl, rfl, ⟨(by show 1 + wd ≠ 0; omega), szw.mono (by decide)⟩, _, _, rfl, rfl, ?_⟩
    have rk : 1 ≤ 1 + (j : Int).fdiv (1 + wd) ∧ 1 + (j : Int).fdiv (1 + wd) ≤ h := by
      rw [Int.fdiv_eq_ediv_of_nonneg _ (by omega)]
      have a := Int.ediv_nonneg (show 0 ≤ (j : Int) by omega) (show 0 ≤ 1 + wd by omega)
      have b := Int.ediv_le_self (1 + wd) (show 0 ≤ (j : Int) by omega)
      omega
    dsimp only
    generalize 1 + (j : Int).fdiv (1 + wd) = r0 at rk ⊢
    have mem : (0 + (i : Int)) ∈ hands h I ↔ I i = true := by
      rw [ex, hands_mem]
      exact ⟨fun ⟨k, _, k2, k3⟩ => by rw [show i = k by omega]; exact k2, fun k => ⟨i, hi', k, rfl⟩⟩
    refine ⟨fun σ' H4 => ∃ r : Int, σ' = [some (.ref p), some (.int (h : Int)), some (.int z), some (.ref lo), some (.int (1 + wd)), some (.ref l), some (.int (0 + (i : Int))), some (.int r)] ∧ Same H3 H4 ∧ RankI h (I i) r, ?_, ?_⟩
    · have hp3 := s3 _ _ hp
      and_intros
      refine ⟨all_flat _, ?_⟩
      by_cases c : (0 + (i : Int)) ∈ hands h I
      · rw [nin_no c]
        refine ⟨_, rfl, ?_⟩
        refine ifF rfl ?_
        exact ⟨r0, rfl, fun _ _ e => e, by unfold RankI; rw [if_pos (mem.mp c)]; exact rk⟩
      · rw [nin_yes c]
        refine ⟨_, rfl, ?_⟩
        refine ifT rfl ?_
        have ni : I i = false := Bool.eq_false_iff.mpr fun k => c (mem.mpr k)
        and_intros
        refine ⟨(by show 2 ≤ sizeLine; decide), fun b hb => ?_⟩
        dsimp only
        have s5 := same_new hb (.lst [V.int (r0 + (h : Int)), V.int 0])
        have e5 : (upd H3 b (.lst [V.int (r0 + (h : Int)), V.int 0])) b = some (.lst [V.int (r0 + (h : Int)), V.int 0]) := upd_same
        generalize upd H3 b (.lst [V.int (r0 + (h : Int)), V.int 0]) = H4 at s5 e5 ⊢
        and_intros
        rcases (by omega : (z.fdiv 4).fmod 2 = 0 ∨ (z.fdiv 4).fmod 2 = 1) with e | e
        · refine ⟨b, _, _, _, rfl, rfl, SqL.of e5, (by rw [e]; rfl), ?_⟩
          exact ⟨_, rfl, s5, by unfold RankI; rw [ni, if_neg (by decide)]; omega⟩
        · refine ⟨b, _, _, _, rfl, rfl, SqL.of e5, (by rw [e]; rfl), ?_⟩
          exact ⟨_, rfl, s5, by unfold RankI; rw [ni, if_neg (by decide)]; exact .inl rfl⟩
    rintro σ' H4 ⟨r, rfl, s4, rr⟩
    have e6 := s4 _ _ e4
    refine ⟨_, rfl, .inl ⟨rfl, _, SqL.of e6⟩, _, rfl, l, _, _, rfl, rfl, e6, (by rw [List.length_map]; exact small1000 (by omega)), ?_⟩
    refine ⟨_, _, rs ++ [r], rfl, same_upd (s3.trans s4) hlH, by rw [upd_ne lol]; exact s4 _ _ e3, by rw [upd_same, List.map_append]; rfl, by rw [List.length_append, ln]; rfl, fun k y e => ?_⟩
    by_cases kk : k < rs.length
    · rw [List.getElem?_append_left kk] at e
      exact hk k y e
    · rw [List.getElem?_append_right (by omega)] at e
      have k0 : k = i := by
        have := (List.getElem?_eq_some_iff.mp e).1
        rw [List.length_singleton] at this
        omega
      rw [k0, ln, Nat.sub_self] at e
      rw [k0, ← Option.some.inj e]
      exact rr
  · rintro σ' H3 ⟨v6, v7, rs, rfl, s3, e3, e4, ln, hk⟩
    rw [Int.toNat_natCast] at ln
    refine ⟨_, rfl, q l rs H3 hlH s3 e4 ln (fun r m => ?_) (solid_of h12 ln hk)⟩
    obtain ⟨k, hkk⟩ := List.getElem?_of_mem m
    exact (hk k r hkk).in h12
theorem ok_Pairs_picks_by (T : Tx K mg base ad) : FnOk P w K mg base CX0 2 ad.f_Pairs_picks_by ad.d_Pairs_picks_by ["self", "strengths"] (spPicksBy ad.c_Pairs) := by
  refine T.F_Pairs_picks_by.ok sc_Pairs_picks_by (fun vs H Q E h => ?_) (fun cdv A outer s H vs Q E hr h => ?_)
  · obtain ⟨a, r, rs, h, s, ns, L, F, rfl, _⟩ := h
    rfl
  obtain ⟨a, r, rs, h, s, ns, L, F, rfl, md, hr0, tb, st, q⟩ := h
  refine ⟨_, (@pss_cons _ _ _ _ _ (@ps_set _ _ (2) _ _ _ _ sc_Pairs_picks_by.nd rfl (Or.inl rfl) (@pe_lst _ _ _ _ pa_nil) (by rfl) (by first | exact .inl rfl | exact .inr rfl | assumption)) (@pss_cons _ _ _ _ _ (@ps_set _ _ (3) _ _ _ _ sc_Pairs_picks_by.nd rfl (Or.inr rfl) (@pe_callTy _ _ _ _ _ _ _ _ _ call_list_of (by rfl) T.z_list PyProof.Rows.boot_list (@pa_cons _ _ _ _ _ (pe_fld (pv 0) rfl) pa_nil (by rfl)) (by decide) (by decide) (by rfl) (by rfl)) (by rfl) (by first | exact .inl rfl | exact .inr rfl | assumption)) (@pss_cons _ _ _ _ _ (ps_while PassesOwn.never (PW.pt (@pw_and _ _ _ _ _ _ _ (@pt_cmpR _ _ _ _ _ _ _ _ (op_neD (K := K) hr.units) (pv 3) (@pe_lst _ _ _ _ pa_nil) (nomark _)) (@pw_and1 _ _ _ _ (@pt_cmpR _ _ _ _ _ _ _ _ op_lt (@pe_callB _ _ _ _ _ _ _ _ _ call_len_seq (by rfl) T.z_len PySem.boot_len (@pa_cons _ _ _ _ _ (pv 2) pa_nil (by rfl)) (by decide) (by decide) (by rfl) (by rfl)) (pe_fld (pv 0) rfl) (nomark _))))) (@pss_cons _ _ _ _ _ (@ps_set _ _ (4) _ _ _ _ sc_Pairs_picks_by.nd rfl (Or.inl rfl) (@pe_ix _ _ _ _ _ _ _ ix_list (pe_comp (fsc := defScope s_Pairs_picks_by) (N := ["self", "strengths", "picks", "left", "first"]) (Nc := ["self", "strengths", "picks", "left", "first", "hand"]) rfl rfl ⟨rfl, by decide +kernel, by decide +kernel, rfl, by decide +kernel, rfl, by decide +kernel, rfl, by decide +kernel⟩ rfl (pi_list (pv 3)) (fun _ _ _ _ => (pif_one (@pt_not _ _ _ _ (@pt_val _ _ _ (@pe_call _ _ _ _ _ _ _ _ _ _ _ _ _ _ _ _ (ok_is_beaten T) (hr.mono (by decide)) rfl T.m_is_beaten T.F_is_beaten.kp T.b_is_beaten .nil pass0 (@pa_cons _ _ _ _ _ (pv 1) (@pa_cons _ _ _ _ _ (pv 5) (@pa_cons _ _ _ _ _ (pv 3) pa_nil (by rfl)) (by rfl)) (by rfl)) (by decide) (by rfl) (by rfl)) (by intro _; rfl))))) (fun _ _ _ _ => (pv 5))) pe_int (fun _ _ => rfl)) (by rfl) (by first | exact .inl rfl | exact .inr rfl | assumption)) (@pss_cons _ _ _ _ _ (@ps_expr _ _ _ _ (pe_bm PySem.F.plainAttrs_list PySem.F.slot_list_append PySem.F.type_list_append mt_append (pv 2) (@pa_cons _ _ _ _ _ (pv 4) pa_nil (by rfl))) (by rfl)) (@pss_one _ _ _ (@ps_expr _ _ _ _ (pe_bm PySem.F.plainAttrs_list PySem.F.slot_list_remove PySem.F.type_list_remove mt_remove (pv 3) (@pa_cons _ _ _ _ _ (pv 4) pa_nil (by rfl))) (by rfl)))))) (@pss_one _ _ _ (@ps_ret _ _ _ _ (pv 2)))))), ?_⟩
  obtain ⟨dx, la, k1, k2⟩ := id md.is
  have h12 := md.h12
  have s60 := md.s60
  have nl : ns.length = h := by rw [md.pm.length_eq, ups_len]
  refine ⟨(by show 0 ≤ sizeLine; decide), fun p hp => ?_⟩
  have s1 := same_new hp (.lst [])
  have e1 : (upd H p (.lst [])) p = some (.lst (([] : List Int).map V.int)) := upd_same
  generalize upd H p (.lst []) = H1 at s1 e1 ⊢
  refine ⟨_, rfl, a, _, dx, _, _, rfl, s1 _ _ k1, T.cl_Pairs, T.na_Pairs_lots, rfl, ?_⟩
  refine ⟨la, _, rfl, .inl (SqL.of (s1 _ _ k2)), fun l hl => ?_⟩
  have lp : l ≠ p := fun z => by rw [z, e1] at hl; cases hl
  have hlH := none_of s1 hl
  have s2 := s1.trans (same_new hl (.lst (ns.map V.int)))
  have p2 := same_new hl (.lst (ns.map V.int)) _ _ e1
  have l2 : (upd H1 l (.lst (ns.map V.int))) l = some (.lst (ns.map V.int)) := upd_same
  generalize upd H1 l (.lst (ns.map V.int)) = H2 at s2 p2 l2 ⊢
  refine ⟨fun m σ' H' => ∃ (v4 : Option V) (left got : List Int), σ' = [some (.ref a), some (.ref r), some (.ref p), some (.ref l), v4] ∧ Same H H' ∧ H' p = some (.lst (got.map V.int)) ∧ H' l = some (.lst (left.map V.int)) ∧ (∀ z ∈ left, ∃ i : Nat, i < h ∧ z = (i : Int)) ∧ got.length ≤ s ∧ got ++ picksGo F (s - got.length) left = picksGo F s ns ∧ left.length = m ∧ m ≤ 12, ⟨_, none, ns, [], rfl, s2, p2, l2, (fun z mz => ups_in (md.pm.mem_iff.mp mz)), Nat.zero_le _, rfl, rfl, by omega⟩, ?_⟩
  rintro m σ' H' ⟨v4, left, got, rfl, s3, p3, l3, sub, gs, pk, lm, m12⟩
  refine ⟨_, rfl, (by show 0 ≤ sizeLine; decide), fun z3 hz3 => ?_⟩
  have sz := same_new hz3 (.lst [])
  have ez : (upd H' z3 (.lst [])) z3 = some (.lst (([] : List Int).map V.int)) := upd_same
  generalize upd H' z3 (.lst []) = H4 at sz ez ⊢
  have p4 := sz _ _ p3
  have l4 := sz _ _ l3
  have s4 := s3.trans sz
  refine ⟨.list (left.map .int), .list (([] : List Int).map .int), .lst (SqL.of l4) (.ints _), .lst (SqL.of ez) (.ints []), (shape_ints _).2, (shape_ints _).2, ?_⟩
  rw [show PyData.eqv (.list (left.map .int)) (.list (([] : List Int).map .int)) = decide (left = []) from eqv_ints _ _]
  refine ⟨_, rfl, ?_⟩
  have fin : picksGo F (s - got.length) left = [] → Q (.ref p) H4 := fun e => by
    rw [e, List.append_nil] at pk
    exact q p H4 hp s4 (by rw [← pk]; exact p4)
  by_cases cl : left = []
  · rw [decide_eq_true cl]
    refine ifF rfl ?_
    and_intros
    exact fin (by rw [cl]; exact picksGo_nil F _)
  · rw [decide_eq_false cl]
    refine ifT rfl ?_
    and_intros
    refine ⟨a, _, dx, _, _, rfl, s4 _ _ k1, T.cl_Pairs, T.na_Pairs_seats, rfl, ?_⟩
    and_intros
    by_cases cs : got.length < s
    · refine ifT (decide_eq_true (by rw [List.length_map]; omega)) ?_
      have pl : 0 < left.length := List.length_pos_iff.mpr cl
      refine ⟨fun σ' H' => ∃ (v4 : Option V) (left got : List Int), σ' = [some (.ref a), some (.ref r), some (.ref p), some (.ref l), v4] ∧ Same H H' ∧ H' p = some (.lst (got.map V.int)) ∧ H' l = some (.lst (left.map V.int)) ∧ (∀ z ∈ left, ∃ i : Nat, i < h ∧ z = (i : Int)) ∧ got.length ≤ s ∧ got ++ picksGo F (s - got.length) left = picksGo F s ns ∧ left.length = m - 1 ∧ m - 1 ≤ 12, fun σ' H' e => ⟨m - 1, by omega, e⟩, ?_⟩
      and_intros
      refine ⟨⟨_, SqL.of l4⟩, ?_⟩
      refine comp_list (xs := left.map V.int) (by rw [List.length_map]; exact small63 (by omega)) (fun D i ys J => ys = ((left.take i).filter fun z => !beaten F z left).map V.int ∧ J D = some (.lst ys) ∧ Same H4 J) (fun D hD => ⟨rfl, upd_same, same_new hD _⟩) (fun D i ys J ⟨f1, f2, _⟩ => ⟨f2, by rw [f1, List.length_map]; exact Nat.le_trans (List.length_filter_le _ _) (List.length_take_le _ _)⟩) (fun D i ys J hD ⟨_, _, f3⟩ => SqL.of (f3 _ _ l4)) ?_ ?_
      · rintro D i w ys J K1 K2 hD hw ⟨f1, f2, f3⟩ kk1 kk2
        obtain ⟨z, hz, rfl⟩ := int_at hw
        obtain ⟨j, hj, rfl⟩ := sub z (List.mem_of_getElem? hz)
        have et : left.take (i + 1) = left.take i ++ [(j : Int)] := by rw [List.take_add_one, hz]; rfl
        have s5 := s4.trans f3
        refine ⟨_, rfl, _, rfl, _, rfl, r, l, rs, h, j, F, left, rfl, s5 _ _ hr0, tb.same s5, hj, f3 _ _ l4, sub, by omega, fun H6 s6 => ?_⟩
        refine ⟨_, rfl, ?_⟩
        cases eb : beaten F (j : Int) left with
        | true =>
          refine ifF rfl ?_
          refine kk2 _ ⟨?_, s6 _ _ f2, f3.trans s6⟩
          rw [et, List.filter_append, f1]
          simp [eb]
        | false =>
          refine ifT rfl ?_
          refine ⟨_, rfl, ?_⟩
          refine kk1 _ _ (s6 _ _ f2) ⟨?_, upd_same, same_upd (f3.trans s6) hD⟩
          rw [et, List.filter_append, List.map_append, f1]
          simp [eb]
      rintro D ys H5 hD ⟨f1, f2, f3⟩
      rw [List.length_map, List.take_of_length_le (Nat.le_refl _)] at f1
      subst f1
      have ue : unb F left ≠ [] := unb_ne st cl sub
      obtain ⟨u, ur, eu⟩ : ∃ u ur, unb F left = u :: ur := by
        cases e : unb F left with
        | nil => exact absurd e ue
        | cons u ur => exact ⟨u, ur, rfl⟩
      have um : u ∈ left := by
        have : u ∈ unb F left := by rw [eu]; exact List.mem_cons_self ..
        exact (List.mem_filter.mp this).1
      have f2' : H5 D = some (.lst ((u :: ur).map V.int)) := by rw [← eu]; exact f2
      have sg := picksGo_step F (s := s - got.length - 1) cl
      rw [show s - got.length - 1 + 1 = s - got.length by omega, eu] at sg
      have p5 := f3 _ _ p4
      have l5 := f3 _ _ l4
      have s5 := s4.trans f3
      and_intros
      refine ⟨D, _, _, _, rfl, rfl, SqL.of f2', (show atI _ ((0 : Nat) : Int) = _ from atN rfl), ?_⟩
      and_intros
      refine ⟨.inl ⟨rfl, _, SqL.of p5⟩, ?_⟩
      and_intros
      refine ⟨p, _, _, rfl, rfl, p5, (by rw [List.length_map]; exact small1000 (by omega)), ?_⟩
      have l6 : (upd H5 p (.lst (got.map V.int ++ [V.int u]))) l = some (.lst (left.map V.int)) := by rw [upd_ne lp]; exact l5
      have p6 : (upd H5 p (.lst (got.map V.int ++ [V.int u]))) p = some (.lst ((got ++ [u]).map V.int)) := by rw [upd_same, List.map_append]; rfl
      have s6 := same_upd (o := .lst (got.map V.int ++ [V.int u])) s5 hp
      generalize upd H5 p (.lst (got.map V.int ++ [V.int u])) = H6 at l6 p6 s6 ⊢
      and_intros
      refine ⟨.inl ⟨rfl, _, SqL.of l6⟩, ?_⟩
      and_intros
      refine ⟨l, left, u, rfl, rfl, l6, um, ?_⟩
      rw [← erase_idx]
      refine ⟨_, left.erase u, got ++ [u], rfl, same_upd s6 hlH, by rw [upd_ne (Ne.symm lp)]; exact p6, upd_same, fun z mz => sub z (List.mem_of_mem_erase mz), by rw [List.length_append]; show got.length + 1 ≤ s; omega, ?_, by rw [List.length_erase_of_mem um]; omega, by omega⟩
      rw [List.length_append, show s - (got.length + [u].length) = s - got.length - 1 from (by show s - (got.length + 1) = _; omega), List.append_assoc]
      show got ++ (u :: picksGo F (s - got.length - 1) (left.erase u)) = _
      rw [← pk, sg]
      rfl
    · refine ifF (decide_eq_false (by rw [List.length_map]; omega)) ?_
      and_intros
      exact fin (by rw [show s - got.length = 0 by omega]; exact picksGo_zero F _)
theorem ok_strength (T : Tx K mg base ad) : FnOk P w K mg base CX0 3 ad.f_strength ad.d_strength ["leads"] (spStrength ad.lP) := by
  refine T.F_strength.ok sc_strength (fun vs H Q E h => ?_) (fun cdv A outer s H vs Q E hr h => ?_)
  · obtain ⟨a, as, h, L, rfl, _⟩ := h
    rfl
  obtain ⟨a, as, h, L, rfl, ha, tb, h1, h12, lt, q⟩ := h
  refine ⟨_, (@pss_one _ _ _ (@ps_ret _ _ _ _ (pe_comp (fsc := defScope s_strength) (N := ["leads"]) (Nc := ["leads", "x"]) rfl rfl ⟨rfl, by decide +kernel, by decide +kernel, rfl, by decide +kernel, rfl, by decide +kernel, rfl, by decide +kernel⟩ rfl (pi_list (@pe_call _ _ _ _ _ _ _ _ _ _ _ _ _ _ _ _ (ok_hands_of T) (hr.mono (by decide)) rfl T.m_hands_of T.F_hands_of.kp T.b_hands_of .nil pass0 (@pa_cons _ _ _ _ _ (pv 0) pa_nil (by rfl)) (by decide) (by rfl) (by rfl))) (fun _ _ _ _ => pif_nil) (fun _ _ _ _ => (@pe_ix _ _ _ _ _ _ _ (ix_tupK K) (@pe_call _ _ _ _ _ _ _ _ _ _ _ _ _ _ _ _ (ok_reached_from T) (hr.mono (by decide)) rfl T.m_reached_from T.F_reached_from.kp T.b_reached_from .nil pass0 (@pa_cons _ _ _ _ _ (pv 0) (@pa_cons _ _ _ _ _ (pv 1) pa_nil (by rfl)) (by rfl)) (by decide) (by rfl) (by rfl)) pe_int (fun _ _ => rfl)))))), ?_⟩
  and_intros
  refine ⟨a, tbOf as h L, h, rfl, (by rw [tb.vtb]; exact ha), tb.good.1, h12, fun l0 H1 hl0 s1 e1 => ?_⟩
  have lt1 := lt.same s1
  and_intros
  refine ⟨⟨_, SqL.of e1⟩, ?_⟩
  refine comp_list (xs := (ups h).map V.int) (by rw [List.length_map, ups_len]; exact small63 (by omega)) (fun D i ys J => ∃ us : Us, ys = us.map (fun r => V.ref r.1) ∧ us.length = i ∧ (us.map (·.1)).Nodup ∧ J D = some (.lst ys) ∧ Sm H1 J ∧ (LamQ ad.lP h H1 → Same H1 J) ∧ LT ad.lP J ∧ (0 < i → LamQ ad.lP h J) ∧ D ∉ us.map (·.1) ∧ ∀ k r, us[k]? = some r → H1 r.1 = none ∧ J r.1 = some (.lst (r.2.map V.int)) ∧ ∃ bf, Reach h k L r.2 bf)
    (fun D hD => ⟨[], rfl, rfl, List.nodup_nil, upd_same, Sm.of (same_new hD _), (fun _ => same_new hD _), lt1.same (same_new hD _), (fun z => absurd z (Nat.lt_irrefl 0)), (fun m => nomatch m), fun k r e => by cases e⟩) (fun D i ys J ⟨us, f1, f2, _, f3, _⟩ => ⟨f3, by rw [f1, List.length_map, f2]; exact Nat.le_refl _⟩) (fun D i ys J hD ⟨_, _, _, _, _, f5, _⟩ => SqL.of (f5.lst e1)) ?_ ?_
  · rintro D i w ys J K1 K2 hD hw ⟨us, rfl, f2, f3, f4, f5, f6, f7, f8, f9, f10⟩ k1 k2
    obtain ⟨z, hz, rfl⟩ := int_at hw
    obtain ⟨rfl, hi⟩ := ups_at hz
    refine yes (ifT rfl ?_)
    and_intros
    refine ⟨a, as, h, i, L, rfl, f5.lst (s1 _ _ ha), (tb.same s1).sm f5, hi, h12, f7, fun t b f be bf H' sm sq lq ht hb hf bfn et eb ef re => ?_⟩
    refine ⟨t, _, _, _, rfl, rfl, SqT.of et, rfl, ?_⟩
    have eD : H' D = some (.lst (us.map fun r => V.ref r.1)) := sm.lst f4
    have bD : b ≠ D := fun z => by rw [z, f4] at hb; cases hb
    have nb : b ∉ us.map (·.1) := fun m => by
      obtain ⟨r, mr, e⟩ := List.mem_map.mp m
      obtain ⟨k, hk⟩ := List.getElem?_of_mem mr
      have := (f10 k r hk).2.1
      rw [e, hb] at this
      cases this
    refine k1 _ _ eD ⟨us ++ [(b, be)], by rw [List.map_append]; rfl, by rw [List.length_append, f2]; rfl, ?_, upd_same, (f5.trans sm).put hD, (fun z => same_upd ((f6 z).trans (sq (z.same (f6 z)))) hD), LamT.put lq.1 eD, (fun _ => ⟨LamT.put lq.1 eD, lq.2.imp id fun z => Lam1.put z eD⟩), fun m => ?_, fun k r e => ?_⟩
    · rw [List.map_append]
      exact List.nodup_append.mpr ⟨f3, by simp, fun x mx y my e => nb (by rw [← show y = b from List.mem_singleton.mp my, ← e]; exact mx)⟩
    · rw [List.map_append] at m
      rcases List.mem_append.mp m with m | m
      · exact f9 m
      · exact bD (List.mem_singleton.mp m).symm
    · by_cases c : k < us.length
      · rw [List.getElem?_append_left c] at e
        obtain ⟨n1, n2, n3⟩ := f10 k r e
        exact ⟨n1, by rw [upd_ne (fun z => f9 (by rw [← z]; exact List.mem_map_of_mem (List.mem_of_getElem? e)))]; exact sm.lst n2, n3⟩
      · rw [List.getElem?_append_right (by omega)] at e
        have ek : k = i := by
          have := (List.getElem?_eq_some_iff.mp e).1
          rw [List.length_singleton] at this
          omega
        rw [ek, f2, Nat.sub_self] at e
        cases Option.some.inj e
        exact ⟨f5.gone b hb, by rw [upd_ne bD]; exact eb, bf, by rw [ek]; exact re⟩
  rintro D ys H2 hD ⟨us, rfl, f2, f3, f4, f5, f6, f7, f8, f9, f10⟩
  rw [List.length_map, ups_len] at f2 f8
  refine q D (us.map (·.1)) (fU us) H2 ((Sm.of s1).trans f5) (fun z => s1.trans (f6 (z.same s1))) (f8 h1) (none_of s1 hD) f9 (fun c m => ?_) (by rw [f4, List.map_map]; rfl) ⟨by rw [List.length_map, f2], f3, fun x c hc => ?_⟩ fun x hx => ?_
  · obtain ⟨r, mr, e⟩ := List.mem_map.mp m
    obtain ⟨k, hk⟩ := List.getElem?_of_mem mr
    rw [← e]
    exact none_of s1 (f10 k r hk).1
  · rw [List.getElem?_map] at hc
    obtain ⟨r, hr0, rfl⟩ := Option.map_eq_some_iff.mp hc
    obtain ⟨_, n2, bf, re⟩ := f10 x r hr0
    rw [fU_row hr0 re.lenb]
    exact n2
  · obtain ⟨r, hr0⟩ : ∃ r, us[x]? = some r := ⟨_, List.getElem?_eq_getElem (by omega)⟩
    obtain ⟨_, _, bf, re⟩ := f10 x r hr0
    exact ⟨bf, by rw [fU_row hr0 re.lenb]; exact re⟩
theorem ok_shown_from (T : Tx K mg base ad) : FnOk P w K mg base CX0 3 ad.f_shown_from ad.d_shown_from ["reached", "x"] spShownFrom := by
  refine T.F_shown_from.ok sc_shown_from (fun vs H Q E h => ?_) (fun cdv A outer s H vs Q E hr h => ?_)
  · obtain ⟨t, h, x, L, be, rfl, _⟩ := h
    rfl
  obtain ⟨t, h, x, L, be, rfl, td, hx, h12, q⟩ := h
  refine ⟨_, (@pss_cons _ _ _ _ _ (ps_setC (j := 2) (fsc := defScope s_shown_from) (N := ["reached", "x", "others"]) (Nc := ["reached", "x", "others", "y"]) rfl rfl ⟨rfl, by decide +kernel, by decide +kernel, rfl, by decide +kernel, rfl, by decide +kernel, rfl, by decide +kernel⟩ rfl sc_shown_from.nd rfl rfl (pi_range1 rfl T.z_range (@pa_cons _ _ _ _ _ (@pe_callB _ _ _ _ _ _ _ _ _ call_len_seq (by rfl) T.z_len PySem.boot_len (@pa_cons _ _ _ _ _ (@pe_ix _ _ _ _ _ _ _ ix_tup (pv 0) pe_int (fun _ _ => rfl)) pa_nil (by rfl)) (by decide) (by decide) (by rfl) (by rfl)) pa_nil (by rfl))) (fun _ _ _ _ => (pif_one (@pt_cmpR _ _ _ _ _ _ _ _ op_ne (pv 3) (pv 1) (nomark _)))) (fun _ _ _ _ => (pv 3)) rfl) (@pss_one _ _ _ (@ps_ret _ _ _ _ (pe_comp (fsc := defScope s_shown_from) (N := ["reached", "x", "others"]) (Nc := ["reached", "x", "others", "y"]) rfl rfl ⟨rfl, by decide +kernel, by decide +kernel, rfl, by decide +kernel, rfl, by decide +kernel, rfl, by decide +kernel⟩ rfl (pi_list (pv 2)) (fun _ _ _ _ => pif_nil) (fun _ _ _ _ => (@pe_tup _ _ _ _ _ (@pa_cons _ _ _ _ _ (pv 1) (@pa_cons _ _ _ _ _ (pv 3) (@pa_cons _ _ _ _ _ (@pe_ix _ _ _ _ _ _ _ (ix_listK K) (@pe_ix _ _ _ _ _ _ _ (ix_tupK K) (pv 0) pe_int (fun _ _ => rfl)) (pv 3) (fun _ _ => rfl)) (@pa_cons _ _ _ _ _ (@pe_call _ _ _ _ _ _ _ _ _ _ _ _ _ _ _ _ (ok_way_by T) (hr.mono (by decide)) rfl T.m_way_by T.F_way_by.kp T.b_way_by .nil pass0 (@pa_cons _ _ _ _ _ (pv 0) (@pa_cons _ _ _ _ _ (pv 1) (@pa_cons _ _ _ _ _ (pv 3) pa_nil (by rfl)) (by rfl)) (by rfl)) (by decide) (by rfl) (by rfl)) (@pa_cons _ _ _ _ _ (@pe_call _ _ _ _ _ _ _ _ _ _ _ _ _ _ _ _ (ok_cut_by T) (hr.mono (by decide)) rfl T.m_cut_by T.F_cut_by.kp T.b_cut_by .nil pass0 (@pa_cons _ _ _ _ _ (pv 0) (@pa_cons _ _ _ _ _ (pv 1) (@pa_cons _ _ _ _ _ (pv 3) pa_nil (by rfl)) (by rfl)) (by rfl)) (by decide) (by rfl) (by rfl)) pa_nil (by rfl)) (by rfl)) (by rfl)) (by rfl)) (by rfl)))))))), ?_⟩
  obtain ⟨b, f, bf, et, eb, ef, re⟩ := id td.is
  have bl := re.lenb
  and_intros
  refine ⟨by omega, by rw [List.length_map]; omega, ?_⟩
  rw [List.length_map, bl, Int.toNat_natCast]
  refine comp_range (small63 (by omega)) (fun D i ys J => ys = (butX i x).map V.int ∧ J = upd H D (.lst ys)) (fun D hD => ⟨rfl, rfl⟩) (fun D i ys J ⟨g1, g2⟩ => ⟨by rw [g2]; exact upd_same, by rw [g1, List.length_map]; unfold butX; rw [List.length_map]; exact Nat.le_trans (List.length_filter_le _ _) (by rw [List.length_range]; exact Nat.le_refl _)⟩) ?_ ?_
  · rintro D i ys J K1 K2 hD hi ⟨g1, rfl⟩ k1 k2
    have e0 : (0 : Int) + (i : Int) = (i : Int) := Int.zero_add _
    rw [e0]
    and_intros
    by_cases c : i = x
    · refine ifF (ne_f (by rw [c])) ?_
      exact k2 _ ⟨by rw [g1, butX_succ, if_pos c, List.append_nil], rfl⟩
    · refine ifT (ne_t fun e => c (Int.ofNat.inj e)) ?_
      refine ⟨_, rfl, ?_⟩
      exact k1 _ _ upd_same ⟨by rw [g1, butX_succ, if_neg c, List.map_append]; rfl, by rw [upd_upd]⟩
  rintro l ys H1 hl ⟨rfl, rfl⟩
  have s1 := same_new hl (.lst ((butX h x).map V.int))
  have e1 : (upd H l (.lst ((butX h x).map V.int))) l = some (.lst ((butX h x).map V.int)) := upd_same
  generalize upd H l (.lst ((butX h x).map V.int)) = H1 at s1 e1 ⊢
  rw [butX_N] at e1
  have nl : (butN h x).length ≤ h := Nat.le_trans (List.length_filter_le _ _) (by rw [List.length_range]; exact Nat.le_refl _)
  and_intros
  refine ⟨⟨_, SqL.of e1⟩, ?_⟩
  refine comp_list (xs := (natz (butN h x)).map V.int) (by rw [List.length_map]; unfold natz; rw [List.length_map]; exact small63 (by omega)) (fun D i ys J => ∃ rows : List Rw, ys = vrw rows ∧ rows.length = i ∧ J D = some (.lst ys) ∧ Same H1 J ∧ (∀ q ∈ rows, RwOk h L (fun _ y => be.getD y 0) J q ∧ q.x = x ∧ H1 q.t = none ∧ H1 q.w = none ∧ q.t ≠ D ∧ q.w ≠ D) ∧ rows.map (fun q => (q.x, q.y)) = ((butN h x).take i).map fun y => (x, y)) (fun D hD => ⟨[], rfl, rfl, upd_same, same_new hD _, (fun _ m => nomatch m), rfl⟩) (fun D i ys J ⟨rows, g1, g2, g3, _⟩ => ⟨g3, by rw [g1]; unfold vrw; rw [List.length_map, g2]; exact Nat.le_refl _⟩) (fun D i ys J hD ⟨_, _, _, _, g4, _⟩ => SqL.of (g4 _ _ e1)) ?_ ?_
  · rintro D i w ys J K1 K2 hD hw ⟨rows, rfl, g2, g3, g4, g5, g6⟩ k1 k2
    obtain ⟨z, hz, rfl⟩ := int_at hw
    unfold natz at hz
    rw [List.getElem?_map] at hz
    obtain ⟨y, hy0, rfl⟩ := Option.map_eq_some_iff.mp hz
    obtain ⟨hy, yx⟩ : y < h ∧ y ≠ x := by
      have := List.mem_filter.mp (List.mem_of_getElem? hy0)
      exact ⟨List.mem_range.mp this.1, of_decide_eq_true this.2⟩
    have sJ := s1.trans g4
    have et' := sJ _ _ et
    refine yes (ifT rfl ?_)
    refine ⟨_, rfl, _, rfl, _, rfl, t, _, _, _, rfl, rfl, SqT.of et', rfl, ?_⟩
    refine ⟨_, rfl, b, _, _, _, rfl, rfl, SqL.of (sJ _ _ eb), atG (by omega), ?_⟩
    refine ⟨_, rfl, _, rfl, _, rfl, t, h, x, y, L, be, rfl, td.same sJ, hy, yx, h12, fun wr ws H2 hwr s2 e2 iw => ?_⟩
    refine ⟨_, rfl, _, rfl, _, rfl, t, h, x, y, L, be, rfl, (td.same sJ).same s2, hx, hy, h12, fun H3 s3 => ?_⟩
    refine ⟨(by show 5 ≤ sizeLine; decide), fun t5 ht5 => ?_⟩
    have s4 := same_new ht5 (.tup [V.int (x : Int), V.int (y : Int), V.int (be.getD y 0), V.ref wr, V.int (msum h (cutF x y be))])
    have e5 : (upd H3 t5 (.tup [V.int (x : Int), V.int (y : Int), V.int (be.getD y 0), V.ref wr, V.int (msum h (cutF x y be))])) t5 = some (.tup [V.int (x : Int), V.int (y : Int), V.int (be.getD y 0), V.ref wr, V.int (msum h (cutF x y be))]) := upd_same
    have s24 := (s2.trans s3).trans s4
    have w5 := (s3.trans s4) _ _ e2
    have D5 := s24 _ _ g3
    have wD : wr ≠ D := fun z => by rw [z, g3] at hwr; cases hwr
    have tD : t5 ≠ D := fun z => by rw [z, (s2.trans s3) _ _ g3] at ht5; cases ht5
    have nt := none_of (g4.trans (s2.trans s3)) ht5
    generalize upd H3 t5 (.tup [V.int (x : Int), V.int (y : Int), V.int (be.getD y 0), V.ref wr, V.int (msum h (cutF x y be))]) = H5 at s24 e5 w5 D5 ⊢
    refine k1 _ _ D5 ⟨rows ++ [⟨t5, x, y, be.getD y 0, wr, ws, msum h (cutF x y be)⟩], by unfold vrw; rw [List.map_append]; rfl, by rw [List.length_append, g2]; rfl, upd_same, same_upd (g4.trans s24) hD, fun q0 m => ?_, by rw [List.map_append, g6, List.take_add_one, hy0, List.map_append]; rfl⟩
    rcases List.mem_append.mp m with m | m
    · obtain ⟨r0, r1, r2, r3, r4, r5⟩ := g5 q0 m
      exact ⟨⟨by rw [upd_ne r4]; exact s24 _ _ r0.tup, by rw [upd_ne r5]; exact s24 _ _ r0.way, r0.hx, r0.hy, r0.ne, r0.str, r0.isw, r0.cutE⟩, r1, r2, r3, r4, r5⟩
    · rw [List.mem_singleton.mp m]
      exact ⟨⟨by rw [upd_ne tD]; exact e5, by rw [upd_ne wD]; exact w5, hx, hy, yx, rfl, iw, rfl⟩, rfl, nt, none_of g4 hwr, tD, wD⟩
  rintro D ys H2 hD ⟨rows, rfl, g2, g3, g4, g5, g6⟩
  rw [List.length_map, natz_len', List.take_of_length_le (Nat.le_refl _)] at g6
  exact q D rows H2 (none_of s1 hD) (s1.trans g4) g3 (fun q0 m => ⟨(g5 q0 m).1, (g5 q0 m).2.1, none_of s1 (g5 q0 m).2.2.1, none_of s1 (g5 q0 m).2.2.2.1⟩) g6
theorem ok_law_votes (T : Tx K mg base ad) : FnOk P w K mg base CX0 3 ad.f_law_votes ad.d_law_votes ["_law_script", "_law_start", "_law_most", "_law_hands"] (spVotes51 K) := by
  refine T.F_law_votes.ok sc_law_votes (fun vs H Q E h => ?_) (fun cdv A outer s H vs Q E hr h => ?_)
  · obtain ⟨p, ns, a, m, h, rfl, _⟩ := h
    rfl
  obtain ⟨p, ns, a, m, h, rfl, hS, h63, rfl, rfl, h1, h12, q⟩ := h
  refine ⟨_, (@pss_cons _ _ _ _ _ (@ps_set _ _ (4) _ _ _ _ sc_law_votes.nd rfl (Or.inl rfl) (@pe_lst _ _ _ _ pa_nil) (by rfl) (by first | exact .inl rfl | exact .inr rfl | assumption)) (@pss_cons _ _ _ _ _ (ps_for PassesOwn.never rfl (pi_range2 rfl T.z_range (@pa_cons _ _ _ _ _ (pv 1) (@pa_cons _ _ _ _ _ (@pe_callB _ _ _ _ _ _ _ _ _ (call_max2 rfl) (by rfl) T.z_max PyProof.Rows.boot_max (@pa_cons _ _ _ _ _ (@pe_op _ _ _ _ _ _ _ _ op_add (pv 1) pe_int) (@pa_cons _ _ _ _ _ (@pe_callB _ _ _ _ _ _ _ _ _ (call_min2 rfl) (by rfl) T.z_min PyProof.Rows.boot_min (@pa_cons _ _ _ _ _ (@pe_callB _ _ _ _ _ _ _ _ _ call_len_seq (by rfl) T.z_len PySem.boot_len (@pa_cons _ _ _ _ _ (pv 0) pa_nil (by rfl)) (by decide) (by decide) (by rfl) (by rfl)) (@pa_cons _ _ _ _ _ (@pe_op _ _ _ _ _ _ _ _ op_add (pv 1) (pv 2)) pa_nil (by rfl)) (by rfl)) (by decide) (by decide) (by rfl) (by rfl)) pa_nil (by rfl)) (by rfl)) (by decide) (by decide) (by rfl) (by rfl)) pa_nil (by rfl)) (by rfl))) (pg_name (i := 5) sc_law_votes.nd rfl (Or.inl rfl)) (@pss_cons _ _ _ _ _ (@ps_set _ _ (6) _ _ _ _ sc_law_votes.nd rfl (Or.inl rfl) (@pe_call _ _ _ _ _ _ _ _ _ _ _ _ _ _ _ _ (ok_law_mixed T) (hr.mono (by decide)) rfl T.m_law_mixed T.F_law_mixed.kp T.b_law_mixed .nil pass0 (@pa_cons _ _ _ _ _ (@pe_call _ _ _ _ _ _ _ _ _ _ _ _ _ _ _ _ (ok_law_cell T) (hr.mono (by decide)) rfl T.m_law_cell T.F_law_cell.kp T.b_law_cell .nil pass0 (@pa_cons _ _ _ _ _ (pv 0) (@pa_cons _ _ _ _ _ (pv 5) pa_nil (by rfl)) (by rfl)) (by decide) (by rfl) (by rfl)) (@pa_cons _ _ _ _ _ (pv 5) pa_nil (by rfl)) (by rfl)) (by decide) (by rfl) (by rfl)) (by rfl) (by first | exact .inl rfl | exact .inr rfl | assumption)) (@pss_cons _ _ _ _ _ (@ps_set _ _ (7) _ _ _ _ sc_law_votes.nd rfl (Or.inl rfl) (@pe_ix _ _ _ _ _ _ _ ix_list (@pe_lst _ _ _ _ (@pa_cons _ _ _ _ _ (@pe_op _ _ _ _ _ _ _ _ op_add pe_int (@pe_op _ _ _ _ _ _ _ _ op_modN (@pe_op _ _ _ _ _ _ _ _ op_fdivB (pv 6) pe_int) pe_int)) (@pa_cons _ _ _ _ _ (@pe_op _ _ _ _ _ _ _ _ op_add pe_int (@pe_op _ _ _ _ _ _ _ _ op_modN (@pe_op _ _ _ _ _ _ _ _ op_fdivB (pv 6) pe_int) pe_int)) (@pa_cons _ _ _ _ _ (@pe_op _ _ _ _ _ _ _ _ op_add pe_int (@pe_op _ _ _ _ _ _ _ _ op_modN (@pe_op _ _ _ _ _ _ _ _ op_fdivB (pv 6) pe_int) (@pe_op _ _ _ _ _ _ _ _ op_pow pe_int pe_int))) pa_nil (by rfl)) (by rfl)) (by rfl))) (@pe_op _ _ _ _ _ _ _ _ op_modN (pv 6) pe_int) (fun _ _ => rfl)) (by rfl) (by first | exact .inl rfl | exact .inr rfl | assumption)) (@pss_one _ _ _ (@ps_expr _ _ _ _ (pe_bm PySem.F.plainAttrs_list PySem.F.slot_list_append PySem.F.type_list_append mt_append (pv 4) (@pa_cons _ _ _ _ _ (@pe_tup _ _ _ _ _ (@pa_cons _ _ _ _ _ (@pe_call _ _ _ _ _ _ _ _ _ _ _ _ _ _ _ _ (ok_law_ranks T) (hr.mono (by decide)) rfl T.m_law_ranks T.F_law_ranks.kp T.b_law_ranks .nil pass0 (@pa_cons _ _ _ _ _ (@pe_op _ _ _ _ _ _ _ _ op_fdivB (pv 6) pe_int) (@pa_cons _ _ _ _ _ (pv 3) pa_nil (by rfl)) (by rfl)) (by decide) (by rfl) (by rfl)) (@pa_cons _ _ _ _ _ (pv 7) pa_nil (by rfl)) (by rfl))) pa_nil (by rfl))) (by rfl)))))) (@pss_one _ _ _ (@ps_ret _ _ _ _ (pv 4))))), ?_⟩
  obtain ⟨n, rfl⟩ : ∃ n : Nat, h = (n : Int) := ⟨h.toNat, by omega⟩
  refine ⟨(by show 0 ≤ sizeLine; decide), fun l hl => ?_⟩
  have s0 := same_new hl (.lst [])
  have e0 : (upd H l (.lst [])) l = some (.lst (vvo [])) := upd_same
  generalize upd H l (.lst []) = H0 at s0 e0 ⊢
  and_intros
  refine ⟨p, _, rfl, .inl (s0.seq hS), ?_⟩
  and_intros
  refine ⟨_, _, rfl, ?_⟩
  and_intros
  refine ⟨_, _, rfl, ?_⟩
  have hl' : (ns.map V.int).length = ns.length := List.length_map _
  rw [hl']
  have hM : 6 ≤ (if (if 3 + 12 < (ns.length : Int) then 3 + 12 else (ns.length : Int)) > 3 + 3 then (if 3 + 12 < (ns.length : Int) then 3 + 12 else (ns.length : Int)) else 3 + 3) ∧ (if (if 3 + 12 < (ns.length : Int) then 3 + 12 else (ns.length : Int)) > 3 + 3 then (if 3 + 12 < (ns.length : Int) then 3 + 12 else (ns.length : Int)) else 3 + 3) ≤ 15 := by
    split <;> split at * <;> omega
  generalize (if (if 3 + 12 < (ns.length : Int) then 3 + 12 else (ns.length : Int)) > 3 + 3 then (if 3 + 12 < (ns.length : Int) then 3 + 12 else (ns.length : Int)) else 3 + 3) = M at hM ⊢
  refine ⟨3, M, rfl, ⟨by decide, by decide, by omega, by omega⟩, for_range (fun i σ' H' => ∃ (v5 v6 v7 : Option V) (vo : Vo), σ' = [some (.ref p), some (.int 3), some (.int 12), some (.int (n : Int)), some (.ref l), v5, v6, v7] ∧ Same H H' ∧ H' l = some (.lst (vvo vo)) ∧ vo.length = i ∧ GoodV n H' vo ∧ NumV vo ∧ ∀ q ∈ vo, q.2.1 ≠ l) ⟨none, none, none, [], rfl, s0, e0, rfl, (fun _ m => nomatch m), (fun _ m => nomatch m), (fun _ m => nomatch m)⟩ ?_ ?_⟩
  · rintro i σ' H' hi ⟨v5, v6, v7, vo, rfl, s1, e1, ln, g, nu, nl⟩
    and_intros
    refine ⟨p, ns, 3 + (i : Int), rfl, s1.seq hS, h63, by omega, by omega, fun c c0 c1 => ?_⟩
    and_intros
    refine ⟨c, 3 + (i : Int), rfl, sz40 c0 c1, sz_of (by omega) (by omega), fun z z0 z1 => ?_⟩
    and_intros
    have szz := sz18 z0 z1
    have m3 := fmod_in z (show (0 : Int) < 3 by decide)
    have m4 := fmod_in (z.fdiv 8) (show (0 : Int) < 4 by decide)
    have m9 := fmod_in (z.fdiv 8) (show (0 : Int) < 10 ^ (9 : Int).toNat by decide)
    have e9 : (10 : Int) ^ (9 : Int).toNat = 1000000000 := by decide
    refine ⟨(by show 3 ≤ sizeLine; decide), fun b3 hb3 => ?_⟩
    dsimp only
    have s2 := same_new hb3 (.lst [V.int (1 + (z.fdiv 8).fmod 4), V.int (1 + (z.fdiv 8).fmod 4), V.int (1 + (z.fdiv 8).fmod (10 ^ (9 : Int).toNat))])
    have e2 : (upd H' b3 (.lst [V.int (1 + (z.fdiv 8).fmod 4), V.int (1 + (z.fdiv 8).fmod 4), V.int (1 + (z.fdiv 8).fmod (10 ^ (9 : Int).toNat))])) b3 = some (.lst [V.int (1 + (z.fdiv 8).fmod 4), V.int (1 + (z.fdiv 8).fmod 4), V.int (1 + (z.fdiv 8).fmod (10 ^ (9 : Int).toNat))]) := upd_same
    generalize upd H' b3 (.lst [V.int (1 + (z.fdiv 8).fmod 4), V.int (1 + (z.fdiv 8).fmod 4), V.int (1 + (z.fdiv 8).fmod (10 ^ (9 : Int).toNat))]) = H2 at s2 e2 ⊢
    obtain ⟨v, hv, w1, w2⟩ : ∃ v : Int, atI [V.int (1 + (z.fdiv 8).fmod 4), V.int (1 + (z.fdiv 8).fmod 4), V.int (1 + (z.fdiv 8).fmod (10 ^ (9 : Int).toNat))] (z.fmod 3) = some (.int v) ∧ 1 ≤ v ∧ v ≤ 1000000000 := by
      rcases (by omega : z.fmod 3 = 0 ∨ z.fmod 3 = 1 ∨ z.fmod 3 = 2) with e | e | e
      · rw [e]; exact ⟨_, rfl, by omega, by omega⟩
      · rw [e]; exact ⟨_, rfl, by omega, by omega⟩
      · rw [e]; exact ⟨_, rfl, by omega, by omega⟩
    and_intros
    refine ⟨b3, _, _, _, rfl, rfl, SqL.of e2, hv, ?_⟩
    have f1 := s2 _ _ e1
    and_intros
    refine ⟨.inl ⟨rfl, _, SqL.of f1⟩, ?_⟩
    have d64 := div_in z0 (show (1 : Int) ≤ 64 by decide) z1
    and_intros
    refine ⟨z.fdiv 64, (n : Int), rfl, d64.1, d64.2, h1, h12, fun lr rs H3 hlr s3 e3 ir => ?_⟩
    and_intros
    refine ⟨(by show 2 ≤ sizeLine; decide), fun t ht => ?_⟩
    have s4 := same_new ht (.tup [V.ref lr, V.int v])
    have e4 : (upd H3 t (.tup [V.ref lr, V.int v])) t = some (.tup [V.ref lr, V.int v]) := upd_same
    have f2 := s4 _ _ (s3 _ _ f1)
    have e3' := s4 _ _ e3
    have g' := ((g.same s2).same s3).same s4
    have sAll := ((s1.trans s2).trans s3).trans s4
    generalize upd H3 t (.tup [V.ref lr, V.int v]) = H4 at sAll e4 f2 e3' g' ⊢
    refine ⟨l, _, _, rfl, rfl, f2, (by rw [vvo_len]; exact small1000 (by omega)), ?_⟩
    have keep : ∀ b o, H4 b = some o → b ≠ l → (upd H4 l (.lst (vvo vo ++ [V.ref t]))) b = some o := fun b o e ne => by rw [upd_ne ne]; exact e
    have ne : lr ≠ l := fun z => by rw [z, f1] at hlr; cases hlr
    have tl : ∀ b u, H4 b = some (.tup u) → b ≠ l := fun b u e z => by rw [z, f2] at e; cases e
    refine ⟨_, _, _, vo ++ [(t, lr, rs, v)], rfl, same_upd sAll hl, by rw [upd_same]; unfold vvo; rw [List.map_append]; rfl, by rw [List.length_append, ln]; rfl, fun q m => ?_, fun q m => ?_, fun q m => ?_⟩
    · rcases List.mem_append.mp m with m | m
      · obtain ⟨a1, a2, a3⟩ := g' q m
        exact ⟨keep _ _ a1 (tl _ _ a1), keep _ _ a2 (nl q m), a3⟩
      · rw [List.mem_singleton.mp m]
        exact ⟨keep _ _ e4 (tl _ _ e4), keep _ _ e3' ne, by have := ir.1; show rs.length = n; omega⟩
    · rcases List.mem_append.mp m with m | m
      · exact nu q m
      · rw [List.mem_singleton.mp m]
        exact ⟨w1, w2, ir.2⟩
    · rcases List.mem_append.mp m with m | m
      · exact nl q m
      · rw [List.mem_singleton.mp m]
        exact ne
  · rintro σ' H' ⟨v5, v6, v7, vo, rfl, s1, e1, ln, g, nu, nl⟩
    exact ⟨_, rfl, q l vo H' s1 e1 (by omega) (by rw [Int.toNat_natCast]; exact g) nu⟩
theorem ok_law_with_set (T : Tx K mg base ad) : FnOk P w K mg base CX0 3 ad.f_law_with_set ad.d_law_with_set ["_law_votes_here", "_law_inner", "_law_hands", "_law_cell_here"] spWithSet := by
  refine T.F_law_with_set.ok sc_law_with_set (fun vs H Q E h => ?_) (fun cdv A outer s H vs Q E hr h => ?_)
  · obtain ⟨l, p, vo, h, I, z, rfl, _⟩ := h
    rfl
  obtain ⟨l, p, vo, h, I, z, rfl, hl, g0, l12, nv, hp, h1, h12, z0, z1, q⟩ := h
  refine ⟨_, (@pss_cons _ _ _ _ _ (@ps_set _ _ (4) _ _ _ _ sc_law_with_set.nd rfl (Or.inl rfl) (@pe_op _ _ _ _ _ _ _ _ op_add (@pe_op _ _ _ _ _ _ _ _ op_add pe_int (@pe_callB _ _ _ _ _ _ _ _ _ (call_sum rfl) (by rfl) T.z_sum PyProof.Rows.boot_sum (@pa_cons _ _ _ _ _ (pe_comp2 (fsc := defScope s_law_with_set) (N := ["_law_votes_here", "_law_inner", "_law_hands", "_law_cell_here", "_law_many", "_law_some", "_law_k", "_law_number", "_law_part"]) (Nc := ["_law_votes_here", "_law_inner", "_law_hands", "_law_cell_here", "_law_many", "_law_some", "_law_k", ".s7", "_law_part", "_law_ranks_here", "_law_number"]) rfl rfl ⟨rfl, by decide +kernel, by decide +kernel, by decide +kernel, by decide +kernel, rfl, by decide +kernel, rfl, by decide +kernel⟩ rfl (pi_list (pv 0)) (fun _ _ _ _ => pif_nil) (fun _ _ _ _ => (pv 10))) pa_nil (by rfl)) (by decide) (by decide) (by rfl) (by rfl))) (@pe_op _ _ _ _ _ _ _ _ op_modN (pv 3) pe_int)) (by rfl) (by first | exact .inl rfl | exact .inr rfl | assumption)) (@pss_cons _ _ _ _ _ (@ps_set _ _ (5) _ _ _ _ sc_law_with_set.nd rfl (Or.inl rfl) (@pe_callTy _ _ _ _ _ _ _ _ _ call_list_of (by rfl) T.z_list PyProof.Rows.boot_list (@pa_cons _ _ _ _ _ (pv 0) pa_nil (by rfl)) (by decide) (by decide) (by rfl) (by rfl)) (by rfl) (by first | exact .inl rfl | exact .inr rfl | assumption)) (@pss_cons _ _ _ _ _ (ps_for PassesOwn.never rfl (pi_range1 rfl T.z_range (@pa_cons _ _ _ _ _ pe_int pa_nil (by rfl))) (pg_name (i := 6) sc_law_with_set.nd rfl (Or.inl rfl)) (@pss_cons _ _ _ _ _ (@ps_set _ _ (7) _ _ _ _ sc_law_with_set.nd rfl (Or.inl rfl) (@pe_call _ _ _ _ _ _ _ _ _ _ _ _ _ _ _ _ (ok_law_mixed T) (hr.mono (by decide)) rfl T.m_law_mixed T.F_law_mixed.kp T.b_law_mixed .nil pass0 (@pa_cons _ _ _ _ _ (pv 3) (@pa_cons _ _ _ _ _ (@pe_op _ _ _ _ _ _ _ _ op_add pe_int (pv 6)) pa_nil (by rfl)) (by rfl)) (by decide) (by rfl) (by rfl)) (by rfl) (by first | exact .inl rfl | exact .inr rfl | assumption)) (@pss_cons _ _ _ _ _ (@ps_set _ _ (8) _ _ _ _ sc_law_with_set.nd rfl (Or.inl rfl) (@pe_ix _ _ _ _ _ _ _ ix_list (@pe_lst _ _ _ _ (@pa_cons _ _ _ _ _ (@pe_op _ _ _ _ _ _ _ _ op_modN (@pe_op _ _ _ _ _ _ _ _ op_fdivB (pv 7) pe_int) (@pe_op _ _ _ _ _ _ _ _ op_add (pv 4) pe_int)) (@pa_cons _ _ _ _ _ (pv 4) pa_nil (by rfl)) (by rfl))) (@pe_callTy _ _ _ _ _ _ _ _ _ call_int1 (by rfl) T.z_int PyProof.Rows.boot_int (@pa_cons _ _ _ _ _ (@pe_cmpR _ _ _ _ _ _ _ _ op_eq (pv 6) pe_int (nomark _)) pa_nil (by rfl)) (by decide) (by decide) (by rfl) (by rfl)) (fun _ _ => rfl)) (by rfl) (by first | exact .inl rfl | exact .inr rfl | assumption)) (@pss_cons _ _ _ _ _ (@ps_set _ _ (4) _ _ _ _ sc_law_with_set.nd rfl (Or.inl rfl) (@pe_op _ _ _ _ _ _ _ _ op_sub (pv 4) (pv 8)) (by rfl) (by first | exact .inl rfl | exact .inr rfl | assumption)) (@pss_one _ _ _ (@ps_ifJ _ _ _ _ _ _ _ _ (@pt_cmpR _ _ _ _ _ _ _ _ op_gt (pv 8) pe_int (nomark _)) (@pss_one _ _ _ (@ps_expr _ _ _ _ (pe_bm PySem.F.plainAttrs_list PySem.F.slot_list_append PySem.F.type_list_append mt_append (pv 5) (@pa_cons _ _ _ _ _ (@pe_tup _ _ _ _ _ (@pa_cons _ _ _ _ _ (@pe_call _ _ _ _ _ _ _ _ _ _ _ _ _ _ _ _ (ok_law_solid T) (hr.mono (by decide)) rfl T.m_law_solid T.F_law_solid.kp T.b_law_solid .nil pass0 (@pa_cons _ _ _ _ _ (pv 1) (@pa_cons _ _ _ _ _ (pv 2) (@pa_cons _ _ _ _ _ (pv 7) pa_nil (by rfl)) (by rfl)) (by rfl)) (by decide) (by rfl) (by rfl)) (@pa_cons _ _ _ _ _ (pv 8) pa_nil (by rfl)) (by rfl))) pa_nil (by rfl))) (by rfl))) pss_nil)))))) (@pss_one _ _ _ (@ps_ret _ _ _ _ (pv 5)))))), ?_⟩
  have szz := sz40 z0 z1
  have nn : ∀ q ∈ vo, 0 ≤ q.2.2.2 ∧ q.2.2.2 ≤ 1000000000 := fun q m => ⟨by have := (nv q m).1; omega, (nv q m).2.1⟩
  have tt := tot_in nn
  have m3 := fmod_in z (show (0 : Int) < 3 by decide)
  and_intros
  refine ⟨⟨_, SqL.of hl⟩, ?_⟩
  refine comp_pairs (zs := vvo vo) rfl rfl (by rw [vvo_len]; exact small63 (by omega)) (fun D i ys J => ys = ((vo.take i).map fun q => q.2.2.2).map V.int ∧ J D = some (.lst ys) ∧ Same H J) (fun D hD => ⟨rfl, upd_same, same_new hD _⟩) (fun D i ys J ⟨f1, f3, _⟩ => ⟨f3, by rw [f1, List.length_map, List.length_map]; exact List.length_take_le _ _⟩) (fun D i ys J hD ⟨_, _, f4⟩ => SqL.of (f4 _ _ hl)) ?_ ?_
  · rintro D i w ys J K1 K2 hD hw ⟨f1, f3, f4⟩ kk1 kk2
    obtain ⟨f, hf, rfl, fm, et⟩ := vvo_get hw
    obtain ⟨g1, g2, g3⟩ := g0 f fm
    refine ⟨f.1, _, _, rfl, SqT.of (f4 _ _ g1), yes (ifT rfl ?_)⟩
    refine ⟨_, rfl, ?_⟩
    refine kk1 _ _ f3 ⟨?_, upd_same, same_upd f4 hD⟩
    rw [et, List.map_append, List.map_append, f1]
    rfl
  rintro D ys H1 hD ⟨f1, f3, f4⟩
  rw [vvo_len, List.take_of_length_le (Nat.le_refl _)] at f1
  subst f1
  refine ⟨D, _, rfl, SqL.of f3, ?_⟩
  rw [show (vo.map fun q => q.2.2.2).sum = totV vo from rfl]
  and_intros
  dsimp only
  obtain ⟨M0, eM⟩ : ∃ M0, M0 = 1 + totV vo + z.fmod 3 := ⟨_, rfl⟩
  rw [← eM]
  have hl1 := f4 _ _ hl
  have g1 := g0.same f4
  have hM0 : totV vo < M0 ∧ M0 ≤ 13000000000 := by
    have : 1000000000 * (vo.length : Int) ≤ 12000000000 := by omega
    omega
  and_intros
  intro L hL
  have hLH := none_of f4 hL
  have s2 := f4.trans (same_new hL (.lst (vvo vo)))
  have g2 := g1.same (same_new hL (.lst (vvo vo)))
  have e2 : (upd H1 L (.lst (vvo vo))) L = some (.lst (vvo vo)) := upd_same
  generalize upd H1 L (.lst (vvo vo)) = H2 at s2 e2 g2 ⊢
  have nl0 : ∀ q ∈ vo, q.2.1 ≠ L := fun q m e => by
    have := (g0 q m).2.1
    rw [e, hLH] at this
    cases this
  and_intros
  refine ⟨by decide, by decide, for_range (fun i σ' H' => ∃ (v6 v7 v8 : Option V) (M : Int) (vo' : Vo), σ' = [some (.ref l), some (.ref p), some (.int (h : Int)), some (.int z), some (.int M), some (.ref L), v6, v7, v8] ∧ Same H H' ∧ H' L = some (.lst (vvo vo')) ∧ GoodV h H' vo' ∧ NumK vo' ∧ vo'.length ≤ vo.length + i ∧ (∀ q ∈ vo', q.2.1 ≠ L) ∧ 0 ≤ M ∧ M ≤ M0 ∧ (i = 3 → M = 0) ∧ ∀ x y, x < h → y < h → I x = true → I y = false → duF vo' x y = duF vo x y + (M0 - M) ∧ duF vo' y x = duF vo y x) ⟨none, none, none, M0, vo, rfl, s2, e2, g2, (fun q m => ⟨(nv q m).1, by have := (nv q m).2.1; omega, fun r mr => ⟨((nv q m).2.2 r mr).1, by have := ((nv q m).2.2 r mr).2; omega⟩⟩), Nat.le_refl _, nl0, by omega, Int.le_refl _, (fun e => by cases e), fun x y _ _ _ _ => ⟨by omega, rfl⟩⟩ ?_ ?_⟩
  · rintro i σ' H3 hi ⟨v6, v7, v8, M, vo', rfl, s3, e3, g3, n3, l3, nl, M1, M2, M3, du⟩
    have i3 : i < 3 := hi
    have ex : (0 : Int) + (i : Int) = (i : Int) := Int.zero_add _
    refine ⟨_, rfl, _, rfl, _, _, rfl, rfl, z, _, rfl, szz, sz_of (by omega) (by omega), fun d d0 d1 => ?_⟩
    have szd := sz18 d0 d1
    have md := fmod_in (d.fdiv 128) (show (0 : Int) < M + 1 by omega)
    and_intros
    refine ⟨(by show (_ : Int) ≠ 0; omega), ?_⟩
    and_intros
    refine ⟨(by show 2 ≤ sizeLine; decide), fun b hb => ?_⟩
    dsimp only
    generalize (d.fdiv 128).fmod (M + 1) = u at md ⊢
    have s4 := same_new hb (.lst [V.int u, V.int M])
    have e4 : (upd H3 b (.lst [V.int u, V.int M])) b = some (.lst [V.int u, V.int M]) := upd_same
    generalize upd H3 b (.lst [V.int u, V.int M]) = H4 at s4 e4 ⊢
    obtain ⟨m, hm, m0, m1, m2⟩ : ∃ m : Int, atI [V.int u, V.int M] (if decide (V.int (0 + (i : Int)) = V.int 2) = true then (1 : Int) else 0) = some (.int m) ∧ 0 ≤ m ∧ m ≤ M ∧ (i = 2 → m = M) := by
      by_cases e : i = 2
      · rw [if_pos (eq_t (by omega))]; exact ⟨M, rfl, by omega, by omega, fun _ => rfl⟩
      · rw [if_neg (by rw [eq_f (by omega)]; decide)]; exact ⟨u, rfl, by omega, by omega, fun z => absurd z e⟩
    and_intros
    refine .inr ⟨_, rfl, ?_⟩
    refine ⟨b, _, _, _, rfl, rfl, SqL.of e4, hm, ?_⟩
    have f1' := s4 _ _ e3
    have g4 := g3.same s4
    have s34 := s3.trans s4
    have hp4 := s34 _ _ hp
    and_intros
    dsimp only
    refine ⟨fun σ' H5 => ∃ (a : Vo), σ' = [some (.ref l), some (.ref p), some (.int (h : Int)), some (.int z), some (.int (M - m)), some (.ref L), some (.int (0 + (i : Int))), some (.int d), some (.int m)] ∧ Same H H5 ∧ H5 L = some (.lst (vvo (vo' ++ a))) ∧ GoodV h H5 (vo' ++ a) ∧ NumK (vo' ++ a) ∧ a.length ≤ 1 ∧ (∀ q ∈ vo' ++ a, q.2.1 ≠ L) ∧ ∀ x y, x < h → y < h → I x = true → I y = false → duF a x y = m ∧ duF a y x = 0, ?_, ?_⟩
    · and_intros
      refine ite2 (fun k => ?_) (fun k => ?_)
      · have m00 : 0 < m := of_decide_eq_true k
        refine ⟨_, rfl, .inl ⟨rfl, _, SqL.of f1'⟩, ?_⟩
        and_intros
        refine ⟨p, h, I, d, rfl, hp4, h1, h12, d0, d1, fun lr rs' H6 hlr s6 e6 l6 r6 so => ?_⟩
        and_intros
        refine ⟨(by show 2 ≤ sizeLine; decide), fun t ht => ?_⟩
        have s7 := same_new ht (.tup [V.ref lr, V.int m])
        have e7 : (upd H6 t (.tup [V.ref lr, V.int m])) t = some (.tup [V.ref lr, V.int m]) := upd_same
        have f7 := s7 _ _ (s6 _ _ f1')
        have e6' := s7 _ _ e6
        have g7 := (g4.same s6).same s7
        have sA := (s34.trans s6).trans s7
        have lL : lr ≠ L := fun e => by rw [e, f1'] at hlr; cases hlr
        generalize upd H6 t (.tup [V.ref lr, V.int m]) = H7 at sA e7 f7 e6' g7 ⊢
        refine ⟨L, _, _, rfl, rfl, f7, (by rw [vvo_len]; exact small1000 (by omega)), ?_⟩
        refine ⟨[(t, lr, rs', m)], rfl, same_upd sA hLH, by rw [upd_same]; simp [vvo], GoodV.push f7 g7 nl e7 e6' lL l6, fun q mq => ?_, Nat.le_refl _, fun q mq => ?_, fun x y hx hy ix iy => ?_⟩
        · rcases List.mem_append.mp mq with mq | mq
          · exact n3 q mq
          · rw [List.mem_singleton.mp mq]; exact ⟨by show 1 ≤ m; omega, by show m ≤ 20000000000; omega, r6⟩
        · rcases List.mem_append.mp mq with mq | mq
          · exact nl q mq
          · rw [List.mem_singleton.mp mq]; exact lL
        · have so1 := so x y hx hy ix iy
          rw [duF_one, duF_one, if_pos so1, if_neg (by omega)]
          exact ⟨rfl, rfl⟩
      · have m00 : m = 0 := by have := of_decide_eq_false (Bool.eq_false_iff.mpr k); omega
        exact ⟨[], rfl, s34, by rw [List.append_nil]; exact f1', by rw [List.append_nil]; exact g4, by rw [List.append_nil]; exact n3, by decide, by rw [List.append_nil]; exact nl, fun x y _ _ _ _ => ⟨by rw [m00]; rfl, rfl⟩⟩
    rintro σ' H5 ⟨a, rfl, s5, e5, g5, n5, a1, nl5, da⟩
    refine ⟨_, _, _, M - m, vo' ++ a, rfl, s5, e5, g5, n5, by rw [List.length_append]; omega, nl5, by omega, by omega, fun e => by have := m2 (by omega); omega, fun x y hx hy ix iy => ?_⟩
    obtain ⟨b1, b2⟩ := du x y hx hy ix iy
    obtain ⟨b3, b4⟩ := da x y hx hy ix iy
    rw [duF_app, duF_app, b1, b2, b3, b4]
    omega
  · rintro σ' H3 ⟨v6, v7, v8, M, vo', rfl, s3, e3, g3, n3, l3, nl, M1, M2, M3, du⟩
    have z3 := M3 rfl
    have l3' : vo'.length ≤ vo.length + 3 := l3
    refine ⟨_, rfl, q L vo' H3 s3 e3 g3 (by omega) n3 fun x y hx hy ix iy => ?_⟩
    obtain ⟨a1, a2⟩ := du x y hx hy ix iy
    have b1 := du_tot (fun q m => (nn q m).1) x y
    have b2 := du_tot (fun q m => (nn q m).1) y x
    omega
theorem ok_Way_init (T : Tx K mg base ad) : FnOk P w K mg base CX0 3 ad.f_Way_init ad.d_Way_init ["self", "hands", "seats", "lots"] (spWayInitP K) := by
  refine T.F_Way_init.ok sc_Way_init (fun vs H Q E h => ?_) (fun cdv A outer s H vs Q E hr h => ?_)
  · obtain ⟨a, C, dx, h, s, lv, ns, rfl, _⟩ := h
    rfl
  obtain ⟨a, C, dx, h, s, lv, ns, rfl, ha, cl, n1, n2, n3, h1, h12, s1, s60, lo, q⟩ := h
  refine ⟨_, (@pss_cons _ _ _ _ _ (@ps_if _ _ _ _ _ _ _ _ (PW.pt (@pw_or _ _ _ _ _ _ _ (@pt_not _ _ _ _ (@pt_val _ _ _ (@pe_call _ _ _ _ _ _ _ _ _ _ _ _ _ _ _ _ (ok_are_hands T) (hr.mono (by decide)) rfl T.m_are_hands T.F_are_hands.kp T.b_are_hands .nil pass0 (@pa_cons _ _ _ _ _ (pv 1) pa_nil (by rfl)) (by decide) (by rfl) (by rfl)) (by intro _; rfl))) (@pw_or1 _ _ _ _ (@pt_not _ _ _ _ (@pt_val _ _ _ (@pe_call _ _ _ _ _ _ _ _ _ _ _ _ _ _ _ _ (ok_are_seats T) (hr.mono (by decide)) rfl T.m_are_seats T.F_are_seats.kp T.b_are_seats .nil pass0 (@pa_cons _ _ _ _ _ (pv 2) pa_nil (by rfl)) (by decide) (by rfl) (by rfl)) (by intro _; rfl)))))) (@pss_one _ _ _ ps_never) pss_nil) (@pss_cons _ _ _ _ _ (@ps_if _ _ _ _ _ _ _ _ (PW.pt (@pw_and _ _ _ _ _ _ _ (@pt_cmpR _ _ _ _ _ _ _ _ op_notN (pv 3) pe_non (nomark _)) (@pw_and1 _ _ _ _ (@pt_not _ _ _ _ (@pt_val _ _ _ (@pe_call _ _ _ _ _ _ _ _ _ _ _ _ _ _ _ _ (ok_are_lots T) (hr.mono (by decide)) rfl T.m_are_lots T.F_are_lots.kp T.b_are_lots .nil pass0 (@pa_cons _ _ _ _ _ (pv 3) (@pa_cons _ _ _ _ _ (pv 1) pa_nil (by rfl)) (by rfl)) (by decide) (by rfl) (by rfl)) (by intro _; rfl)))))) (@pss_one _ _ _ ps_never) pss_nil) (@pss_cons _ _ _ _ _ (ps_fld (pv 0) (pv 1) rfl) (@pss_cons _ _ _ _ _ (ps_fld (pv 0) (pv 2) rfl) (@pss_one _ _ _ (ps_fld (pv 0) (pe_ifExp (@pt_cmpR _ _ _ _ _ _ _ _ op_isN (pv 3) pe_non (nomark _)) (pe_listrange rfl (by rfl) T.z_list (by rfl) T.z_range (pv 1)) (@pe_callTy _ _ _ _ _ _ _ _ _ call_list_of (by rfl) T.z_list PyProof.Rows.boot_list (@pa_cons _ _ _ _ _ (pv 3) pa_nil (by rfl)) (by decide) (by decide) (by rfl) (by rfl))) rfl)))))), ?_⟩
  refine ⟨_, rfl, (h : Int), rfl, by omega, by omega, ?_⟩
  and_intros
  refine ⟨by omega, by omega, ?_⟩
  and_intros
  rcases lo with ⟨rfl, rfl⟩ | ⟨l, rfl, hl, pm⟩
  · and_intros
    obtain ⟨H1, eH⟩ : ∃ H1, H1 = H := ⟨_, rfl⟩
    rw [← eH]
    have e1 : Same H H1 := by rw [eH]; exact fun _ _ e => e
    have g1 := (off_le H a).trans e1
    refine ⟨a, C, dx, [], rfl, e1 _ _ ha, cl, n1, (by simp only [List.length_cons, List.length_nil]; decide), ?_⟩
    rw [put1]
    have g2 := off_put (o := .ins C dx [("hands", .int (h : Int))]) g1
    have a2 : (upd H1 a (.ins C dx [("hands", .int (h : Int))])) a = _ := upd_same
    generalize upd H1 a (.ins C dx [("hands", .int (h : Int))]) = H2 at g2 a2 ⊢
    and_intros
    refine ⟨a, C, dx, _, rfl, a2, cl, n2, (by simp only [List.length_cons, List.length_nil]; decide), ?_⟩
    rw [put2]
    have g3 := off_put (o := .ins C dx [("hands", .int (h : Int)), ("seats", .int (s : Int))]) g2
    have a3 : (upd H2 a (.ins C dx [("hands", .int (h : Int)), ("seats", .int (s : Int))])) a = _ := upd_same
    generalize upd H2 a (.ins C dx [("hands", .int (h : Int)), ("seats", .int (s : Int))]) = H3 at g3 a3 ⊢
    and_intros
    refine ⟨by omega, fun b hb => ?_⟩
    rw [← ups_v]
    have ba : b ≠ a := fun z => by rw [z, a3] at hb; cases hb
    have hbH : H b = none := by
      cases e : H b with
      | none => rfl
      | some o =>
        have := g3 _ _ (off_at e ba)
        rw [hb] at this
        cases this
    have g4 := g3.trans (same_new hb (.lst ((ups h).map V.int)))
    have a4 := same_new hb (.lst ((ups h).map V.int)) _ _ a3
    have b4 : (upd H3 b (.lst ((ups h).map V.int))) b = some (.lst ((ups h).map V.int)) := upd_same
    generalize upd H3 b (.lst ((ups h).map V.int)) = H4 at g4 a4 b4 ⊢
    and_intros
    refine ⟨a, C, dx, _, rfl, a4, cl, n3, (by simp only [List.length_cons, List.length_nil]; decide), ?_⟩
    rw [put3]
    exact q b _ ba hbH (off_put g4) upd_same (by rw [upd_ne ba]; exact b4)
  · and_intros
    refine ⟨l, ns, h, rfl, hl, pm, by omega, fun H1 e1 => ?_⟩
    and_intros
    have g1 := (off_le H a).trans e1
    refine ⟨a, C, dx, [], rfl, e1 _ _ ha, cl, n1, (by simp only [List.length_cons, List.length_nil]; decide), ?_⟩
    rw [put1]
    have g2 := off_put (o := .ins C dx [("hands", .int (h : Int))]) g1
    have a2 : (upd H1 a (.ins C dx [("hands", .int (h : Int))])) a = _ := upd_same
    generalize upd H1 a (.ins C dx [("hands", .int (h : Int))]) = H2 at g2 a2 ⊢
    and_intros
    refine ⟨a, C, dx, _, rfl, a2, cl, n2, (by simp only [List.length_cons, List.length_nil]; decide), ?_⟩
    rw [put2]
    have g3 := off_put (o := .ins C dx [("hands", .int (h : Int)), ("seats", .int (s : Int))]) g2
    have a3 : (upd H2 a (.ins C dx [("hands", .int (h : Int)), ("seats", .int (s : Int))])) a = _ := upd_same
    generalize upd H2 a (.ins C dx [("hands", .int (h : Int)), ("seats", .int (s : Int))]) = H3 at g3 a3 ⊢
    have la : l ≠ a := fun z => by rw [z, ha] at hl; cases hl
    have l3 := g3 _ _ (off_at hl la)
    and_intros
    intro b hb
    have ba : b ≠ a := fun z => by rw [z, a3] at hb; cases hb
    have hbH : H b = none := by
      cases e : H b with
      | none => rfl
      | some o =>
        have := g3 _ _ (off_at e ba)
        rw [hb] at this
        cases this
    have g4 := g3.trans (same_new hb (.lst (ns.map V.int)))
    have a4 := same_new hb (.lst (ns.map V.int)) _ _ a3
    have b4 : (upd H3 b (.lst (ns.map V.int))) b = some (.lst (ns.map V.int)) := upd_same
    generalize upd H3 b (.lst (ns.map V.int)) = H4 at g4 a4 b4 ⊢
    and_intros
    refine ⟨a, C, dx, _, rfl, a4, cl, n3, (by simp only [List.length_cons, List.length_nil]; decide), ?_⟩
    rw [put3]
    exact q b _ ba hbH (off_put g4) upd_same (by rw [upd_ne ba]; exact b4)
theorem ok_Pairs_strengths_of (T : Tx K mg base ad) : FnOk P w K mg base CX0 4 ad.f_Pairs_strengths_of ad.d_Pairs_strengths_of ["self", "sheet"] (spStrOf ad.c_Pairs ad.lP) := by
  refine T.F_Pairs_strengths_of.ok sc_Pairs_strengths_of (fun vs H Q E h => ?_) (fun cdv A outer s H vs Q E hr h => ?_)
  · obtain ⟨a, l, h, s, ns, ls, rfl, _⟩ := h
    rfl
  obtain ⟨a, l, h, s, ns, ls, rfl, md, hl, gl, l60, lt, q⟩ := h
  refine ⟨_, (@pss_one _ _ _ (@ps_ret _ _ _ _ (@pe_call _ _ _ _ _ _ _ _ _ _ _ _ _ _ _ _ (ok_strength T) (hr.mono (by decide)) rfl T.m_strength T.F_strength.kp T.b_strength .nil pass0 (@pa_cons _ _ _ _ _ (@pe_call _ _ _ _ _ _ _ _ _ _ _ _ _ _ _ _ (ok_leads_of T) (hr.mono (by decide)) rfl T.m_leads_of T.F_leads_of.kp T.b_leads_of .nil pass0 (@pa_cons _ _ _ _ _ (@pe_call _ _ _ _ _ _ _ _ _ _ _ _ _ _ _ _ (ok_overs T) (hr.mono (by decide)) rfl T.m_overs T.F_overs.kp T.b_overs .nil pass0 (@pa_cons _ _ _ _ _ (pv 1) (@pa_cons _ _ _ _ _ (pe_fld (pv 0) rfl) pa_nil (by rfl)) (by rfl)) (by decide) (by rfl) (by rfl)) pa_nil (by rfl)) (by decide) (by rfl) (by rfl)) pa_nil (by rfl)) (by decide) (by rfl) (by rfl)))), ?_⟩
  obtain ⟨dx, la, k1, k2⟩ := id md.is
  have h1 := md.h1
  have h12 := md.h12
  and_intros
  refine ⟨a, _, dx, _, _, rfl, k1, T.cl_Pairs, T.na_Pairs_hands, rfl, ?_⟩
  and_intros
  refine ⟨l, ls, h, rfl, hl, gl, l60, h1, h12, fun b as H1 hb s1 nb wb eb tb => ?_⟩
  and_intros
  refine ⟨b, as, h, _, rfl, eb, tb, h12, fun c cs H2 hc nc wc s2 ec tc => ?_⟩
  have s12 := s1.trans s2
  and_intros
  refine ⟨c, cs, h, leadF ls, rfl, ec, tc, h1, h12, lt.same s12, fun r rs F H3 sm sq lq hr nr wr er tr st => ?_⟩
  exact q r rs F H3 ((Sm.of s12).trans sm) (fun z => s12.trans (sq (z.same s12))) lq (none_of s12 hr) er tr st
theorem ok_Pairs_counted (T : Tx K mg base ad) : FnOk P w K mg base CX0 4 ad.f_Pairs_counted ad.d_Pairs_counted ["self", "sheet"] (spCountedP ad.c_Pairs ad.lP) := by
  refine T.F_Pairs_counted.ok sc_Pairs_counted (fun vs H Q E h => ?_) (fun cdv A outer s H vs Q E hr h => ?_)
  · obtain ⟨a, l, h, s, ns, ls, rfl, _⟩ := h
    rfl
  obtain ⟨a, l, h, s, ns, ls, rfl, md, hl, gl, l60, lt, q⟩ := h
  refine ⟨_, (@pss_cons _ _ _ _ _ (@ps_set _ _ (2) _ _ _ _ sc_Pairs_counted.nd rfl (Or.inl rfl) (@pe_call _ _ _ _ _ _ _ _ _ _ _ _ _ _ _ _ (ok_overs T) (hr.mono (by decide)) rfl T.m_overs T.F_overs.kp T.b_overs .nil pass0 (@pa_cons _ _ _ _ _ (pv 1) (@pa_cons _ _ _ _ _ (pe_fld (pv 0) rfl) pa_nil (by rfl)) (by rfl)) (by decide) (by rfl) (by rfl)) (by rfl) (by first | exact .inl rfl | exact .inr rfl | assumption)) (@pss_cons _ _ _ _ _ (@ps_set _ _ (3) _ _ _ _ sc_Pairs_counted.nd rfl (Or.inl rfl) (@pe_call _ _ _ _ _ _ _ _ _ _ _ _ _ _ _ _ (ok_leads_of T) (hr.mono (by decide)) rfl T.m_leads_of T.F_leads_of.kp T.b_leads_of .nil pass0 (@pa_cons _ _ _ _ _ (pv 2) pa_nil (by rfl)) (by decide) (by rfl) (by rfl)) (by rfl) (by first | exact .inl rfl | exact .inr rfl | assumption)) (@pss_cons _ _ _ _ _ (@ps_set _ _ (4) _ _ _ _ sc_Pairs_counted.nd rfl (Or.inl rfl) (@pe_lst _ _ _ _ pa_nil) (by rfl) (by first | exact .inl rfl | exact .inr rfl | assumption)) (@pss_cons _ _ _ _ _ (@ps_set _ _ (5) _ _ _ _ sc_Pairs_counted.nd rfl (Or.inl rfl) (@pe_lst _ _ _ _ pa_nil) (by rfl) (by first | exact .inl rfl | exact .inr rfl | assumption)) (@pss_cons _ _ _ _ _ (ps_for PassesOwn.never rfl (pi_range1 rfl T.z_range (@pa_cons _ _ _ _ _ (pe_fld (pv 0) rfl) pa_nil (by rfl))) (pg_name (i := 6) sc_Pairs_counted.nd rfl (Or.inl rfl)) (@pss_cons _ _ _ _ _ (@ps_set _ _ (7) _ _ _ _ sc_Pairs_counted.nd rfl (Or.inl rfl) (@pe_call _ _ _ _ _ _ _ _ _ _ _ _ _ _ _ _ (ok_reached_from T) (hr.mono (by decide)) rfl T.m_reached_from T.F_reached_from.kp T.b_reached_from .nil pass0 (@pa_cons _ _ _ _ _ (pv 3) (@pa_cons _ _ _ _ _ (pv 6) pa_nil (by rfl)) (by rfl)) (by decide) (by rfl) (by rfl)) (by rfl) (by first | exact .inl rfl | exact .inr rfl | assumption)) (@pss_cons _ _ _ _ _ (@ps_expr _ _ _ _ (pe_bm PySem.F.plainAttrs_list PySem.F.slot_list_extend PySem.F.type_list_extend mt_extend (pv 4) (@pa_cons _ _ _ _ _ (@pe_call _ _ _ _ _ _ _ _ _ _ _ _ _ _ _ _ (ok_shown_from T) (hr.mono (by decide)) rfl T.m_shown_from T.F_shown_from.kp T.b_shown_from .nil pass0 (@pa_cons _ _ _ _ _ (pv 7) (@pa_cons _ _ _ _ _ (pv 6) pa_nil (by rfl)) (by rfl)) (by decide) (by rfl) (by rfl)) pa_nil (by rfl))) (by rfl)) (@pss_one _ _ _ (@ps_expr _ _ _ _ (pe_bm PySem.F.plainAttrs_list PySem.F.slot_list_append PySem.F.type_list_append mt_append (pv 5) (@pa_cons _ _ _ _ _ (@pe_ix _ _ _ _ _ _ _ ix_tup (pv 7) pe_int (fun _ _ => rfl)) pa_nil (by rfl))) (by rfl)))))) (@pss_one _ _ _ (@ps_ret _ _ _ _ (@pe_tup _ _ _ _ _ (@pa_cons _ _ _ _ _ (pv 2) (@pa_cons _ _ _ _ _ (pv 4) (@pa_cons _ _ _ _ _ (pe_meth (pv 0) T.cl_Pairs T.me_Pairs_picks_by (ok_Pairs_picks_by T) (hr.mono (by decide)) T.b_Pairs_picks_by .nil pass0 (@pa_cons _ _ _ _ _ (pv 5) pa_nil (by rfl))) pa_nil (by rfl)) (by rfl)) (by rfl)))))))))), ?_⟩
  obtain ⟨dx, la, k1, k2⟩ := id md.is
  have h1 := md.h1
  have h12 := md.h12
  and_intros
  refine ⟨a, _, dx, _, _, rfl, k1, T.cl_Pairs, T.na_Pairs_hands, rfl, ?_⟩
  and_intros
  refine ⟨l, ls, h, rfl, hl, gl, l60, h1, h12, fun b as H1 hb s1 nb wb eb tb => ?_⟩
  and_intros
  refine ⟨b, as, h, _, rfl, eb, tb, h12, fun c cs H2 hc nc wc s2 ec tc => ?_⟩
  have eb := s2 _ _ eb
  have tb : TabF H2 as h (ovF ls) := tb.same s2
  have tc : TabF H2 cs h (leadF ls) := tc
  have s2 := s1.trans s2
  have lt2 := lt.same s2
  refine ⟨(by show 0 ≤ sizeLine; decide), fun sh hsh => ?_⟩
  have s3 := same_new hsh (.lst [])
  have e3 : (upd H2 sh (.lst [])) sh = some (.lst (vrw [])) := upd_same
  generalize upd H2 sh (.lst []) = H3 at e3 s3 ⊢
  refine ⟨(by show 0 ≤ sizeLine; decide), fun sg hsg => ?_⟩
  have s4 := same_new hsg (.lst [])
  have e4 : (upd H3 sg (.lst [])) sg = some (.lst (([] : Us).map fun r => V.ref r.1)) := upd_same
  have ss : sg ≠ sh := fun z => by rw [z, e3] at hsg; cases hsg
  have e34 := s4 _ _ e3
  have hsg2 := none_of s3 hsg
  have s4 := s3.trans s4
  generalize upd H3 sg (.lst []) = H4 at e4 e34 s4 ⊢
  refine ⟨_, rfl, a, _, dx, _, _, rfl, (s2.trans s4) _ _ k1, T.cl_Pairs, T.na_Pairs_hands, rfl, ?_⟩
  refine ⟨(h : Int), rfl, by omega, by omega, for_range (fun i σ' H' => ∃ (v6 v7 : Option V) (rows : List Rw) (us : Us), σ' = [some (V.ref a), some (.ref l), some (.ref b), some (.ref c), some (.ref sh), some (.ref sg), v6, v7] ∧ Sm H2 H' ∧ (LamQ ad.lP h H2 → Same H2 H') ∧ LT ad.lP H' ∧ (0 < i → LamQ ad.lP h H') ∧ H' sh = some (.lst (vrw rows)) ∧ H' sg = some (.lst (us.map fun r => V.ref r.1)) ∧ us.length = i ∧ (us.map (·.1)).Nodup ∧ rows.map (fun q => (q.x, q.y)) = pairsOf h i ∧ (∀ q ∈ rows, RwOk h (leadF ls) (fU us) H' q ∧ q.x < i ∧ q.w ≠ sh ∧ q.w ≠ sg) ∧ (∀ k r, us[k]? = some r → r.1 ≠ sh ∧ r.1 ≠ sg ∧ H' r.1 = some (.lst (r.2.map V.int)) ∧ ∃ bf, Reach h k (leadF ls) r.2 bf)) ⟨none, none, [], [], rfl, Sm.of s4, (fun _ => s4), lt2.same s4, (fun z => absurd z (Nat.lt_irrefl 0)), e34, e4, rfl, List.nodup_nil, rfl, (fun _ m => nomatch m), fun k r e => by cases e⟩ ?_ ?_⟩
  · rintro i σ' H5 hi ⟨v6, v7, rows, us, rfl, sm, sq, lt5, lq5, esh, esg, ul, und, rp, rok, uok⟩
    have ei : (0 : Int) + (i : Int) = (i : Int) := Int.zero_add _
    have hi' : i < h := by omega
    have rl : rows.length ≤ 144 := by
      have a1 := congrArg List.length rp
      rw [List.length_map] at a1
      have a2 := pairsOf_len (h := h) (n := i) (by omega)
      have a3 : i * h ≤ 12 * 12 := Nat.mul_le_mul (by omega) h12
      omega
    and_intros
    refine ⟨c, cs, h, i, leadF ls, (by rw [ei]; rfl), sm.lst ec, tc.sm sm, hi', h12, lt5, fun t bb f be bf H6 sm6 sq6 lq6 ht hbb hff bfn et ebb eff re => ?_⟩
    have bsh : bb ≠ sh := fun z => by rw [z, esh] at hbb; cases hbb
    have bsg : bb ≠ sg := fun z => by rw [z, esg] at hbb; cases hbb
    have nbu : bb ∉ us.map (·.1) := fun m => by
      obtain ⟨r, mr, e⟩ := List.mem_map.mp m
      obtain ⟨k, hk⟩ := List.getElem?_of_mem mr
      have := (uok k r hk).2.2.1
      rw [e, hbb] at this
      cases this
    have esh := sm6.lst esh
    have esg := sm6.lst esg
    and_intros
    refine ⟨.inl ⟨rfl, _, SqL.of esh⟩, ?_⟩
    and_intros
    refine ⟨t, h, i, leadF ls, be, (by rw [ei]; rfl), ⟨bb, f, bf, et, ebb, eff, re⟩, hi', h12, fun r2 rows2 H7 hr2 s7 e7 ok7 mp7 => ?_⟩
    have esh7 := s7 _ _ esh
    have esg7 := s7 _ _ esg
    have r2l : rows2.length ≤ 12 := by
      have a1 := congrArg List.length mp7
      rw [List.length_map, List.length_map] at a1
      have : (butN h i).length ≤ h := Nat.le_trans (List.length_filter_le _ _) (by rw [List.length_range]; exact Nat.le_refl _)
      omega
    refine ⟨sh, r2, _, _, rfl, rfl, esh7, e7, (by rw [vrw_len, vrw_len]; exact Nat.le_of_lt (small1000 (by omega))), ?_⟩
    rw [← vrw_append]
    have t8 : ∀ {z : Addr} {xs : List V}, H7 z = some (.tup xs) → (upd H7 sh (.lst (vrw (rows ++ rows2)))) z = some (.tup xs) := fun e => by rw [upd_ne (fun y => by rw [y, esh7] at e; cases e)]; exact e
    have l8 : ∀ {z : Addr} {xs : List V}, z ≠ sh → H7 z = some (.lst xs) → (upd H7 sh (.lst (vrw (rows ++ rows2)))) z = some (.lst xs) := fun n e => by rw [upd_ne n]; exact e
    have esh8 : (upd H7 sh (.lst (vrw (rows ++ rows2)))) sh = some (.lst (vrw (rows ++ rows2))) := upd_same
    have sm8 := ((sm.trans sm6).trans (Sm.of s7)).put (o := .lst (vrw (rows ++ rows2))) hsh
    have sq8 : LamQ ad.lP h H2 → Same H2 (upd H7 sh (.lst (vrw (rows ++ rows2)))) := fun z => same_upd (((sq z).trans (sq6 (z.same (sq z)))).trans s7) hsh
    have lq8 : LamQ ad.lP h (upd H7 sh (.lst (vrw (rows ++ rows2)))) := (lq6.same s7).put esh7
    generalize upd H7 sh (.lst (vrw (rows ++ rows2))) = H8 at t8 l8 esh8 sm8 sq8 lq8 ⊢
    have esg8 := l8 ss esg7
    have et8 := t8 (s7 _ _ et)
    and_intros
    refine ⟨.inl ⟨rfl, _, SqL.of esg8⟩, ?_⟩
    and_intros
    refine ⟨sg, _, _, rfl, rfl, esg8, (by rw [List.length_map]; exact small1000 (by omega)), ?_⟩
    have t9 : ∀ {z : Addr} {xs : List V}, H8 z = some (.tup xs) → (upd H8 sg (.lst (us.map (fun r => V.ref r.1) ++ [V.ref bb]))) z = some (.tup xs) := fun e => by rw [upd_ne (fun y => by rw [y, esg8] at e; cases e)]; exact e
    have l9 : ∀ {z : Addr} {xs : List V}, z ≠ sg → H8 z = some (.lst xs) → (upd H8 sg (.lst (us.map (fun r => V.ref r.1) ++ [V.ref bb]))) z = some (.lst xs) := fun n e => by rw [upd_ne n]; exact e
    refine ⟨_, _, rows ++ rows2, us ++ [(bb, be)], rfl, sm8.put hsg2, (fun z => same_upd (sq8 z) hsg2), (lq8.put esg8).1, (fun _ => lq8.put esg8), l9 (Ne.symm ss) esh8, by rw [upd_same, List.map_append]; rfl, by rw [List.length_append, ul]; rfl, ?_, by rw [List.map_append, rp, mp7, pairsOf_succ], fun q0 m => ?_, fun k r e => ?_⟩
    · rw [List.map_append]
      exact List.nodup_append.mpr ⟨und, by simp, fun x mx y my e => nbu (by rw [← show y = bb from List.mem_singleton.mp my, ← e]; exact mx)⟩
    · rcases List.mem_append.mp m with m | m
      · obtain ⟨r0, r1, r3, r4⟩ := rok q0 m
        have r0 := (r0.sm sm6).same s7
        have r0 := r0.congr (F' := fU (us ++ [(bb, be)])) fun y _ => (fU_old (by omega) y).symm
        exact ⟨⟨t9 (t8 r0.tup), l9 r4 (l8 r3 r0.way), r0.hx, r0.hy, r0.ne, r0.str, r0.isw, r0.cutE⟩, by omega, r3, r4⟩
      · obtain ⟨r0, r1, r3, r4⟩ := ok7 q0 m
        have r5 : q0.w ≠ sh := fun z => by rw [z, esh] at r4; cases r4
        have r6 : q0.w ≠ sg := fun z => by rw [z, esg] at r4; cases r4
        have r0 := r0.congr (F' := fU (us ++ [(bb, be)])) fun y _ => by rw [r1, ← ul]; exact (fU_new (us := us) (r := (bb, be)) y).symm
        exact ⟨⟨t9 (t8 r0.tup), l9 r6 (l8 r5 r0.way), r0.hx, r0.hy, r0.ne, r0.str, r0.isw, r0.cutE⟩, by omega, r5, r6⟩
    · by_cases cc : k < us.length
      · rw [List.getElem?_append_left cc] at e
        obtain ⟨u1, u2, u3, u4⟩ := uok k r e
        exact ⟨u1, u2, l9 u2 (l8 u1 (s7 _ _ (sm6.lst u3))), u4⟩
      · rw [List.getElem?_append_right (by omega)] at e
        have ek : k = i := by
          have := (List.getElem?_eq_some_iff.mp e).1
          rw [List.length_singleton] at this
          omega
        rw [ek, ul, Nat.sub_self] at e
        cases Option.some.inj e
        exact ⟨bsh, bsg, l9 bsg (l8 bsh (s7 _ _ ebb)), bf, by rw [ek]; exact re⟩
  · rintro σ' H5 ⟨v6, v7, rows, us, rfl, sm, sq, lt5, lq5, esh, esg, ul, und, rp, rok, uok⟩
    rw [Int.toNat_natCast] at ul rp lq5
    have tu : TabF H5 (us.map (·.1)) h (fU us) := ⟨by rw [List.length_map, ul], und, fun x z hz => by
      rw [List.getElem?_map] at hz
      obtain ⟨r, hr0, rfl⟩ := Option.map_eq_some_iff.mp hz
      obtain ⟨_, _, u3, bf, re⟩ := uok x r hr0
      rw [fU_row hr0 re.lenb]
      exact u3⟩
    have st : Strong h (leadF ls) (fU us) := fun x hx => by
      obtain ⟨r, hr0⟩ : ∃ r, us[x]? = some r := ⟨_, List.getElem?_eq_getElem (by omega)⟩
      obtain ⟨_, _, _, bf, re⟩ := uok x r hr0
      exact ⟨bf, by rw [fU_row hr0 re.lenb]; exact re⟩
    have smH := (Sm.of s2).trans sm
    have md5 := md.sm smH
    obtain ⟨dx5, la5, k15, k25⟩ := id md5.is
    and_intros
    refine ⟨a, dx5, _, rfl, k15, rfl, ?_⟩
    and_intros
    refine ⟨a, sg, us.map (·.1), h, s, ns, leadF ls, fU us, rfl, md5, (by rw [esg, List.map_map]; rfl), tu, st, fun pk H6 hpk s6 epk => ?_⟩
    refine ⟨(by show 3 ≤ sizeLine; decide), fun p hp => ?_⟩
    have s7 := same_new hp (.tup [V.ref b, V.ref sh, V.ref pk])
    have s67 := s6.trans s7
    exact q p (fU us) _ (smH.trans (Sm.of s67)) (fun z => ((s2.trans (sq (z.same s2))).trans s67)) ((lq5 h1).same s67) (smH.gone p (none_of s6 hp)) ⟨⟨b, sh, pk, as, rows, upd_same, s67 _ _ (sm.lst eb), (tb.sm sm).same s67, s67 _ _ esh, fun q0 m => (rok q0 m).1.same s67, rp, s7 _ _ epk⟩, st⟩
theorem ok_Way_outcome (T : Tx K mg base ad) : FnOk P w K mg base CX0 5 ad.f_Way_outcome ad.d_Way_outcome ["self", "sheet"] (spOutP ad.c_Pairs ad.lP) := by
  refine T.F_Way_outcome.ok sc_Way_outcome (fun vs H Q E h => ?_) (fun cdv A outer s H vs Q E hr h => ?_)
  · obtain ⟨a, l, h, s, ns, ls, rfl, _⟩ := h
    rfl
  obtain ⟨a, l, h, s, ns, ls, rfl, md, hl, gl, l60, lt, q⟩ := h
  refine ⟨_, (@pss_one _ _ _ (@ps_ret _ _ _ _ (pe_meth (pv 0) T.cl_Pairs T.me_Pairs_told_by (ok_Pairs_told_by T) (hr.mono (by decide)) T.b_Pairs_told_by .nil pass0 (@pa_cons _ _ _ _ _ (pe_meth (pv 0) T.cl_Pairs T.me_Pairs_counted (ok_Pairs_counted T) (hr.mono (by decide)) T.b_Pairs_counted .nil pass0 (@pa_cons _ _ _ _ _ (pv 1) pa_nil (by rfl))) pa_nil (by rfl))))), ?_⟩
  obtain ⟨dx, la, k1, k2⟩ := id md.is
  refine ⟨_, rfl, a, dx, _, rfl, k1, rfl, ?_⟩
  refine ⟨_, rfl, a, dx, _, rfl, k1, rfl, _, rfl, a, l, h, s, ns, ls, rfl, md, hl, gl, l60, lt, fun p F H1 sm sq lq hp pap => ?_⟩
  exact ⟨a, p, h, s, ns, ls, F, rfl, md.sm sm, pap, fun r H2 hr s2 e2 => q r F H2 (sm.trans (Sm.of s2)) (fun z => (sq z).trans s2) (lq.same s2) e2 pap.strong⟩
theorem ok_Pairs_beats (T : Tx K mg base ad) : FnOk P w K mg base CX0 5 ad.f_Pairs_beats ad.d_Pairs_beats ["self", "sheet", "x", "y"] (spBeats ad.c_Pairs ad.lP) := by
  refine T.F_Pairs_beats.ok sc_Pairs_beats (fun vs H Q E h => ?_) (fun cdv A outer s H vs Q E hr h => ?_)
  · obtain ⟨a, l, h, s, x, y, ns, ls, rfl, _⟩ := h
    rfl
  obtain ⟨a, l, h, s, x, y, ns, ls, rfl, md, hl, gl, l60, lt, hx, hy, q⟩ := h
  refine ⟨_, (@pss_one _ _ _ (@ps_ret _ _ _ _ (@pe_call _ _ _ _ _ _ _ _ _ _ _ _ _ _ _ _ (ok_is_beaten T) (hr.mono (by decide)) rfl T.m_is_beaten T.F_is_beaten.kp T.b_is_beaten .nil pass0 (@pa_cons _ _ _ _ _ (pe_meth (pv 0) T.cl_Pairs T.me_Pairs_strengths_of (ok_Pairs_strengths_of T) (hr.mono (by decide)) T.b_Pairs_strengths_of .nil pass0 (@pa_cons _ _ _ _ _ (pv 1) pa_nil (by rfl))) (@pa_cons _ _ _ _ _ (pv 3) (@pa_cons _ _ _ _ _ (@pe_lst _ _ _ _ (@pa_cons _ _ _ _ _ (pv 2) pa_nil (by rfl))) pa_nil (by rfl)) (by rfl)) (by rfl)) (by decide) (by rfl) (by rfl)))), ?_⟩
  obtain ⟨dx, la, k1, k2⟩ := id md.is
  and_intros
  refine ⟨a, dx, _, rfl, k1, rfl, ?_⟩
  and_intros
  refine ⟨a, l, h, s, ns, ls, rfl, md, hl, gl, l60, lt, fun r rs F H1 sm sq lq hr er tr st => ?_⟩
  and_intros
  refine ⟨(by show 1 ≤ sizeLine; decide), fun o ho => ?_⟩
  have s2 := same_new ho (.lst [V.int (x : Int)])
  have e2 : (upd H1 o (.lst [V.int (x : Int)])) o = some (.lst ([(x : Int)].map V.int)) := upd_same
  generalize upd H1 o (.lst [V.int (x : Int)]) = H2 at s2 e2 ⊢
  and_intros
  refine ⟨r, o, rs, h, y, F, [(x : Int)], rfl, s2 _ _ er, tr.same s2, hy, e2, (fun z mz => ⟨x, hx, List.mem_singleton.mp mz⟩), (by show 1 ≤ 60; decide), fun H3 s3 => ?_⟩
  rw [show beaten F (y : Int) [(x : Int)] = decide (F y x < F x y) from (by unfold beaten; simp [beatI])]
  have s23 := s2.trans s3
  exact q F H3 (sm.trans (Sm.of s23)) (fun z => (sq z).trans s23) (lq.same s23) st
theorem ok_law_beaten (T : Tx K mg base ad) : FnOk P w K mg base CX0 6 ad.f_law_beaten ad.d_law_beaten ["_law_way", "_law_sheet_here", "_law_inner", "_law_cell_here"] (spBeatenL ad.c_Pairs ad.lP) := by
  refine T.F_law_beaten.ok sc_law_beaten (fun vs H Q E h => ?_) (fun cdv A outer s H vs Q E hr h => ?_)
  · obtain ⟨a, l, p, h, s, ns, ls, I, z, rfl, _⟩ := h
    rfl
  obtain ⟨a, l, p, h, s, ns, ls, I, z, rfl, md, hl, gl, l60, lq, hp, mj, z0, z1, q⟩ := h
  refine ⟨_, (@pss_cons _ _ _ _ _ (ps_setC (j := 4) (fsc := defScope s_law_beaten) (N := ["_law_way", "_law_sheet_here", "_law_inner", "_law_cell_here", "_law_outer", "_law_k", "_law_other"]) (Nc := ["_law_way", "_law_sheet_here", "_law_inner", "_law_cell_here", "_law_outer", "_law_k", "_law_other", "_law_hand"]) rfl rfl ⟨rfl, by decide +kernel, by decide +kernel, rfl, by decide +kernel, rfl, by decide +kernel, rfl, by decide +kernel⟩ rfl sc_law_beaten.nd rfl rfl (pi_range1 rfl T.z_range (@pa_cons _ _ _ _ _ (pe_fld (pv 0) rfl) pa_nil (by rfl))) (fun _ _ _ _ => (pif_one (@pt_cmpR _ _ _ _ _ _ _ _ (op_notIn_seqK K) (pv 7) (pv 2) (by with_unfolding_all rfl)))) (fun _ _ _ _ => (pv 7)) rfl) (@pss_cons _ _ _ _ _ (@ps_if _ _ _ _ _ _ _ _ (@pt_cmpR _ _ _ _ _ _ _ _ (op_eqD (K := K) hr.units) (pv 4) (@pe_lst _ _ _ _ pa_nil) (nomark _)) (@pss_one _ _ _ (@ps_ret _ _ _ _ pe_bl)) pss_nil) (@pss_cons _ _ _ _ _ (ps_for PassesOwn.never rfl (pi_range1 rfl T.z_range (@pa_cons _ _ _ _ _ (@pe_callB _ _ _ _ _ _ _ _ _ call_len_seq (by rfl) T.z_len PySem.boot_len (@pa_cons _ _ _ _ _ (pv 2) pa_nil (by rfl)) (by decide) (by decide) (by rfl) (by rfl)) pa_nil (by rfl))) (pg_name (i := 5) sc_law_beaten.nd rfl (Or.inl rfl)) (@pss_cons _ _ _ _ _ (@ps_set _ _ (6) _ _ _ _ sc_law_beaten.nd rfl (Or.inl rfl) (@pe_ix _ _ _ _ _ _ _ ix_list (pv 4) (@pe_op _ _ _ _ _ _ _ _ op_modN (@pe_op _ _ _ _ _ _ _ _ op_add (pv 3) (pv 5)) (@pe_callB _ _ _ _ _ _ _ _ _ call_len_seq (by rfl) T.z_len PySem.boot_len (@pa_cons _ _ _ _ _ (pv 4) pa_nil (by rfl)) (by decide) (by decide) (by rfl) (by rfl))) (fun _ _ => rfl)) (by rfl) (by first | exact .inl rfl | exact .inr rfl | assumption)) (@pss_one _ _ _ (@ps_if _ _ _ _ _ _ _ _ (PW.pt (@pw_or _ _ _ _ _ _ _ (@pt_cmpR _ _ _ _ _ _ _ _ op_notB (pe_meth (pv 0) T.cl_Pairs T.me_Pairs_beats (ok_Pairs_beats T) (hr.mono (by decide)) T.b_Pairs_beats .nil pass0 (@pa_cons _ _ _ _ _ (pv 1) (@pa_cons _ _ _ _ _ (@pe_ix _ _ _ _ _ _ _ ix_list (pv 2) (pv 5) (fun _ _ => rfl)) (@pa_cons _ _ _ _ _ (pv 6) pa_nil (by rfl)) (by rfl)) (by rfl))) pe_bl (nomark _)) (@pw_or1 _ _ _ _ (@pt_cmpR _ _ _ _ _ _ _ _ op_notB (pe_meth (pv 0) T.cl_Pairs T.me_Pairs_beats (ok_Pairs_beats T) (hr.mono (by decide)) T.b_Pairs_beats .nil pass0 (@pa_cons _ _ _ _ _ (pv 1) (@pa_cons _ _ _ _ _ (pv 6) (@pa_cons _ _ _ _ _ (@pe_ix _ _ _ _ _ _ _ ix_list (pv 2) (pv 5) (fun _ _ => rfl)) pa_nil (by rfl)) (by rfl)) (by rfl))) pe_bl (nomark _))))) (@pss_one _ _ _ (@ps_ret _ _ _ _ pe_bl)) pss_nil)))) (@pss_one _ _ _ (@ps_ret _ _ _ _ pe_bl))))), ?_⟩
  obtain ⟨dx, la, k1, k2⟩ := id md.is
  have h1 := md.h1
  have h12 := md.h12
  have szz := sz40 z0 z1
  and_intros
  refine ⟨a, _, dx, _, _, rfl, k1, T.cl_Pairs, T.na_Pairs_hands, rfl, ?_⟩
  refine ⟨_, rfl, by omega, by omega, ?_⟩
  rw [Int.toNat_natCast]
  refine comp_range (small63 (by omega)) (fun D i ys J => ys = (hands i fun j => !I j).map V.int ∧ J = upd H D (.lst ys)) (fun D hD => ⟨rfl, rfl⟩) (fun D i ys J ⟨g1, g2⟩ => ⟨by rw [g2]; exact upd_same, by rw [g1, List.length_map]; exact hands_len _ _⟩) ?_ ?_
  · rintro D i ys J K1 K2 hD hi ⟨g1, rfl⟩ kk1 kk2
    have e0 : (0 : Int) + (i : Int) = (i : Int) := Int.zero_add _
    have s1 := same_new hD (.lst ys)
    have hp1 := s1 _ _ hp
    have hi' : i < h := hi
    have ms := hands_succ i (fun j => !I j)
    rw [e0]
    and_intros
    refine ⟨all_flat _, ?_⟩
    by_cases c : (i : Int) ∈ hands h I
    · rw [nin_no c]
      refine ⟨_, rfl, ?_⟩
      refine ifF rfl ?_
      rw [(hands_in hi').mp c, if_neg (by decide)] at ms
      exact kk2 _ ⟨by rw [ms]; exact g1, rfl⟩
    · rw [nin_yes c]
      refine ⟨_, rfl, ?_⟩
      refine ifT rfl ?_
      have ni : I i = false := Bool.eq_false_iff.mpr fun k => c ((hands_in hi').mpr k)
      rw [ni, if_pos (by decide)] at ms
      refine ⟨_, rfl, ?_⟩
      refine kk1 _ _ upd_same ⟨?_, by rw [upd_upd]⟩
      rw [ms, List.map_append, g1]
      rfl
  rintro D ys H1 hD ⟨rfl, rfl⟩
  have s1 := same_new hD (.lst ((hands h fun j => !I j).map V.int))
  have e1 : (upd H D (.lst ((hands h fun j => !I j).map V.int))) D = some (.lst ((hands h fun j => !I j).map V.int)) := upd_same
  generalize upd H D (.lst ((hands h fun j => !I j).map V.int)) = H1 at s1 e1 ⊢
  refine ⟨_, rfl, (by show 0 ≤ sizeLine; decide), fun z3 hz3 => ?_⟩
  have s2 := same_new hz3 (.lst [])
  have e2 : (upd H1 z3 (.lst [])) z3 = some (.lst (([] : List Int).map V.int)) := upd_same
  generalize upd H1 z3 (.lst []) = H2 at s2 e2 ⊢
  have s12 := s1.trans s2
  refine ⟨.list ((hands h fun j => !I j).map .int), .list (([] : List Int).map .int), .lst (SqL.of (s2 _ _ e1)) (.ints _), .lst (SqL.of e2) (.ints []), (shape_ints _).2, (shape_ints _).2, ?_⟩
  rw [show PyData.eqv (.list ((hands h fun j => !I j).map .int)) (.list (([] : List Int).map .int)) = decide ((hands h fun j => !I j) = []) from eqv_ints _ _]
  refine ⟨_, rfl, ?_⟩
  by_cases c : (hands h fun j => !I j) = []
  · refine ifT (decide_eq_true c) ?_
    exact q _ s12
  refine ifF (decide_eq_false c) ?_
  have ol : 0 < (hands h fun j => !I j).length := List.length_pos_iff.mpr c
  have hp2 := s12 _ _ hp
  have e1' := s2 _ _ e1
  have il := hands_len h I
  have lm : ((hands h fun j => !I j).map V.int).length = (hands h fun j => !I j).length := List.length_map _
  and_intros
  refine ⟨by omega, by rw [List.length_map]; omega, for_range (fun i σ' H' => ∃ v5 v6 : Option V, σ' = [some (.ref a), some (.ref l), some (.ref p), some (.int z), some (.ref D), v5, v6] ∧ Same H2 H') ⟨none, none, rfl, fun _ _ e => e⟩ ?_ ?_⟩
  · rintro k σ' H3 hk ⟨v5, v6, rfl, s3⟩
    have hk' : k < (hands h I).length := by rw [List.length_map] at hk; omega
    have ex : (0 : Int) + (k : Int) = (k : Int) := Int.zero_add _
    obtain ⟨xx, hxx⟩ : ∃ x, (hands h I)[k]? = some x := ⟨_, List.getElem?_eq_getElem hk'⟩
    obtain ⟨x, hx, ix, rfl⟩ := hands_mem.mp (List.mem_of_getElem? hxx)
    have D3 := s3 _ _ e1'
    have p3 := s3 _ _ hp2
    have mo := fmod_in (z + (0 + (k : Int))) (show (0 : Int) < (((hands h fun j => !I j).map V.int).length : Int) by omega)
    obtain ⟨j, hj⟩ : ∃ j : Nat, (z + (0 + (k : Int))).fmod (((hands h fun j => !I j).map V.int).length : Int) = (j : Int) := ⟨_, (Int.toNat_of_nonneg mo.1).symm⟩
    obtain ⟨yy, hyy⟩ : ∃ y, (hands h fun j => !I j)[j]? = some y := ⟨_, List.getElem?_eq_getElem (by omega)⟩
    obtain ⟨y, hy, iy, rfl⟩ := hands_mem.mp (List.mem_of_getElem? hyy)
    have iy' : I y = false := by simpa using iy
    and_intros
    refine ⟨(by show (_ : Int) ≠ 0; omega), ?_⟩
    refine ⟨D, _, _, _, rfl, rfl, SqL.of D3, (by rw [hj]; exact atN hyy), ?_⟩
    have s13 := s12.trans s3
    have md3 := md.same s13
    have lq3 := lq.same s13
    obtain ⟨dx3, la3, m3, m4⟩ := id md3.is
    and_intros
    refine ⟨a, dx3, _, rfl, m3, rfl, ?_⟩
    refine ⟨_, rfl, _, rfl, _, rfl, p, _, _, _, rfl, rfl, SqL.of p3, (by rw [ex]; exact atN hxx), ?_⟩
    refine ⟨_, rfl, a, l, h, s, x, y, ns, ls, rfl, md3, s13 _ _ hl, gl.same s13, l60, lq3.1, hx, hy, fun F H4 _ sq4 lq4 st => ?_⟩
    have s4 := sq4 lq3
    have ss := st.sets mj hx hy ix iy'
    rw [decide_eq_true (show F y x < F x y by omega)]
    refine ⟨_, _, rfl, rfl, _, rfl, ?_⟩
    refine ifF rfl ?_
    have s14 := s13.trans s4
    have md4 := md.same s14
    have p4 := s4 _ _ p3
    obtain ⟨dx4, la4, m5, m6⟩ := id md4.is
    refine ⟨_, rfl, a, dx4, _, rfl, m5, rfl, ?_⟩
    refine ⟨_, rfl, _, rfl, _, rfl, _, rfl, p, _, _, _, rfl, rfl, SqL.of p4, (by rw [ex]; exact atN hxx), ?_⟩
    refine ⟨a, l, h, s, y, x, ns, ls, rfl, md4, s14 _ _ hl, gl.same s14, l60, lq4.1, hy, hx, fun F2 H5 _ sq5 lq5 st2 => ?_⟩
    have s5 := sq5 lq4
    have ss2 := st2.sets mj hx hy ix iy'
    rw [decide_eq_false (show ¬ F2 x y < F2 y x by omega)]
    refine ⟨_, _, rfl, rfl, _, rfl, ?_⟩
    refine ifF rfl ?_
    exact ⟨_, _, rfl, (s3.trans s4).trans s5⟩
  · rintro σ' H3 ⟨v5, v6, rfl, s3⟩
    exact q _ (s12.trans s3)
theorem ok_law (T : Tx K mg base ad) : FnOk P w K mg base CX0 7 ad.f_law ad.d_law ["_law_script"] (spLaw K ad.lP) := by
  refine T.F_law.ok sc_law (fun vs H Q E h => ?_) (fun cdv A outer s H vs Q E hr h => ?_)
  · obtain ⟨p, ns, rfl, _⟩ := h
    rfl
  obtain ⟨p, ns, rfl, hS, h63, hP, q⟩ := h
  refine ⟨_, (@pss_cons _ _ _ _ _ (@ps_set _ _ (1) _ _ _ _ sc_law.nd rfl (Or.inl rfl) (@pe_call _ _ _ _ _ _ _ _ _ _ _ _ _ _ _ _ (ok_law_cell T) (hr.mono (by decide)) rfl T.m_law_cell T.F_law_cell.kp T.b_law_cell .nil pass0 (@pa_cons _ _ _ _ _ (pv 0) (@pa_cons _ _ _ _ _ pe_int pa_nil (by rfl)) (by rfl)) (by decide) (by rfl) (by rfl)) (by rfl) (by first | exact .inl rfl | exact .inr rfl | assumption)) (@pss_cons _ _ _ _ _ (@ps_set _ _ (2) _ _ _ _ sc_law.nd rfl (Or.inl rfl) (@pe_op _ _ _ _ _ _ _ _ op_add pe_int (@pe_op _ _ _ _ _ _ _ _ op_modN (pv 1) pe_int)) (by rfl) (by first | exact .inl rfl | exact .inr rfl | assumption)) (@pss_cons _ _ _ _ _ (@ps_set _ _ (3) _ _ _ _ sc_law.nd rfl (Or.inl rfl) (@pe_op _ _ _ _ _ _ _ _ op_add pe_int (@pe_op _ _ _ _ _ _ _ _ op_modN (@pe_op _ _ _ _ _ _ _ _ op_fdivB (pv 1) pe_int) pe_int)) (by rfl) (by first | exact .inl rfl | exact .inr rfl | assumption)) (@pss_cons _ _ _ _ _ (@ps_set _ _ (4) _ _ _ _ sc_law.nd rfl (Or.inl rfl) (pe_make T.mk_Pairs (ok_Way_init T) (hr.mono (by decide)) rfl T.m_Pairs T.b_Way_init .nil pass0 (@pa_cons _ _ _ _ _ (pv 2) (@pa_cons _ _ _ _ _ (pv 3) (@pa_cons _ _ _ _ _ (@pe_call _ _ _ _ _ _ _ _ _ _ _ _ _ _ _ _ (ok_law_order T) (hr.mono (by decide)) rfl T.m_law_order T.F_law_order.kp T.b_law_order .nil pass0 (@pa_cons _ _ _ _ _ (@pe_call _ _ _ _ _ _ _ _ _ _ _ _ _ _ _ _ (ok_law_cell T) (hr.mono (by decide)) rfl T.m_law_cell T.F_law_cell.kp T.b_law_cell .nil pass0 (@pa_cons _ _ _ _ _ (pv 0) (@pa_cons _ _ _ _ _ pe_int pa_nil (by rfl)) (by rfl)) (by decide) (by rfl) (by rfl)) (@pa_cons _ _ _ _ _ (pv 2) pa_nil (by rfl)) (by rfl)) (by decide) (by rfl) (by rfl)) pa_nil (by rfl)) (by rfl)) (by rfl))) (by rfl) (by first | exact .inl rfl | exact .inr rfl | assumption)) (@pss_cons _ _ _ _ _ (@ps_set _ _ (5) _ _ _ _ sc_law.nd rfl (Or.inr rfl) (@pe_op _ _ _ _ _ _ _ _ op_add pe_int (@pe_op _ _ _ _ _ _ _ _ op_modN (@pe_call _ _ _ _ _ _ _ _ _ _ _ _ _ _ _ _ (ok_law_cell T) (hr.mono (by decide)) rfl T.m_law_cell T.F_law_cell.kp T.b_law_cell .nil pass0 (@pa_cons _ _ _ _ _ (pv 0) (@pa_cons _ _ _ _ _ pe_int pa_nil (by rfl)) (by rfl)) (by decide) (by rfl) (by rfl)) (@pe_op _ _ _ _ _ _ _ _ op_sub (@pe_op _ _ _ _ _ _ _ _ op_shl pe_int (pv 2)) pe_int))) (by rfl) (by first | exact .inl rfl | exact .inr rfl | assumption)) (@pss_cons _ _ _ _ _ (@ps_set _ _ (6) _ _ _ _ sc_law.nd rfl (Or.inr rfl) (pe_comp (fsc := defScope s_law) (N := ["_law_script", "_law_first", "_law_hands", "_law_seats", "_law_way", "_law_mask", "_law_inner", "_law_sheet_here", "_law_found", "_law_picks"]) (Nc := ["_law_script", "_law_first", "_law_hands", "_law_seats", "_law_way", "_law_mask", "_law_inner", "_law_sheet_here", "_law_found", "_law_picks", "_law_hand"]) rfl rfl ⟨rfl, by decide +kernel, by decide +kernel, rfl, by decide +kernel, rfl, by decide +kernel, rfl, by decide +kernel⟩ rfl (pi_range1 rfl T.z_range (@pa_cons _ _ _ _ _ (pv 2) pa_nil (by rfl))) (fun _ _ _ _ => (pif_one (@pt_cmpR _ _ _ _ _ _ _ _ op_eq (@pe_op _ _ _ _ _ _ _ _ op_modN (@pe_op _ _ _ _ _ _ _ _ op_fdivB (pv 5) (@pe_op _ _ _ _ _ _ _ _ op_shl pe_int (pv 10))) pe_int) pe_int (nomark _)))) (fun _ _ _ _ => (pv 10))) (by rfl) (by first | exact .inl rfl | exact .inr rfl | assumption)) (@pss_cons _ _ _ _ _ (@ps_set _ _ (7) _ _ _ _ sc_law.nd rfl (Or.inl rfl) (@pe_call _ _ _ _ _ _ _ _ _ _ _ _ _ _ _ _ (ok_law_sheet T) (hr.mono (by decide)) rfl T.m_law_sheet T.F_law_sheet.kp T.b_law_sheet .nil pass0 (@pa_cons _ _ _ _ _ (@pe_call _ _ _ _ _ _ _ _ _ _ _ _ _ _ _ _ (ok_law_with_set T) (hr.mono (by decide)) rfl T.m_law_with_set T.F_law_with_set.kp T.b_law_with_set .nil pass0 (@pa_cons _ _ _ _ _ (@pe_call _ _ _ _ _ _ _ _ _ _ _ _ _ _ _ _ (ok_law_votes T) (hr.mono (by decide)) rfl T.m_law_votes T.F_law_votes.kp T.b_law_votes .nil pass0 (@pa_cons _ _ _ _ _ (pv 0) (@pa_cons _ _ _ _ _ pe_int (@pa_cons _ _ _ _ _ pe_int (@pa_cons _ _ _ _ _ (pv 2) pa_nil (by rfl)) (by rfl)) (by rfl)) (by rfl)) (by decide) (by rfl) (by rfl)) (@pa_cons _ _ _ _ _ (pv 6) (@pa_cons _ _ _ _ _ (pv 2) (@pa_cons _ _ _ _ _ (@pe_op _ _ _ _ _ _ _ _ op_fdivB (pv 1) pe_int) pa_nil (by rfl)) (by rfl)) (by rfl)) (by rfl)) (by decide) (by rfl) (by rfl)) pa_nil (by rfl)) (by decide) (by rfl) (by rfl)) (by rfl) (by first | exact .inl rfl | exact .inr rfl | assumption)) (@pss_cons _ _ _ _ _ (@ps_set _ _ (8) _ _ _ _ sc_law.nd rfl (Or.inr rfl) (pe_meth (pv 4) T.cl_Pairs T.me_Pairs_outcome (ok_Way_outcome T) (hr.mono (by decide)) T.b_Way_outcome .nil pass0 (@pa_cons _ _ _ _ _ (pv 7) pa_nil (by rfl))) (by rfl) (by first | exact .inl rfl | exact .inr rfl | assumption)) (@pss_cons _ _ _ _ _ (@ps_if _ _ _ _ _ _ _ _ (PW.pt (@pw_or _ _ _ _ _ _ _ (@pt_not _ _ _ _ (@pt_val _ _ _ (@pe_callB _ _ _ _ _ _ _ _ _ call_isi (by rfl) T.z_isinstance PyProof.Rows.boot_isinstance (@pa_cons _ _ _ _ _ (pv 8) (@pa_cons _ _ _ _ _ (pe_bltn (v := .ty "list") rfl T.z_list PyProof.Rows.boot_list rfl) pa_nil (by rfl)) (by rfl)) (by decide) (by decide) (by rfl) (by rfl)) (by intro _; rfl))) (@pw_or _ _ _ _ _ _ _ (@pt_cmpR _ _ _ _ _ _ _ _ op_ne (@pe_callB _ _ _ _ _ _ _ _ _ call_len_seq (by rfl) T.z_len PySem.boot_len (@pa_cons _ _ _ _ _ (pv 8) pa_nil (by rfl)) (by decide) (by decide) (by rfl) (by rfl)) (pv 2) (nomark _)) (@pw_or1 _ _ _ _ (@pt_not _ _ _ _ (@pt_val _ _ _ (@pe_callB _ _ _ _ _ _ _ _ _ (call_all rfl) (by rfl) T.z_all PyProof.Rows.boot_all (@pa_cons _ _ _ _ _ (pe_comp (fsc := defScope s_law) (N := ["_law_script", "_law_first", "_law_hands", "_law_seats", "_law_way", "_law_mask", "_law_inner", "_law_sheet_here", "_law_found", "_law_picks"]) (Nc := ["_law_script", "_law_first", "_law_hands", "_law_seats", "_law_way", "_law_mask", "_law_inner", "_law_sheet_here", "_law_found", "_law_picks", "_law_many"]) rfl rfl ⟨rfl, by decide +kernel, by decide +kernel, rfl, by decide +kernel, rfl, by decide +kernel, rfl, by decide +kernel⟩ rfl (pi_list (pv 8)) (fun _ _ _ _ => pif_nil) (fun _ _ _ _ => (@pe_call _ _ _ _ _ _ _ _ _ _ _ _ _ _ _ _ (ok_law_whole T) (hr.mono (by decide)) rfl T.m_law_whole T.F_law_whole.kp T.b_law_whole .nil pass0 (@pa_cons _ _ _ _ _ (pv 10) pa_nil (by rfl)) (by decide) (by rfl) (by rfl)))) pa_nil (by rfl)) (by decide) (by decide) (by rfl) (by rfl)) (by intro _; rfl))))))) (@pss_one _ _ _ (@ps_ret _ _ _ _ pe_bl)) pss_nil) (@pss_cons _ _ _ _ _ (@ps_if _ _ _ _ _ _ _ _ (PW.pt (@pw_or _ _ _ _ _ _ _ (@pt_not _ _ _ _ (@pt_val _ _ _ (@pe_callB _ _ _ _ _ _ _ _ _ (call_all rfl) (by rfl) T.z_all PyProof.Rows.boot_all (@pa_cons _ _ _ _ _ (pe_comp (fsc := defScope s_law) (N := ["_law_script", "_law_first", "_law_hands", "_law_seats", "_law_way", "_law_mask", "_law_inner", "_law_sheet_here", "_law_found", "_law_picks"]) (Nc := ["_law_script", "_law_first", "_law_hands", "_law_seats", "_law_way", "_law_mask", "_law_inner", "_law_sheet_here", "_law_found", "_law_picks", "_law_many"]) rfl rfl ⟨rfl, by decide +kernel, by decide +kernel, rfl, by decide +kernel, rfl, by decide +kernel, rfl, by decide +kernel⟩ rfl (pi_list (pv 8)) (fun _ _ _ _ => pif_nil) (fun _ _ _ _ => (@pe_cmpR _ _ _ _ _ _ _ _ (op_in_seqK K) (pv 10) (@pe_tup _ _ _ _ _ (@pa_cons _ _ _ _ _ pe_int (@pa_cons _ _ _ _ _ pe_int pa_nil (by rfl)) (by rfl))) (by with_unfolding_all rfl)))) pa_nil (by rfl)) (by decide) (by decide) (by rfl) (by rfl)) (by intro _; rfl))) (@pw_or1 _ _ _ _ (@pt_cmpR _ _ _ _ _ _ _ _ op_ne (@pe_callB _ _ _ _ _ _ _ _ _ (call_sum rfl) (by rfl) T.z_sum PyProof.Rows.boot_sum (@pa_cons _ _ _ _ _ (pv 8) pa_nil (by rfl)) (by decide) (by decide) (by rfl) (by rfl)) (@pe_callB _ _ _ _ _ _ _ _ _ (call_min2 rfl) (by rfl) T.z_min PyProof.Rows.boot_min (@pa_cons _ _ _ _ _ (pv 3) (@pa_cons _ _ _ _ _ (pv 2) pa_nil (by rfl)) (by rfl)) (by decide) (by decide) (by rfl) (by rfl)) (nomark _))))) (@pss_one _ _ _ (@ps_ret _ _ _ _ pe_bl)) pss_nil) (@pss_cons _ _ _ _ _ (@ps_if _ _ _ _ _ _ _ _ (@pt_cmpR _ _ _ _ _ _ _ _ op_ne (@pe_callB _ _ _ _ _ _ _ _ _ (call_sum rfl) (by rfl) T.z_sum PyProof.Rows.boot_sum (@pa_cons _ _ _ _ _ (pe_comp (fsc := defScope s_law) (N := ["_law_script", "_law_first", "_law_hands", "_law_seats", "_law_way", "_law_mask", "_law_inner", "_law_sheet_here", "_law_found", "_law_picks"]) (Nc := ["_law_script", "_law_first", "_law_hands", "_law_seats", "_law_way", "_law_mask", "_law_inner", "_law_sheet_here", "_law_found", "_law_picks", "_law_hand"]) rfl rfl ⟨rfl, by decide +kernel, by decide +kernel, rfl, by decide +kernel, rfl, by decide +kernel, rfl, by decide +kernel⟩ rfl (pi_list (pv 6)) (fun _ _ _ _ => pif_nil) (fun _ _ _ _ => (@pe_ix _ _ _ _ _ _ _ (ix_listK K) (pv 8) (pv 10) (fun _ _ => rfl)))) pa_nil (by rfl)) (by decide) (by decide) (by rfl) (by rfl)) (@pe_callB _ _ _ _ _ _ _ _ _ (call_min2 rfl) (by rfl) T.z_min PyProof.Rows.boot_min (@pa_cons _ _ _ _ _ (pv 3) (@pa_cons _ _ _ _ _ (@pe_callB _ _ _ _ _ _ _ _ _ call_len_seq (by rfl) T.z_len PySem.boot_len (@pa_cons _ _ _ _ _ (pv 6) pa_nil (by rfl)) (by decide) (by decide) (by rfl) (by rfl)) pa_nil (by rfl)) (by rfl)) (by decide) (by decide) (by rfl) (by rfl)) (nomark _)) (@pss_one _ _ _ (@ps_ret _ _ _ _ pe_bl)) pss_nil) (@pss_cons _ _ _ _ _ (@ps_set _ _ (9) _ _ _ _ sc_law.nd rfl (Or.inl rfl) (@pe_ix _ _ _ _ _ _ _ ix_tup (pe_meth (pv 4) T.cl_Pairs T.me_Pairs_counted (ok_Pairs_counted T) (hr.mono (by decide)) T.b_Pairs_counted .nil pass0 (@pa_cons _ _ _ _ _ (pv 7) pa_nil (by rfl))) pe_int (fun _ _ => rfl)) (by rfl) (by first | exact .inl rfl | exact .inr rfl | assumption)) (@pss_cons _ _ _ _ _ (@ps_if _ _ _ _ _ _ _ _ (@pt_not _ _ _ _ (@pt_val _ _ _ (@pe_callB _ _ _ _ _ _ _ _ _ (call_all rfl) (by rfl) T.z_all PyProof.Rows.boot_all (@pa_cons _ _ _ _ _ (pe_comp (fsc := defScope s_law) (N := ["_law_script", "_law_first", "_law_hands", "_law_seats", "_law_way", "_law_mask", "_law_inner", "_law_sheet_here", "_law_found", "_law_picks"]) (Nc := ["_law_script", "_law_first", "_law_hands", "_law_seats", "_law_way", "_law_mask", "_law_inner", "_law_sheet_here", "_law_found", "_law_picks", "_law_hand"]) rfl rfl ⟨rfl, by decide +kernel, by decide +kernel, rfl, by decide +kernel, rfl, by decide +kernel, rfl, by decide +kernel⟩ rfl (pi_list (pe_slice sl_list (pv 9) po_none (po_some (@pe_callB _ _ _ _ _ _ _ _ _ call_len_seq (by rfl) T.z_len PySem.boot_len (@pa_cons _ _ _ _ _ (pv 6) pa_nil (by rfl)) (by decide) (by decide) (by rfl) (by rfl))))) (fun _ _ _ _ => pif_nil) (fun _ _ _ _ => (@pe_cmpR _ _ _ _ _ _ _ _ (op_in_seqK K) (pv 10) (pv 6) (by with_unfolding_all rfl)))) pa_nil (by rfl)) (by decide) (by decide) (by rfl) (by rfl)) (by intro _; rfl))) (@pss_one _ _ _ (@ps_ret _ _ _ _ pe_bl)) pss_nil) (@pss_one _ _ _ (@ps_ret _ _ _ _ (@pe_call _ _ _ _ _ _ _ _ _ _ _ _ _ _ _ _ (ok_law_beaten T) (hr.mono (by decide)) rfl T.m_law_beaten T.F_law_beaten.kp T.b_law_beaten .nil pass0 (@pa_cons _ _ _ _ _ (pv 4) (@pa_cons _ _ _ _ _ (pv 7) (@pa_cons _ _ _ _ _ (pv 6) (@pa_cons _ _ _ _ _ (@pe_op _ _ _ _ _ _ _ _ op_fdivB (pv 1) pe_int) pa_nil (by rfl)) (by rfl)) (by rfl)) (by rfl)) (by decide) (by rfl) (by rfl))))))))))))))))), ?_⟩
  refine ⟨_, rfl, p, ns, 0, rfl, hS, h63, by decide, by decide, fun c c0 c1 => ?_⟩
  have szc := sz40 c0 c1
  have m5 := fmod_in c (show (0 : Int) < 5 by decide)
  have m6 := fmod_in (c.fdiv 5) (show (0 : Int) < 6 by decide)
  obtain ⟨h, eh⟩ : ∃ h : Nat, (h : Int) = 1 + c.fmod 5 := ⟨(1 + c.fmod 5).toNat, by omega⟩
  obtain ⟨sn, es0⟩ : ∃ s : Nat, (s : Int) = 1 + (c.fdiv 5).fmod 6 := ⟨(1 + (c.fdiv 5).fmod 6).toNat, by omega⟩
  have h1 : 1 ≤ h := by omega
  have h5 : h ≤ 5 := by omega
  have h12 : h ≤ 12 := by omega
  and_intros
  dsimp only
  rw [← eh]
  and_intros
  rw [← es0]
  refine ⟨p, ns, 1, rfl, hS, h63, by decide, by decide, fun c2 c20 c21 => ?_⟩
  refine ⟨_, rfl, c2, (h : Int), rfl, c20, c21, by omega, by omega, fun lo os H0 s0 e0 po => ?_⟩
  rw [Int.toNat_natCast] at po
  intro a dx ha hdx ne
  have k1 : Same H0 (upd (upd H0 dx (.own a)) a (.ins ad.c_Pairs dx [])) := (same_new hdx _).trans (same_new (by rw [upd_ne (Ne.symm ne)]; exact ha) _)
  refine ⟨a, ad.c_Pairs, dx, h, sn, .ref lo, os, rfl, upd_same, T.cl_Pairs, T.na_Pairs_hands, T.na_Pairs_seats, T.na_Pairs_lots, h1, h12, by omega, by omega, .inr ⟨lo, rfl, k1 _ _ e0, po⟩, fun l' H1 _ _ s1 a1 l1 => ?_⟩
  rw [off_upd] at s1
  have s1 := s0.trans ((off_of (same_new hdx (.own a)) ha).trans s1)
  refine ⟨rfl, ?_⟩
  have md : MadeP ad.c_Pairs H1 a h sn os := ⟨⟨dx, l', a1, l1⟩, po, h1, h12, by omega, by omega⟩
  have lt : LT ad.lP H1 := .inl (s1 _ _ hP)
  have p23 : ∀ i : Nat, i ≤ 12 → (0 : Int) < 2 ^ i ∧ (2 : Int) ^ i ≤ 4096 := fun i hi => by
    refine ⟨Int.pow_pos (by decide), ?_⟩
    have a : (2 : Nat) ^ i ≤ 2 ^ 12 := Nat.pow_le_pow_right (by decide) hi
    have e : ((2 ^ i : Nat) : Int) = (2 : Int) ^ i := by simp
    omega
  have p2h : (2 : Int) ≤ 2 ^ h := by
    have a : (2 : Nat) ^ 1 ≤ 2 ^ h := Nat.pow_le_pow_right (by decide) h1
    have e : ((2 ^ h : Nat) : Int) = (2 : Int) ^ h := by simp
    omega
  and_intros
  refine ⟨p, ns, 2, rfl, s1.seq hS, h63, by decide, by decide, fun c3 c30 c31 => ?_⟩
  have szc3 := sz40 c30 c31
  and_intros
  refine ⟨pow_small (by omega), ?_⟩
  refine ⟨_, _, rfl, rfl, _, _, rfl, rfl, (by show (1 : Int) * 2 ^ (h : Int).toNat - 1 ≠ 0; rw [Int.toNat_natCast]; omega), _, _, rfl, rfl, ?_⟩
  dsimp only
  rw [Int.toNat_natCast]
  have mm := fmod_in c3 (show (0 : Int) < 1 * 2 ^ h - 1 by omega)
  obtain ⟨mk, emk⟩ : ∃ m, m = 1 + c3.fmod (1 * 2 ^ h - 1) := ⟨_, rfl⟩
  rw [← emk]
  have szm : Sz 64 mk := by have := (p23 h (by omega)).2; exact sz_of (by omega) (by omega)
  and_intros
  refine ⟨by omega, by omega, ?_⟩
  rw [Int.toNat_natCast]
  refine comp_range (small63 (by omega)) (fun D i ys J => ys = (hands i (bit mk)).map V.int ∧ J = upd H1 D (.lst ys)) (fun D hD => ⟨rfl, rfl⟩) (fun D i ys J ⟨g1, g2⟩ => ⟨by rw [g2]; exact upd_same, by rw [g1, List.length_map]; exact hands_len _ _⟩) ?_ ?_
  · rintro D i ys J K1 K2 hD hi ⟨g1, rfl⟩ kk1 kk2
    have e0 : (0 : Int) + (i : Int) = (i : Int) := Int.zero_add _
    have ms := hands_succ i (bit mk)
    have p2 := (p23 i (by omega)).1
    have p3 := (p23 i (by omega)).2
    rw [e0]
    and_intros
    refine ⟨pow_small (by omega), ?_⟩
    refine ⟨_, _, rfl, rfl, ⟨(by show (1 : Int) * 2 ^ (i : Int).toNat ≠ 0; rw [Int.toNat_natCast]; omega), (show Sz 64 ((1 : Int) * 2 ^ (i : Int).toNat) by rw [Int.toNat_natCast]; exact sz_of (by omega) (by omega)).mono (by decide)⟩, ?_⟩
    dsimp only
    rw [Int.toNat_natCast]
    and_intros
    rw [bit_by]
    cases e : bit mk i with
    | true =>
      refine ifT rfl ?_
      rw [e, if_pos rfl] at ms
      refine ⟨_, rfl, ?_⟩
      refine kk1 _ _ upd_same ⟨?_, by rw [upd_upd]⟩
      rw [ms, List.map_append, g1]
      rfl
    | false =>
      refine ifF rfl ?_
      rw [e, if_neg (by decide)] at ms
      exact kk2 _ ⟨by rw [ms]; exact g1, rfl⟩
  rintro p0 ys H2 hp0 ⟨rfl, rfl⟩
  have s2 := same_new hp0 (.lst ((hands h (bit mk)).map V.int))
  have ep : (upd H1 p0 (.lst ((hands h (bit mk)).map V.int))) p0 = some (.lst ((hands h (bit mk)).map V.int)) := upd_same
  generalize upd H1 p0 (.lst ((hands h (bit mk)).map V.int)) = H2 at s2 ep ⊢
  generalize bit mk = I at ep ⊢
  have md := md.same s2
  have lt := lt.same s2
  have s12 := s1.trans s2
  and_intros
  refine ⟨p, ns, 3, 12, (h : Int), rfl, s12.seq hS, h63, rfl, rfl, by omega, by omega, fun l vo H3 s3 e3 l12 gv nv => ?_⟩
  rw [Int.toNat_natCast] at gv
  have d30 := div40 c0 (show (1 : Int) ≤ 30 by decide) c1
  and_intros
  refine ⟨l, p0, vo, h, I, _, rfl, e3, gv, l12, nv, s3 _ _ ep, h1, h12, d30.1, d30.2, fun lw vo' H4 s4 e4 g4 l4 n4 mv => ?_⟩
  and_intros
  refine ⟨lw, vo', h, rfl, e4, g4, l4, n4, h12, fun sb ls H5 s5 es gl l60 nl ts => ?_⟩
  have s35 := (s3.trans s4).trans s5
  have md := md.same s35
  have lt := lt.same s35
  have ep := s35 _ _ ep
  have mj : Maj h I (leadF ls) := fun x y hx hy ix iy => by
    have e : ∀ {u v : Nat}, u < h → v < h → ovF ls u v = duF vo' u v := fun hu hv => by unfold ovF; rw [ts]; exact du_ahead g4 n4 hu hv
    have := mv x y hx hy ix iy
    unfold leadF
    rw [e hx hy, e hy hx]
    omega
  obtain ⟨dx2, la2, m1, m2⟩ := id md.is
  and_intros
  refine ⟨a, dx2, _, rfl, m1, rfl, ?_⟩
  and_intros
  refine ⟨a, sb, h, sn, os, ls, rfl, md, es, gl, l60, lt, fun r F H6 sm6 _ lq er st => ?_⟩
  have md := md.sm sm6
  have es := sm6.lst es
  have gl : GoodL h H6 ls := fun q m => ⟨sm6.tup (gl q m).1, sm6.tup (gl q m).2.1, (gl q m).2.2⟩
  have ep := sm6.lst ep
  have pk := picks_sets st mj sn os (po.nodup_iff.mpr (ups_nd h)) (fun z m => ups_in (po.mem_iff.mp m))
  obtain ⟨pk1, pk2, pk3, pk4, pk5⟩ := pk
  have fo : (os.filter (inI I)).length = (hands h I).length := by rw [← hands_ups]; exact (po.filter _).length_eq
  rw [fo] at pk4 pk5
  have ol : os.length = h := by rw [po.length_eq, ups_len]
  rw [ol] at pk3
  have pk1' : ∀ z ∈ picksGo F sn os, z ∈ ups h := fun z m => po.mem_iff.mp (pk1 z m)
  have t1 := told_sum pk2 pk1'
  have t2 := told_inner (I := I) pk2 pk1'
  rw [pk3] at t1
  rw [pk4] at t2
  have tl := told_len h (picksGo F sn os)
  have il := hands_len h I
  have fl := List.length_map V.int (as := toldL h (picksGo F sn os))
  refine ⟨_, rfl, _, _, _, _, rfl, TyOf.lst er, kit_list_list, ?_⟩
  and_intros
  refine ifF (ne_f (by omega)) ?_
  refine ⟨_, rfl, r, rfl, ⟨_, SqL.of er⟩, ?_⟩
  refine comp_list (xs := (toldL h (picksGo F sn os)).map V.int) (by rw [List.length_map]; exact small63 (by omega)) (fun D i ys J => ys = (List.replicate i true).map V.bl ∧ J = upd H6 D (.lst ys)) (fun D hD => ⟨rfl, rfl⟩) (fun D i ys J ⟨f1, f2⟩ => ⟨by rw [f2]; exact upd_same, by rw [f1, List.length_map, List.length_replicate]; exact Nat.le_refl _⟩) (fun D i ys J hD ⟨_, f2⟩ => by rw [f2]; exact SqL.of (same_new hD _ _ _ er)) ?_ ?_
  · rintro D i x ys J K1 K2 hD hx ⟨f1, rfl⟩ kk1 kk2
    obtain ⟨z, hz, rfl⟩ := int_at hx
    refine yes (ifT rfl ?_)
    refine ⟨_, rfl, z, rfl, ?_⟩
    refine kk1 _ _ upd_same ⟨?_, by rw [upd_upd]⟩
    rw [f1, List.replicate_succ', List.map_append]
    rfl
  rintro D ys H7 hD ⟨rfl, rfl⟩
  have s7 := same_new hD (.lst ((List.replicate ((toldL h (picksGo F sn os)).map V.int).length true).map V.bl))
  have e7 : (upd H6 D (.lst ((List.replicate ((toldL h (picksGo F sn os)).map V.int).length true).map V.bl))) D = some (.lst ((List.replicate ((toldL h (picksGo F sn os)).map V.int).length true).map V.bl)) := upd_same
  generalize upd H6 D (.lst ((List.replicate ((toldL h (picksGo F sn os)).map V.int).length true).map V.bl)) = H7 at s7 e7 ⊢
  refine ⟨D, _, rfl, SqL.of e7, ?_⟩
  rw [show ∀ n, (List.replicate n true).all id = true from fun n => List.all_eq_true.mpr fun b m => (List.mem_replicate.mp m).2]
  have er := s7 _ _ er
  and_intros
  refine ⟨⟨_, SqL.of er⟩, ?_⟩
  refine comp_list (xs := (toldL h (picksGo F sn os)).map V.int) (by rw [List.length_map]; exact small63 (by omega)) (fun D i ys J => ys = (List.replicate i true).map V.bl ∧ J D = some (.lst ys) ∧ Same H7 J) (fun D hD => ⟨rfl, upd_same, same_new hD _⟩) (fun D i ys J ⟨f1, f2, _⟩ => ⟨f2, by rw [f1, List.length_map, List.length_replicate]; exact Nat.le_refl _⟩) (fun D i ys J hD ⟨_, _, f2⟩ => SqL.of (f2 _ _ er)) ?_ ?_
  · rintro D i x ys J K1 K2 hD hx ⟨f1, f2, f3⟩ kk1 kk2
    obtain ⟨z, hz, rfl⟩ := int_at hx
    have z01 := told_01 (List.mem_of_getElem? hz)
    refine yes (ifT rfl ?_)
    and_intros
    refine ⟨(by show 2 ≤ sizeLine; decide), fun t ht => ?_⟩
    have s5 := same_new ht (.tup ([0, 1].map V.int))
    have e5 : (upd J t (.tup ([0, 1].map V.int))) t = some (.tup ([0, 1].map V.int)) := upd_same
    refine (show rIn K false (V.int z) (V.ref t) (upd J t (.tup ([0, 1].map V.int))) K1 from ?_)
    generalize upd J t (.tup ([0, 1].map V.int)) = J2 at s5 e5 ⊢
    refine ⟨t, _, rfl, .inr (SqT.of e5), rfl, all_flat _, ?_⟩
    rw [in_yes (show z ∈ [0, 1] by rcases z01 with e | e <;> simp [e])]
    refine kk1 _ _ (s5 _ _ f2) ⟨?_, upd_same, same_upd (f3.trans s5) hD⟩
    rw [f1, List.replicate_succ', List.map_append]
    rfl
  rintro D2 ys H8 hD2 ⟨f1, f2, s8⟩
  subst f1
  and_intros
  refine ⟨D2, _, rfl, SqL.of f2, ?_⟩
  rw [show ∀ n, (List.replicate n true).all id = true from fun n => List.all_eq_true.mpr fun b m => (List.mem_replicate.mp m).2]
  have er := s8 _ _ er
  and_intros
  refine ⟨r, _, rfl, SqL.of er, ?_⟩
  rw [t1]
  and_intros
  refine ifF (ne_f (by split <;> omega)) ?_
  have s68 := s7.trans s8
  have md := md.same s68
  have es := s68 _ _ es
  have gl := gl.same s68
  have ep := s68 _ _ ep
  have lq := lq.same s68
  and_intros
  refine ⟨⟨_, SqL.of ep⟩, ?_⟩
  refine comp_list (xs := (hands h I).map V.int) (by rw [List.length_map]; exact small63 (by omega)) (fun D i ys J => ys = (((hands h I).take i).map fun z => if z ∈ picksGo F sn os then (1 : Int) else 0).map V.int ∧ J = upd H8 D (.lst ys)) (fun D hD => ⟨rfl, rfl⟩) (fun D i ys J ⟨f1, f2⟩ => ⟨by rw [f2]; exact upd_same, by rw [f1, List.length_map, List.length_map]; exact List.length_take_le _ _⟩) (fun D i ys J hD ⟨_, f2⟩ => by rw [f2]; exact SqL.of (same_new hD _ _ _ ep)) ?_ ?_
  · rintro D i w ys J K1 K2 hD hw ⟨f1, rfl⟩ kk1 kk2
    obtain ⟨zz, hz, rfl⟩ := int_at hw
    obtain ⟨z, hzh, _, rfl⟩ := hands_mem.mp (List.mem_of_getElem? hz)
    have er' := same_new hD (.lst ys) _ _ er
    refine yes (ifT rfl ?_)
    refine ⟨_, rfl, _, rfl, r, _, _, _, rfl, rfl, SqL.of er', atN (told_at _ hzh), ?_⟩
    refine kk1 _ _ upd_same ⟨?_, by rw [upd_upd]⟩
    rw [f1, List.take_add_one, hz, List.map_append, List.map_append]
    rfl
  rintro D3 ys H9 hD3 ⟨f1, rfl⟩
  rw [List.length_map, List.take_of_length_le (Nat.le_refl _)] at f1
  subst f1
  have s9 := same_new hD3 (.lst (((hands h I).map fun z => if z ∈ picksGo F sn os then (1 : Int) else 0).map V.int))
  have e9 : (upd H8 D3 (.lst (((hands h I).map fun z => if z ∈ picksGo F sn os then (1 : Int) else 0).map V.int))) D3 = some (.lst (((hands h I).map fun z => if z ∈ picksGo F sn os then (1 : Int) else 0).map V.int)) := upd_same
  generalize upd H8 D3 (.lst (((hands h I).map fun z => if z ∈ picksGo F sn os then (1 : Int) else 0).map V.int)) = H9 at s9 e9 ⊢
  refine ⟨D3, _, rfl, SqL.of e9, ?_⟩
  rw [t2]
  have md := md.same s9
  have es := s9 _ _ es
  have gl := gl.same s9
  have ep := s9 _ _ ep
  have lq := lq.same s9
  have epl := List.length_map V.int (as := hands h I)
  and_intros
  refine ifF (ne_f (by rw [epl]; split <;> omega)) ?_
  obtain ⟨dx3, la3, m3, m4⟩ := id md.is
  and_intros
  refine ⟨a, dx3, _, rfl, m3, rfl, ?_⟩
  and_intros
  refine ⟨a, sb, h, sn, os, ls, rfl, md, es, gl, l60, lq.1, fun pp F1 H10 _ sq10 lq10 hpp pap => ?_⟩
  have s10 := sq10 lq
  obtain ⟨_, _, pk, _, _, q1, _, _, _, _, _, q7⟩ := pap.is
  obtain ⟨pkS, _, _, _, pk5'⟩ := picks_sets pap.strong mj sn os (po.nodup_iff.mpr (ups_nd h)) (fun z m => ups_in (po.mem_iff.mp m))
  rw [fo] at pk5'
  have md := md.same s10
  have es := s10 _ _ es
  have gl := gl.same s10
  have ep := s10 _ _ ep
  refine ⟨pp, _, _, _, rfl, rfl, SqT.of q1, rfl, ?_⟩
  and_intros
  refine ⟨pk, _, rfl, SqL.of q7, fun d hd => ?_⟩
  rw [epl, cut_tk, ← List.map_take]
  have s11 := same_new hd (.lst (((picksGo F1 sn os).take (hands h I).length).map V.int))
  have e11 : (upd H10 d (.lst (((picksGo F1 sn os).take (hands h I).length).map V.int))) d = some (.lst (((picksGo F1 sn os).take (hands h I).length).map V.int)) := upd_same
  have tk : ((picksGo F1 sn os).take (hands h I).length).length ≤ 12 := Nat.le_trans (List.length_take_le _ _) (by omega)
  have tin : ∀ z ∈ (picksGo F1 sn os).take (hands h I).length, z ∈ hands h I := fun z m => by
    have := pk5' z m
    rw [← hands_ups]
    exact List.mem_filter.mpr ⟨po.mem_iff.mp (pkS z (List.mem_of_mem_take m)), this⟩
  generalize (picksGo F1 sn os).take (hands h I).length = ts0 at e11 tk tin s11 ⊢
  generalize upd H10 d (.lst (ts0.map V.int)) = H11 at s11 e11 ⊢
  have ep11 := s11 _ _ ep
  refine ⟨d, rfl, ⟨_, SqL.of e11⟩, ?_⟩
  refine comp_list (xs := ts0.map V.int) (by rw [List.length_map]; exact small63 (by omega)) (fun D i ys J => ys = (List.replicate i true).map V.bl ∧ J = upd H11 D (.lst ys)) (fun D hD => ⟨rfl, rfl⟩) (fun D i ys J ⟨f1, f2⟩ => ⟨by rw [f2]; exact upd_same, by rw [f1, List.length_map, List.length_replicate]; exact Nat.le_refl _⟩) (fun D i ys J hD ⟨_, f2⟩ => by rw [f2]; exact SqL.of (same_new hD _ _ _ e11)) ?_ ?_
  · rintro D i x ys J K1 K2 hD hx ⟨f1, rfl⟩ kk1 kk2
    obtain ⟨z, hz, rfl⟩ := int_at hx
    have ep' := same_new hD (.lst ys) _ _ ep11
    refine yes (ifT rfl ?_)
    refine ⟨_, rfl, _, rfl, p0, _, rfl, .inl (SqL.of ep'), rfl, all_flat _, ?_⟩
    rw [in_yes (tin z (List.mem_of_getElem? hz))]
    refine kk1 _ _ upd_same ⟨?_, by rw [upd_upd]⟩
    rw [f1, List.replicate_succ', List.map_append]
    rfl
  rintro D4 ys H12 hD4 ⟨rfl, rfl⟩
  have s12' := same_new hD4 (.lst ((List.replicate (ts0.map V.int).length true).map V.bl))
  have e12 : (upd H11 D4 (.lst ((List.replicate (ts0.map V.int).length true).map V.bl))) D4 = some (.lst ((List.replicate (ts0.map V.int).length true).map V.bl)) := upd_same
  generalize upd H11 D4 (.lst ((List.replicate (ts0.map V.int).length true).map V.bl)) = H12 at s12' e12 ⊢
  refine ⟨D4, _, rfl, SqL.of e12, ?_⟩
  rw [show ∀ n, (List.replicate n true).all id = true from fun n => List.all_eq_true.mpr fun b m => (List.mem_replicate.mp m).2]
  have s1112 := s11.trans s12'
  and_intros
  refine ⟨a, sb, p0, h, sn, os, ls, I, _, rfl, md.same s1112, s1112 _ _ es, gl.same s1112, l60, lq10.same s1112, s1112 _ _ ep, mj, d30.1, d30.2, fun H13 s13 => ?_⟩
  exact q _
end
theorem all_mk {l : PySem.W.OpenLaw} {w : World} {K : PySem.W.Frag} {h : Heap} {mg : Str → Option Value} {fa f1 f2 f3 f4 f5 f6 f7 f8 f9 f10 f11 f12 f13 f14 f15 f16 f17 f18 f19 f20 f21 f22 f23 f24 f25 f26 f27 f28 f29 f30 f31 f32 f33 f34 f35 c_Pairs lf lc lP : Addr} (X : K.In h) (G : h.Ns mainGlobals mg) (hfa : mg "law" = some (.ref fa)) (hlf : mg "reached_from" = some (.ref lf)) (hlT : ∃ o fd, h.get? lf = some o ∧ o.data = .func fd ∧ fd.code = .ref lc)
    {od1 an1 od2 an2 od3 an3 od4 an4 od5 an5 od6 an6 od7 an7 od8 an8 od9 an9 od10 an10 od11 an11 od12 an12 od13 an13 od14 an14 od15 an15 od16 an16 od17 an17 od18 an18 od19 an19 od20 an20 od21 an21 od22 an22 od23 an23 od24 an24 od25 an25 od26 an26 od27 an27 od28 an28 od29 an29 od30 an30 od31 an31 od32 an32 od33 an33 od34 an34 od35 an35 : Option Addr} {sl1 sl2 sl3 sl4 sl5 sl6 sl7 sl8 sl9 sl10 sl11 sl12 sl13 sl14 sl15 sl16 sl17 sl18 sl19 sl20 sl21 sl22 sl23 sl24 sl25 sl26 sl27 sl28 sl29 sl30 sl31 sl32 sl33 sl34 sl35 : Array (Option Value)} {oc1 kV1 dc1 pm1 cd1 ct1 oc2 kV2 dc2 pm2 cd2 ct2 oc3 kV3 dc3 pm3 cd3 ct3 oc4 kV4 dc4 pm4 cd4 ct4 oc5 kV5 dc5 pm5 cd5 ct5 oc6 kV6 dc6 pm6 cd6 ct6 oc7 kV7 dc7 pm7 cd7 ct7 oc8 kV8 dc8 pm8 cd8 ct8 oc9 kV9 dc9 pm9 cd9 ct9 oc10 kV10 dc10 pm10 cd10 ct10 oc11 kV11 dc11 pm11 cd11 ct11 oc12 kV12 dc12 pm12 cd12 ct12 oc13 kV13 dc13 pm13 cd13 ct13 oc14 kV14 dc14 pm14 cd14 ct14 oc15 kV15 dc15 pm15 cd15 ct15 oc16 kV16 dc16 pm16 cd16 ct16 oc17 kV17 dc17 pm17 cd17 ct17 oc18 kV18 dc18 pm18 cd18 ct18 oc19 kV19 dc19 pm19 cd19 ct19 oc20 kV20 dc20 pm20 cd20 ct20 oc21 kV21 dc21 pm21 cd21 ct21 oc22 kV22 dc22 pm22 cd22 ct22 oc23 kV23 dc23 pm23 cd23 ct23 oc24 kV24 dc24 pm24 cd24 ct24 oc25 kV25 dc25 pm25 cd25 ct25 oc26 kV26 dc26 pm26 cd26 ct26 oc27 kV27 dc27 pm27 cd27 ct27 oc28 kV28 dc28 pm28 cd28 ct28 oc29 kV29 dc29 pm29 cd29 ct29 oc30 kV30 dc30 pm30 cd30 ct30 oc31 kV31 dc31 pm31 cd31 ct31 oc32 kV32 dc32 pm32 cd32 ct32 oc33 kV33 dc33 pm33 cd33 ct33 oc34 kV34 dc34 pm34 cd34 ct34 oc35 kV35 dc35 pm35 cd35 ct35 : Value} {dT29 : Addr} {dcl29 : Value} {ddi29 : Option Addr} {dn29 : Nat} {dsl29 : Array (Option Value)} {t_MOST_HANDS t_MOST_SEATS : Tok}
    (a1 : PySem.W.nsIn K mainGlobals "all_of" = some (some (.ref f1)))
    (l1 : K.lookup f1 = some ⟨oc1, od1, .func (PySem.W.fnOf "all_of" "all_of" (defArgs s_all_of) (defBody s_all_of) (defScope s_all_of) .none kV1 dc1 pm1 an1 cd1 ct1), sl1⟩) (c1 : PySem.W.codeIn K cd1 "all_of" = true) (k1 : PySem.W.keepIn K (.ref f1) = true)
    (a2 : PySem.W.nsIn K mainGlobals "with_one" = some (some (.ref f2)))
    (l2 : K.lookup f2 = some ⟨oc2, od2, .func (PySem.W.fnOf "with_one" "with_one" (defArgs s_with_one) (defBody s_with_one) (defScope s_with_one) .none kV2 dc2 pm2 an2 cd2 ct2), sl2⟩) (c2 : PySem.W.codeIn K cd2 "with_one" = true) (k2 : PySem.W.keepIn K (.ref f2) = true)
    (a3 : PySem.W.nsIn K mainGlobals "members" = some (some (.ref f3)))
    (l3 : K.lookup f3 = some ⟨oc3, od3, .func (PySem.W.fnOf "members" "members" (defArgs s_members) (defBody s_members) (defScope s_members) .none kV3 dc3 pm3 an3 cd3 ct3), sl3⟩) (c3 : PySem.W.codeIn K cd3 "members" = true) (k3 : PySem.W.keepIn K (.ref f3) = true)
    (a4 : PySem.W.nsIn K mainGlobals "hands_of" = some (some (.ref f4)))
    (l4 : K.lookup f4 = some ⟨oc4, od4, .func (PySem.W.fnOf "hands_of" "hands_of" (defArgs s_hands_of) (defBody s_hands_of) (defScope s_hands_of) .none kV4 dc4 pm4 an4 cd4 ct4), sl4⟩) (c4 : PySem.W.codeIn K cd4 "hands_of" = true) (k4 : PySem.W.keepIn K (.ref f4) = true)
    (a5 : PySem.W.nsIn K mainGlobals "way_by" = some (some (.ref f5)))
    (l5 : K.lookup f5 = some ⟨oc5, od5, .func (PySem.W.fnOf "way_by" "way_by" (defArgs s_way_by) (defBody s_way_by) (defScope s_way_by) .none kV5 dc5 pm5 an5 cd5 ct5), sl5⟩) (c5 : PySem.W.codeIn K cd5 "way_by" = true) (k5 : PySem.W.keepIn K (.ref f5) = true)
    (a6 : PySem.W.nsIn K mainGlobals "is_whole" = some (some (.ref f6)))
    (l6 : K.lookup f6 = some ⟨oc6, od6, .func (PySem.W.fnOf "is_whole" "is_whole" (defArgs s_is_whole) (defBody s_is_whole) (defScope s_is_whole) .none kV6 dc6 pm6 an6 cd6 ct6), sl6⟩) (c6 : PySem.W.codeIn K cd6 "is_whole" = true) (k6 : PySem.W.keepIn K (.ref f6) = true)
    (a7 : PySem.W.nsIn K mainGlobals "is_beaten" = some (some (.ref f7)))
    (l7 : K.lookup f7 = some ⟨oc7, od7, .func (PySem.W.fnOf "is_beaten" "is_beaten" (defArgs s_is_beaten) (defBody s_is_beaten) (defScope s_is_beaten) .none kV7 dc7 pm7 an7 cd7 ct7), sl7⟩) (c7 : PySem.W.codeIn K cd7 "is_beaten" = true) (k7 : PySem.W.keepIn K (.ref f7) = true)
    (a8 : PySem.W.nsIn K mainGlobals "_law_whole" = some (some (.ref f8)))
    (l8 : K.lookup f8 = some ⟨oc8, od8, .func (PySem.W.fnOf "_law_whole" "_law_whole" (defArgs s_law_whole) (defBody s_law_whole) (defScope s_law_whole) .none kV8 dc8 pm8 an8 cd8 ct8), sl8⟩) (c8 : PySem.W.codeIn K cd8 "_law_whole" = true) (k8 : PySem.W.keepIn K (.ref f8) = true)
    (a9 : PySem.W.nsIn K mainGlobals "_law_cell" = some (some (.ref f9)))
    (l9 : K.lookup f9 = some ⟨oc9, od9, .func (PySem.W.fnOf "_law_cell" "_law_cell" (defArgs s_law_cell) (defBody s_law_cell) (defScope s_law_cell) .none kV9 dc9 pm9 an9 cd9 ct9), sl9⟩) (c9 : PySem.W.codeIn K cd9 "_law_cell" = true) (k9 : PySem.W.keepIn K (.ref f9) = true)
    (a10 : PySem.W.nsIn K mainGlobals "_law_mixed" = some (some (.ref f10)))
    (l10 : K.lookup f10 = some ⟨oc10, od10, .func (PySem.W.fnOf "_law_mixed" "_law_mixed" (defArgs s_law_mixed) (defBody s_law_mixed) (defScope s_law_mixed) .none kV10 dc10 pm10 an10 cd10 ct10), sl10⟩) (c10 : PySem.W.codeIn K cd10 "_law_mixed" = true) (k10 : PySem.W.keepIn K (.ref f10) = true)
    (a11 : PySem.W.nsIn K mainGlobals "_law_order" = some (some (.ref f11)))
    (l11 : K.lookup f11 = some ⟨oc11, od11, .func (PySem.W.fnOf "_law_order" "_law_order" (defArgs s_law_order) (defBody s_law_order) (defScope s_law_order) .none kV11 dc11 pm11 an11 cd11 ct11), sl11⟩) (c11 : PySem.W.codeIn K cd11 "_law_order" = true) (k11 : PySem.W.keepIn K (.ref f11) = true)
    (a12 : PySem.W.nsIn K mainGlobals "_law_slip" = some (some (.ref f12)))
    (l12 : K.lookup f12 = some ⟨oc12, od12, .func (PySem.W.fnOf "_law_slip" "_law_slip" (defArgs s_law_slip) (defBody s_law_slip) (defScope s_law_slip) .none kV12 dc12 pm12 an12 cd12 ct12), sl12⟩) (c12 : PySem.W.codeIn K cd12 "_law_slip" = true) (k12 : PySem.W.keepIn K (.ref f12) = true)
    (l13 : K.lookup f13 = some ⟨oc13, od13, .func (PySem.W.fnOf "told_by" "Pairs.told_by" (defArgs s_Pairs_told_by) (defBody s_Pairs_told_by) (defScope s_Pairs_told_by) .none kV13 dc13 pm13 an13 cd13 ct13), sl13⟩) (c13 : PySem.W.codeIn K cd13 "Pairs.told_by" = true) (k13 : PySem.W.keepIn K (.ref f13) = true)
    (a14 : PySem.W.nsIn K mainGlobals "overs" = some (some (.ref f14)))
    (l14 : K.lookup f14 = some ⟨oc14, od14, .func (PySem.W.fnOf "overs" "overs" (defArgs s_overs) (defBody s_overs) (defScope s_overs) .none kV14 dc14 pm14 an14 cd14 ct14), sl14⟩) (c14 : PySem.W.codeIn K cd14 "overs" = true) (k14 : PySem.W.keepIn K (.ref f14) = true)
    (a15 : PySem.W.nsIn K mainGlobals "leads_of" = some (some (.ref f15)))
    (l15 : K.lookup f15 = some ⟨oc15, od15, .func (PySem.W.fnOf "leads_of" "leads_of" (defArgs s_leads_of) (defBody s_leads_of) (defScope s_leads_of) .none kV15 dc15 pm15 an15 cd15 ct15), sl15⟩) (c15 : PySem.W.codeIn K cd15 "leads_of" = true) (k15 : PySem.W.keepIn K (.ref f15) = true)
    (a16 : PySem.W.nsIn K mainGlobals "reached_from" = some (some (.ref f16)))
    (l16 : K.lookup f16 = some ⟨oc16, od16, .func (PySem.W.fnOf "reached_from" "reached_from" (defArgs s_reached_from) (defBody s_reached_from) (defScope s_reached_from) .none kV16 dc16 pm16 an16 cd16 ct16), sl16⟩) (c16 : PySem.W.codeIn K cd16 "reached_from" = true) (k16 : PySem.W.keepIn K (.ref f16) = true)
    (a17 : PySem.W.nsIn K mainGlobals "cut_by" = some (some (.ref f17)))
    (l17 : K.lookup f17 = some ⟨oc17, od17, .func (PySem.W.fnOf "cut_by" "cut_by" (defArgs s_cut_by) (defBody s_cut_by) (defScope s_cut_by) .none kV17 dc17 pm17 an17 cd17 ct17), sl17⟩) (c17 : PySem.W.codeIn K cd17 "cut_by" = true) (k17 : PySem.W.keepIn K (.ref f17) = true)
    (a18 : PySem.W.nsIn K mainGlobals "are_hands" = some (some (.ref f18)))
    (l18 : K.lookup f18 = some ⟨oc18, od18, .func (PySem.W.fnOf "are_hands" "are_hands" (defArgs s_are_hands) (defBody s_are_hands) (defScope s_are_hands) .none kV18 dc18 pm18 an18 cd18 ct18), sl18⟩) (c18 : PySem.W.codeIn K cd18 "are_hands" = true) (k18 : PySem.W.keepIn K (.ref f18) = true)
    (a19 : PySem.W.nsIn K mainGlobals "are_seats" = some (some (.ref f19)))
    (l19 : K.lookup f19 = some ⟨oc19, od19, .func (PySem.W.fnOf "are_seats" "are_seats" (defArgs s_are_seats) (defBody s_are_seats) (defScope s_are_seats) .none kV19 dc19 pm19 an19 cd19 ct19), sl19⟩) (c19 : PySem.W.codeIn K cd19 "are_seats" = true) (k19 : PySem.W.keepIn K (.ref f19) = true)
    (a20 : PySem.W.nsIn K mainGlobals "are_lots" = some (some (.ref f20)))
    (l20 : K.lookup f20 = some ⟨oc20, od20, .func (PySem.W.fnOf "are_lots" "are_lots" (defArgs s_are_lots) (defBody s_are_lots) (defScope s_are_lots) .none kV20 dc20 pm20 an20 cd20 ct20), sl20⟩) (c20 : PySem.W.codeIn K cd20 "are_lots" = true) (k20 : PySem.W.keepIn K (.ref f20) = true)
    (a21 : PySem.W.nsIn K mainGlobals "_law_ranks" = some (some (.ref f21)))
    (l21 : K.lookup f21 = some ⟨oc21, od21, .func (PySem.W.fnOf "_law_ranks" "_law_ranks" (defArgs s_law_ranks) (defBody s_law_ranks) (defScope s_law_ranks) .none kV21 dc21 pm21 an21 cd21 ct21), sl21⟩) (c21 : PySem.W.codeIn K cd21 "_law_ranks" = true) (k21 : PySem.W.keepIn K (.ref f21) = true)
    (a22 : PySem.W.nsIn K mainGlobals "_law_sheet" = some (some (.ref f22)))
    (l22 : K.lookup f22 = some ⟨oc22, od22, .func (PySem.W.fnOf "_law_sheet" "_law_sheet" (defArgs s_law_sheet) (defBody s_law_sheet) (defScope s_law_sheet) .none kV22 dc22 pm22 an22 cd22 ct22), sl22⟩) (c22 : PySem.W.codeIn K cd22 "_law_sheet" = true) (k22 : PySem.W.keepIn K (.ref f22) = true)
    (a23 : PySem.W.nsIn K mainGlobals "_law_solid" = some (some (.ref f23)))
    (l23 : K.lookup f23 = some ⟨oc23, od23, .func (PySem.W.fnOf "_law_solid" "_law_solid" (defArgs s_law_solid) (defBody s_law_solid) (defScope s_law_solid) .none kV23 dc23 pm23 an23 cd23 ct23), sl23⟩) (c23 : PySem.W.codeIn K cd23 "_law_solid" = true) (k23 : PySem.W.keepIn K (.ref f23) = true)
    (l24 : K.lookup f24 = some ⟨oc24, od24, .func (PySem.W.fnOf "picks_by" "Pairs.picks_by" (defArgs s_Pairs_picks_by) (defBody s_Pairs_picks_by) (defScope s_Pairs_picks_by) .none kV24 dc24 pm24 an24 cd24 ct24), sl24⟩) (c24 : PySem.W.codeIn K cd24 "Pairs.picks_by" = true) (k24 : PySem.W.keepIn K (.ref f24) = true)
    (a25 : PySem.W.nsIn K mainGlobals "strength" = some (some (.ref f25)))
    (l25 : K.lookup f25 = some ⟨oc25, od25, .func (PySem.W.fnOf "strength" "strength" (defArgs s_strength) (defBody s_strength) (defScope s_strength) .none kV25 dc25 pm25 an25 cd25 ct25), sl25⟩) (c25 : PySem.W.codeIn K cd25 "strength" = true) (k25 : PySem.W.keepIn K (.ref f25) = true)
    (a26 : PySem.W.nsIn K mainGlobals "shown_from" = some (some (.ref f26)))
    (l26 : K.lookup f26 = some ⟨oc26, od26, .func (PySem.W.fnOf "shown_from" "shown_from" (defArgs s_shown_from) (defBody s_shown_from) (defScope s_shown_from) .none kV26 dc26 pm26 an26 cd26 ct26), sl26⟩) (c26 : PySem.W.codeIn K cd26 "shown_from" = true) (k26 : PySem.W.keepIn K (.ref f26) = true)
    (a27 : PySem.W.nsIn K mainGlobals "_law_votes" = some (some (.ref f27)))
    (l27 : K.lookup f27 = some ⟨oc27, od27, .func (PySem.W.fnOf "_law_votes" "_law_votes" (defArgs s_law_votes) (defBody s_law_votes) (defScope s_law_votes) .none kV27 dc27 pm27 an27 cd27 ct27), sl27⟩) (c27 : PySem.W.codeIn K cd27 "_law_votes" = true) (k27 : PySem.W.keepIn K (.ref f27) = true)
    (a28 : PySem.W.nsIn K mainGlobals "_law_with_set" = some (some (.ref f28)))
    (l28 : K.lookup f28 = some ⟨oc28, od28, .func (PySem.W.fnOf "_law_with_set" "_law_with_set" (defArgs s_law_with_set) (defBody s_law_with_set) (defScope s_law_with_set) .none kV28 dc28 pm28 an28 cd28 ct28), sl28⟩) (c28 : PySem.W.codeIn K cd28 "_law_with_set" = true) (k28 : PySem.W.keepIn K (.ref f28) = true)
    (l29 : K.lookup f29 = some ⟨oc29, od29, .func (PySem.W.fnOf "__init__" "Way.__init__" (defArgs s_Way_init) (defBody s_Way_init) (defScope s_Way_init) (.ref dT29) kV29 dc29 pm29 an29 cd29 ct29), sl29⟩) (c29 : PySem.W.codeIn K cd29 "Way.__init__" = true) (k29 : PySem.W.keepIn K (.ref f29) = true)
    (dl29 : K.lookup dT29 = some ⟨dcl29, ddi29, .seq #[.none] dn29, dsl29⟩)
    (l30 : K.lookup f30 = some ⟨oc30, od30, .func (PySem.W.fnOf "strengths_of" "Pairs.strengths_of" (defArgs s_Pairs_strengths_of) (defBody s_Pairs_strengths_of) (defScope s_Pairs_strengths_of) .none kV30 dc30 pm30 an30 cd30 ct30), sl30⟩) (c30 : PySem.W.codeIn K cd30 "Pairs.strengths_of" = true) (k30 : PySem.W.keepIn K (.ref f30) = true)
    (l31 : K.lookup f31 = some ⟨oc31, od31, .func (PySem.W.fnOf "counted" "Pairs.counted" (defArgs s_Pairs_counted) (defBody s_Pairs_counted) (defScope s_Pairs_counted) .none kV31 dc31 pm31 an31 cd31 ct31), sl31⟩) (c31 : PySem.W.codeIn K cd31 "Pairs.counted" = true) (k31 : PySem.W.keepIn K (.ref f31) = true)
    (l32 : K.lookup f32 = some ⟨oc32, od32, .func (PySem.W.fnOf "outcome" "Way.outcome" (defArgs s_Way_outcome) (defBody s_Way_outcome) (defScope s_Way_outcome) .none kV32 dc32 pm32 an32 cd32 ct32), sl32⟩) (c32 : PySem.W.codeIn K cd32 "Way.outcome" = true) (k32 : PySem.W.keepIn K (.ref f32) = true)
    (l33 : K.lookup f33 = some ⟨oc33, od33, .func (PySem.W.fnOf "beats" "Pairs.beats" (defArgs s_Pairs_beats) (defBody s_Pairs_beats) (defScope s_Pairs_beats) .none kV33 dc33 pm33 an33 cd33 ct33), sl33⟩) (c33 : PySem.W.codeIn K cd33 "Pairs.beats" = true) (k33 : PySem.W.keepIn K (.ref f33) = true)
    (a34 : PySem.W.nsIn K mainGlobals "_law_beaten" = some (some (.ref f34)))
    (l34 : K.lookup f34 = some ⟨oc34, od34, .func (PySem.W.fnOf "_law_beaten" "_law_beaten" (defArgs s_law_beaten) (defBody s_law_beaten) (defScope s_law_beaten) .none kV34 dc34 pm34 an34 cd34 ct34), sl34⟩) (c34 : PySem.W.codeIn K cd34 "_law_beaten" = true) (k34 : PySem.W.keepIn K (.ref f34) = true)
    (a35 : PySem.W.nsIn K mainGlobals "law" = some (some (.ref f35)))
    (l35 : K.lookup f35 = some ⟨oc35, od35, .func (PySem.W.fnOf "law" "law" (defArgs s_law) (defBody s_law) (defScope s_law) .none kV35 dc35 pm35 an35 cd35 ct35), sl35⟩) (c35 : PySem.W.codeIn K cd35 "law" = true) (k35 : PySem.W.keepIn K (.ref f35) = true)
    (z0 : PySem.W.nsIn K mainGlobals "all" = some none)
    (z1 : PySem.W.nsIn K mainGlobals "any" = some none)
    (z2 : PySem.W.nsIn K mainGlobals "bool" = some none)
    (z3 : PySem.W.nsIn K mainGlobals "enumerate" = some none)
    (z4 : PySem.W.nsIn K mainGlobals "int" = some none)
    (z5 : PySem.W.nsIn K mainGlobals "isinstance" = some none)
    (z6 : PySem.W.nsIn K mainGlobals "len" = some none)
    (z7 : PySem.W.nsIn K mainGlobals "list" = some none)
    (z8 : PySem.W.nsIn K mainGlobals "max" = some none)
    (z9 : PySem.W.nsIn K mainGlobals "min" = some none)
    (z10 : PySem.W.nsIn K mainGlobals "range" = some none)
    (z11 : PySem.W.nsIn K mainGlobals "set" = some none)
    (z12 : PySem.W.nsIn K mainGlobals "sorted" = some none)
    (z13 : PySem.W.nsIn K mainGlobals "sum" = some none)
    (z14 : PySem.W.nsIn K mainGlobals "tuple" = some none)
    (kc_MOST_HANDS : PySem.W.nsIn K mainGlobals "MOST_HANDS" = some (some (.int 12 t_MOST_HANDS)))
    (kc_MOST_SEATS : PySem.W.nsIn K mainGlobals "MOST_SEATS" = some (some (.int 60 t_MOST_SEATS)))
    (mc_Pairs : PySem.W.nsIn K mainGlobals "Pairs" = some (some (.ref c_Pairs))) (pg_Pairs : PySem.W.plainGet K c_Pairs Str.empty = true) (hd_Pairs : PySem.W.hasDictIn K c_Pairs = true) (po_Pairs : PySem.W.plainOver K c_Pairs = true) (sa_Pairs : PySem.W.findIn K (.ref c_Pairs) "__setattr__" = some (some (.builtin "object.__setattr__")))
    (mm_Pairs : PySem.W.makesIn K c_Pairs = true) (mi_Pairs : PySem.W.findIn K (.ref c_Pairs) "__init__" = some (some (.ref f29))) (mf_Pairs : PySem.W.isFn K (.ref f29) = true) (mk_Pairs : PySem.W.keepIn K (.ref c_Pairs) = true)
    (ma_Pairs_strengths_of : PySem.W.findIn K (.ref c_Pairs) "strengths_of" = some (some (.ref f30))) (mn_Pairs_strengths_of : PySem.W.isFn K (.ref f30) = true)
    (ma_Pairs_beats : PySem.W.findIn K (.ref c_Pairs) "beats" = some (some (.ref f33))) (mn_Pairs_beats : PySem.W.isFn K (.ref f33) = true)
    (ma_Pairs_picks_by : PySem.W.findIn K (.ref c_Pairs) "picks_by" = some (some (.ref f24))) (mn_Pairs_picks_by : PySem.W.isFn K (.ref f24) = true)
    (ma_Pairs_counted : PySem.W.findIn K (.ref c_Pairs) "counted" = some (some (.ref f31))) (mn_Pairs_counted : PySem.W.isFn K (.ref f31) = true)
    (ma_Pairs_told_by : PySem.W.findIn K (.ref c_Pairs) "told_by" = some (some (.ref f13))) (mn_Pairs_told_by : PySem.W.isFn K (.ref f13) = true)
    (ma_Pairs_outcome : PySem.W.findIn K (.ref c_Pairs) "outcome" = some (some (.ref f32))) (mn_Pairs_outcome : PySem.W.isFn K (.ref f32) = true)
    (na_Pairs_hands : PySem.W.findIn K (.ref c_Pairs) "hands" = some none)
    (na_Pairs_seats : PySem.W.findIn K (.ref c_Pairs) "seats" = some none)
    (na_Pairs_lots : PySem.W.findIn K (.ref c_Pairs) "lots" = some none) :
    ∃ fd : FuncData, (∀ (s : Shared) (v : Value), BindsTo s fd ⟨[v], []⟩ [("_law_script", v)]) ∧ ∀ base : Heap, K.In base → base.Ns mainGlobals mg → LamB base mg lc lP → FnOk l.prog w K mg base CX0 7 fa fd ["_law_script"] (spLaw K lP) := by
  have e := hfa.symm.trans (PySem.W.mg_of X G a35)
  cases e
  have F1 := fun_mk (st := s_all_of) l1 c1 k1
  have b1 := F1.binds (ps := ["hands"]) fun _ _ _ _ _ _ us hl => match us, hl with | [_], _ => rfl
  have F2 := fun_mk (st := s_with_one) l2 c2 k2
  have b2 := F2.binds (ps := ["mask", "hand"]) fun _ _ _ _ _ _ us hl => match us, hl with | [_, _], _ => rfl
  have F3 := fun_mk (st := s_members) l3 c3 k3
  have b3 := F3.binds (ps := ["mask"]) fun _ _ _ _ _ _ us hl => match us, hl with | [_], _ => rfl
  have F4 := fun_mk (st := s_hands_of) l4 c4 k4
  have b4 := F4.binds (ps := ["leads"]) fun _ _ _ _ _ _ us hl => match us, hl with | [_], _ => rfl
  have F5 := fun_mk (st := s_way_by) l5 c5 k5
  have b5 := F5.binds (ps := ["reached", "x", "y"]) fun _ _ _ _ _ _ us hl => match us, hl with | [_, _, _], _ => rfl
  have F6 := fun_mk (st := s_is_whole) l6 c6 k6
  have b6 := F6.binds (ps := ["thing"]) fun _ _ _ _ _ _ us hl => match us, hl with | [_], _ => rfl
  have F7 := fun_mk (st := s_is_beaten) l7 c7 k7
  have b7 := F7.binds (ps := ["strengths", "hand", "others"]) fun _ _ _ _ _ _ us hl => match us, hl with | [_, _, _], _ => rfl
  have F8 := fun_mk (st := s_law_whole) l8 c8 k8
  have b8 := F8.binds (ps := ["_law_found"]) fun _ _ _ _ _ _ us hl => match us, hl with | [_], _ => rfl
  have F9 := fun_mk (st := s_law_cell) l9 c9 k9
  have b9 := F9.binds (ps := ["_law_script", "_law_k"]) fun _ _ _ _ _ _ us hl => match us, hl with | [_, _], _ => rfl
  have F10 := fun_mk (st := s_law_mixed) l10 c10 k10
  have b10 := F10.binds (ps := ["_law_cell_here", "_law_by"]) fun _ _ _ _ _ _ us hl => match us, hl with | [_, _], _ => rfl
  have F11 := fun_mk (st := s_law_order) l11 c11 k11
  have b11 := F11.binds (ps := ["_law_cell_here", "_law_hands"]) fun _ _ _ _ _ _ us hl => match us, hl with | [_, _], _ => rfl
  have F12 := fun_mk (st := s_law_slip) l12 c12 k12
  have b12 := F12.binds (ps := ["_law_ranks_here"]) fun _ _ _ _ _ _ us hl => match us, hl with | [_], _ => rfl
  have F13 := fun_mk (st := s_Pairs_told_by) l13 c13 k13
  have b13 := F13.binds (ps := ["self", "paper"]) fun _ _ _ _ _ _ us hl => match us, hl with | [_, _], _ => rfl
  have F14 := fun_mk (st := s_overs) l14 c14 k14
  have b14 := F14.binds (ps := ["sheet", "hands"]) fun _ _ _ _ _ _ us hl => match us, hl with | [_, _], _ => rfl
  have F15 := fun_mk (st := s_leads_of) l15 c15 k15
  have b15 := F15.binds (ps := ["many"]) fun _ _ _ _ _ _ us hl => match us, hl with | [_], _ => rfl
  have F16 := fun_mk (st := s_reached_from) l16 c16 k16
  have b16 := F16.binds (ps := ["leads", "x"]) fun _ _ _ _ _ _ us hl => match us, hl with | [_, _], _ => rfl
  have F17 := fun_mk (st := s_cut_by) l17 c17 k17
  have b17 := F17.binds (ps := ["reached", "x", "y"]) fun _ _ _ _ _ _ us hl => match us, hl with | [_, _, _], _ => rfl
  have F18 := fun_mk (st := s_are_hands) l18 c18 k18
  have b18 := F18.binds (ps := ["thing"]) fun _ _ _ _ _ _ us hl => match us, hl with | [_], _ => rfl
  have F19 := fun_mk (st := s_are_seats) l19 c19 k19
  have b19 := F19.binds (ps := ["thing"]) fun _ _ _ _ _ _ us hl => match us, hl with | [_], _ => rfl
  have F20 := fun_mk (st := s_are_lots) l20 c20 k20
  have b20 := F20.binds (ps := ["thing", "hands"]) fun _ _ _ _ _ _ us hl => match us, hl with | [_, _], _ => rfl
  have F21 := fun_mk (st := s_law_ranks) l21 c21 k21
  have b21 := F21.binds (ps := ["_law_cell_here", "_law_hands"]) fun _ _ _ _ _ _ us hl => match us, hl with | [_, _], _ => rfl
  have F22 := fun_mk (st := s_law_sheet) l22 c22 k22
  have b22 := F22.binds (ps := ["_law_votes_here"]) fun _ _ _ _ _ _ us hl => match us, hl with | [_], _ => rfl
  have F23 := fun_mk (st := s_law_solid) l23 c23 k23
  have b23 := F23.binds (ps := ["_law_inner", "_law_hands", "_law_number"]) fun _ _ _ _ _ _ us hl => match us, hl with | [_, _, _], _ => rfl
  have F24 := fun_mk (st := s_Pairs_picks_by) l24 c24 k24
  have b24 := F24.binds (ps := ["self", "strengths"]) fun _ _ _ _ _ _ us hl => match us, hl with | [_, _], _ => rfl
  have F25 := fun_mk (st := s_strength) l25 c25 k25
  have b25 := F25.binds (ps := ["leads"]) fun _ _ _ _ _ _ us hl => match us, hl with | [_], _ => rfl
  have F26 := fun_mk (st := s_shown_from) l26 c26 k26
  have b26 := F26.binds (ps := ["reached", "x"]) fun _ _ _ _ _ _ us hl => match us, hl with | [_, _], _ => rfl
  have F27 := fun_mk (st := s_law_votes) l27 c27 k27
  have b27 := F27.binds (ps := ["_law_script", "_law_start", "_law_most", "_law_hands"]) fun _ _ _ _ _ _ us hl => match us, hl with | [_, _, _, _], _ => rfl
  have F28 := fun_mk (st := s_law_with_set) l28 c28 k28
  have b28 := F28.binds (ps := ["_law_votes_here", "_law_inner", "_law_hands", "_law_cell_here"]) fun _ _ _ _ _ _ us hl => match us, hl with | [_, _, _, _], _ => rfl
  have F29 := fund_mk (st := s_Way_init) l29 c29 k29
  have b29_0 : Binds K _ ["self", "hands", "seats", "lots"] [] := fun s us X hl => match us, (show us.length = 4 from Nat.add_right_cancel (m := 0) ((List.length_append ..).symm.trans hl)) with | [_, _, _, _], _ => PySem.W.binds_K (fd := PySem.W.fnOf "__init__" "Way.__init__" (defArgs s_Way_init) (defBody s_Way_init) (defScope s_Way_init) (.ref dT29) kV29 dc29 pm29 an29 cd29 ct29) X rfl dl29 rfl rfl rfl
  have F30 := fun_mk (st := s_Pairs_strengths_of) l30 c30 k30
  have b30 := F30.binds (ps := ["self", "sheet"]) fun _ _ _ _ _ _ us hl => match us, hl with | [_, _], _ => rfl
  have F31 := fun_mk (st := s_Pairs_counted) l31 c31 k31
  have b31 := F31.binds (ps := ["self", "sheet"]) fun _ _ _ _ _ _ us hl => match us, hl with | [_, _], _ => rfl
  have F32 := fun_mk (st := s_Way_outcome) l32 c32 k32
  have b32 := F32.binds (ps := ["self", "sheet"]) fun _ _ _ _ _ _ us hl => match us, hl with | [_, _], _ => rfl
  have F33 := fun_mk (st := s_Pairs_beats) l33 c33 k33
  have b33 := F33.binds (ps := ["self", "sheet", "x", "y"]) fun _ _ _ _ _ _ us hl => match us, hl with | [_, _, _, _], _ => rfl
  have F34 := fun_mk (st := s_law_beaten) l34 c34 k34
  have b34 := F34.binds (ps := ["_law_way", "_law_sheet_here", "_law_inner", "_law_cell_here"]) fun _ _ _ _ _ _ us hl => match us, hl with | [_, _, _, _], _ => rfl
  have F35 := fun_mk (st := s_law) l35 c35 k35
  have b35 := F35.binds (ps := ["_law_script"]) fun _ _ _ _ _ _ us hl => match us, hl with | [_], _ => rfl
  have e := hlf.symm.trans (PySem.W.mg_of X G a16)
  cases e
  obtain ⟨_, _, e1, e2, e3⟩ := hlT
  rw [X _ _ l16] at e1
  cases e1
  cases e2
  have T : ∀ base : Heap, LamB base mg lc lP → Tx K mg base (⟨f1, _, f2, _, f3, _, f4, _, f5, _, f6, _, f7, _, f8, _, f9, _, f10, _, f11, _, f12, _, f13, _, f14, _, f15, _, f16, _, f17, _, f18, _, f19, _, f20, _, f21, _, f22, _, f23, _, f24, _, f25, _, f26, _, f27, _, f28, _, f29, _, f30, _, f31, _, f32, _, f33, _, f34, _, fa, _, c_Pairs, t_MOST_HANDS, t_MOST_SEATS, lc, lP⟩ : Ads) := fun base LB => ⟨F1, b1, PySem.W.mg_of X G a1, F2, b2, PySem.W.mg_of X G a2, F3, b3, PySem.W.mg_of X G a3, F4, b4, PySem.W.mg_of X G a4, F5, b5, PySem.W.mg_of X G a5, F6, b6, PySem.W.mg_of X G a6, F7, b7, PySem.W.mg_of X G a7, F8, b8, PySem.W.mg_of X G a8, F9, b9, PySem.W.mg_of X G a9, F10, b10, PySem.W.mg_of X G a10, F11, b11, PySem.W.mg_of X G a11, F12, b12, PySem.W.mg_of X G a12, F13, b13, F14, b14, PySem.W.mg_of X G a14, F15, b15, PySem.W.mg_of X G a15, F16, b16, PySem.W.mg_of X G a16, F17, b17, PySem.W.mg_of X G a17, F18, b18, PySem.W.mg_of X G a18, F19, b19, PySem.W.mg_of X G a19, F20, b20, PySem.W.mg_of X G a20, F21, b21, PySem.W.mg_of X G a21, F22, b22, PySem.W.mg_of X G a22, F23, b23, PySem.W.mg_of X G a23, F24, b24, F25, b25, PySem.W.mg_of X G a25, F26, b26, PySem.W.mg_of X G a26, F27, b27, PySem.W.mg_of X G a27, F28, b28, PySem.W.mg_of X G a28, F29, b29_0, F30, b30, F31, b31, F32, b32, F33, b33, F34, b34, PySem.W.mg_of X G a34, F35, b35, PySem.W.mg_of X G a35, PySem.W.mg_none_of X G z0, PySem.W.mg_none_of X G z1, PySem.W.mg_none_of X G z2, PySem.W.mg_none_of X G z3, PySem.W.mg_none_of X G z4, PySem.W.mg_none_of X G z5, PySem.W.mg_none_of X G z6, PySem.W.mg_none_of X G z7, PySem.W.mg_none_of X G z8, PySem.W.mg_none_of X G z9, PySem.W.mg_none_of X G z10, PySem.W.mg_none_of X G z11, PySem.W.mg_none_of X G z12, PySem.W.mg_none_of X G z13, PySem.W.mg_none_of X G z14, PySem.W.mg_of X G kc_MOST_HANDS, PySem.W.mg_of X G kc_MOST_SEATS, PySem.W.mg_of X G mc_Pairs, ⟨pg_Pairs, hd_Pairs, po_Pairs, sa_Pairs⟩, ⟨mm_Pairs, mi_Pairs, mf_Pairs, mk_Pairs⟩, ⟨ma_Pairs_strengths_of, mn_Pairs_strengths_of, k30⟩, ⟨ma_Pairs_beats, mn_Pairs_beats, k33⟩, ⟨ma_Pairs_picks_by, mn_Pairs_picks_by, k24⟩, ⟨ma_Pairs_counted, mn_Pairs_counted, k31⟩, ⟨ma_Pairs_told_by, mn_Pairs_told_by, k13⟩, ⟨ma_Pairs_outcome, mn_Pairs_outcome, k32⟩, na_Pairs_hands, na_Pairs_seats, na_Pairs_lots, LB, e3⟩
  exact ⟨PySem.W.fnOf "law" "law" (defArgs s_law) (defBody s_law) (defScope s_law) .none kV35 dc35 pm35 an35 cd35 ct35, fun s v => .of_eq rfl, fun base _ _ LB => ok_law (T base LB)⟩
theorem walk {l : PySem.W.OpenLaw} {q : Program} {loose : List Str} {XP : (Str → Option Value) → Heap → Prop} {YP : World → Heap → Prop} {d dn : DefRec} {K : Params → PySem.W.Frag} (hn : l.most = some 63) (hdf : d.params.defaults = [])
    (hY : ∀ (w : World) (h : Heap), YP w h → (K w.params).In h) (hnt : ∀ p, noTab (K p) = true) (hdn : (PyProof.Rows.recsOf q).find? (fun e => e.name == ("reached_from" : Str)) = some dn)
    (F : ∀ (w : World) (mg : Str → Option Value) (fa f c Pt : Addr) (h : Heap), (K w.params).In h → h.Ns mainGlobals mg → mg d.name = some (.ref fa) → mg "reached_from" = some (.ref f) → (∃ o fd, h.get? f = some o ∧ o.data = .func fd ∧ fd.code = .ref c) →
      ∃ fd : FuncData, (∀ (s : Shared) (u : Value), BindsTo s fd ⟨[u], []⟩ [("_law_script", u)]) ∧ ∀ base : Heap, (K w.params).In base → base.Ns mainGlobals mg → LamB base mg c Pt → FnOk l.prog w (K w.params) mg base CX0 7 fa fd ["_law_script"] (spLaw (K w.params) Pt)) :
    PySem.W.WalkO q loose XP YP l.row.toRowW d [] (fun f vs => PySem.call f vs) :=
  L2.walk_of1 (n := 63) (k := 7) (x := "_law_script") (dn := dn) (CX := fun _ => CX0) (sp := fun w Pt => spLaw (K w.params) Pt) hn (by decide) hdf ⟨rfl, by decide, by decide⟩ hY hnt (List.mem_of_find?_eq_some hdn) (fun w mg fa f c Pt h k1 k2 k3 k4 k5 => F w mg fa f c Pt h k1 k2 k3 (by rw [← show dn.name = "reached_from" from beq_iff_eq.mp (List.find?_some (p := fun e : DefRec => e.name == ("reached_from" : Str)) hdn)]; exact k4) k5) (fun _ _ _ a ns hl hP hS => ⟨a, ns, rfl, hS, hl, hP, fun _ => rfl⟩) fun _ _ _ _ _ z => z
end Law
open PySem PySem.W PyProof.Rows
set_option maxRecDepth 100000 in
set_option maxHeartbeats 0 in
theorem PySem.Challenge.cw_pollproof_k54_whole_sets_first_holds : PySem.Challenge.rw_pollproof_k54_whole_sets_first.Holds := by
  refine Head.top ?_
  k_fill
  refine Law.walk (l := PySem.Challenge.rw_pollproof_k54_whole_sets_first) (dn := ((recsOf Head.q0).find? fun e => e.name == ("reached_from" : Str)).get (by decide +kernel)) rfl rfl (fun w h Y => PySem.W.km_in_of Y) ?nt (Option.some_get _).symm ?F
  case nt => exact fun p => by kernel_rfl
  case F =>
    intro w mg fa lf lc lP h KX G hmg hlf hlT
    refine' Law.all_mk KX G hmg hlf hlT ?a1 ?l1 ?c1 ?k1 ?a2 ?l2 ?c2 ?k2 ?a3 ?l3 ?c3 ?k3 ?a4 ?l4 ?c4 ?k4 ?a5 ?l5 ?c5 ?k5 ?a6 ?l6 ?c6 ?k6 ?a7 ?l7 ?c7 ?k7 ?a8 ?l8 ?c8 ?k8 ?a9 ?l9 ?c9 ?k9 ?a10 ?l10 ?c10 ?k10 ?a11 ?l11 ?c11 ?k11 ?a12 ?l12 ?c12 ?k12 ?l13 ?c13 ?k13 ?a14 ?l14 ?c14 ?k14 ?a15 ?l15 ?c15 ?k15 ?a16 ?l16 ?c16 ?k16 ?a17 ?l17 ?c17 ?k17 ?a18 ?l18 ?c18 ?k18 ?a19 ?l19 ?c19 ?k19 ?a20 ?l20 ?c20 ?k20 ?a21 ?l21 ?c21 ?k21 ?a22 ?l22 ?c22 ?k22 ?a23 ?l23 ?c23 ?k23 ?l24 ?c24 ?k24 ?a25 ?l25 ?c25 ?k25 ?a26 ?l26 ?c26 ?k26 ?a27 ?l27 ?c27 ?k27 ?a28 ?l28 ?c28 ?k28 ?l29 ?c29 ?k29 ?dl29 ?l30 ?c30 ?k30 ?l31 ?c31 ?k31 ?l32 ?c32 ?k32 ?l33 ?c33 ?k33 ?a34 ?l34 ?c34 ?k34 ?a35 ?l35 ?c35 ?k35 ?z0 ?z1 ?z2 ?z3 ?z4 ?z5 ?z6 ?z7 ?z8 ?z9 ?z10 ?z11 ?z12 ?z13 ?z14 ?kc_MOST_HANDS ?kc_MOST_SEATS ?mc_Pairs ?pg_Pairs ?hd_Pairs ?po_Pairs ?sa_Pairs ?mm_Pairs ?mi_Pairs ?mf_Pairs ?mk_Pairs ?ma_Pairs_strengths_of ?mn_Pairs_strengths_of ?ma_Pairs_beats ?mn_Pairs_beats ?ma_Pairs_picks_by ?mn_Pairs_picks_by ?ma_Pairs_counted ?mn_Pairs_counted ?ma_Pairs_told_by ?mn_Pairs_told_by ?ma_Pairs_outcome ?mn_Pairs_outcome ?na_Pairs_hands ?na_Pairs_seats ?na_Pairs_lots
    (case a1 => k_is)
    (case l1 => k_is)
    (case c1 => k_is)
    (case k1 => k_is)
    (case a2 => k_is)
    (case l2 => k_is)
    (case c2 => k_is)
    (case k2 => k_is)
    (case a3 => k_is)
    (case l3 => k_is)
    (case c3 => k_is)
    (case k3 => k_is)
    (case a4 => k_is)
    (case l4 => k_is)
    (case c4 => k_is)
    (case k4 => k_is)
    (case a5 => k_is)
    (case l5 => k_is)
    (case c5 => k_is)
    (case k5 => k_is)
    (case a6 => k_is)
    (case l6 => k_is)
    (case c6 => k_is)
    (case k6 => k_is)
    (case a7 => k_is)
    (case l7 => k_is)
    (case c7 => k_is)
    (case k7 => k_is)
    (case a8 => k_is)
    (case l8 => k_is)
    (case c8 => k_is)
    (case k8 => k_is)
    (case a9 => k_is)
    (case l9 => k_is)
    (case c9 => k_is)
    (case k9 => k_is)
    (case a10 => k_is)
    (case l10 => k_is)
    (case c10 => k_is)
    (case k10 => k_is)
    (case a11 => k_is)
    (case l11 => k_is)
    (case c11 => k_is)
    (case k11 => k_is)
    (case a12 => k_is)
    (case l12 => k_is)
    (case c12 => k_is)
    (case k12 => k_is)
    (case a14 => k_is)
    (case l14 => k_is)
    (case c14 => k_is)
    (case k14 => k_is)
    (case a15 => k_is)
    (case l15 => k_is)
    (case c15 => k_is)
    (case k15 => k_is)
    (case a16 => k_is)
    (case l16 => k_is)
    (case c16 => k_is)
    (case k16 => k_is)
    (case a17 => k_is)
    (case l17 => k_is)
    (case c17 => k_is)
    (case k17 => k_is)
    (case a18 => k_is)
    (case l18 => k_is)
    (case c18 => k_is)
    (case k18 => k_is)
    (case a19 => k_is)
    (case l19 => k_is)
    (case c19 => k_is)
    (case k19 => k_is)
    (case a20 => k_is)
    (case l20 => k_is)
    (case c20 => k_is)
    (case k20 => k_is)
    (case a21 => k_is)
    (case l21 => k_is)
    (case c21 => k_is)
    (case k21 => k_is)
    (case a22 => k_is)
    (case l22 => k_is)
    (case c22 => k_is)
    (case k22 => k_is)
    (case a23 => k_is)
    (case l23 => k_is)
    (case c23 => k_is)
    (case k23 => k_is)
    (case a25 => k_is)
    (case l25 => k_is)
    (case c25 => k_is)
    (case k25 => k_is)
    (case a26 => k_is)
    (case l26 => k_is)
    (case c26 => k_is)
    (case k26 => k_is)
    (case a27 => k_is)
    (case l27 => k_is)
    (case c27 => k_is)
    (case k27 => k_is)
    (case a28 => k_is)
    (case l28 => k_is)
    (case c28 => k_is)
    (case k28 => k_is)
    (case a34 => k_is)
    (case l34 => k_is)
    (case c34 => k_is)
    (case k34 => k_is)
    (case a35 => k_is)
    (case l35 => k_is)
    (case c35 => k_is)
    (case k35 => k_is)
    (case z0 => k_is)
    (case z1 => k_is)
    (case z2 => k_is)
    (case z3 => k_is)
    (case z4 => k_is)
    (case z5 => k_is)
    (case z6 => k_is)
    (case z7 => k_is)
    (case z8 => k_is)
    (case z9 => k_is)
    (case z10 => k_is)
    (case z11 => k_is)
    (case z12 => k_is)
    (case z13 => k_is)
    (case z14 => k_is)
    (case kc_MOST_HANDS => k_is)
    (case kc_MOST_SEATS => k_is)
    (case mc_Pairs => k_is)
    (case pg_Pairs => k_is)
    (case hd_Pairs => k_is)
    (case po_Pairs => k_is)
    (case sa_Pairs => k_is)
    (case mm_Pairs => k_is)
    (case mi_Pairs => k_is)
    (case mf_Pairs => k_is)
    (case mk_Pairs => k_is)
    (case ma_Pairs_strengths_of => k_is)
    (case mn_Pairs_strengths_of => k_is)
    (case ma_Pairs_beats => k_is)
    (case mn_Pairs_beats => k_is)
    (case ma_Pairs_picks_by => k_is)
    (case mn_Pairs_picks_by => k_is)
    (case ma_Pairs_counted => k_is)
    (case mn_Pairs_counted => k_is)
    (case ma_Pairs_told_by => k_is)
    (case mn_Pairs_told_by => k_is)
    (case ma_Pairs_outcome => k_is)
    (case mn_Pairs_outcome => k_is)
    (case na_Pairs_hands => k_is)
    (case na_Pairs_seats => k_is)
    (case na_Pairs_lots => k_is)
    (case l13 => k_is)
    (case c13 => k_is)
    (case k13 => k_is)
    (case l24 => k_is)
    (case c24 => k_is)
    (case k24 => k_is)
    (case l29 => k_is)
    (case c29 => k_is)
    (case k29 => k_is)
    (case dl29 => k_is)
    (case l30 => k_is)
    (case c30 => k_is)
    (case k30 => k_is)
    (case l31 => k_is)
    (case c31 => k_is)
    (case k31 => k_is)
    (case l32 => k_is)
    (case c32 => k_is)
    (case k32 => k_is)
    (case l33 => k_is)
    (case c33 => k_is)
    (case k33 => k_is)
#print axioms PySem.Challenge.cw_pollproof_k54_whole_sets_first_holds
