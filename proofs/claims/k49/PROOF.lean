
import PyProof.Rows.All
import Wide.All
import OpenK.AllK
import Wide.FinOn
import Lean
import PyProof.EqAt
import PyProof.EqKinds
import PyProof.TupleCall
import PySem.Challenge.RW_stonewalker_k49_where_a_story_stands
local macro_rules
 | `(tactic| omega) => `(tactic| lia)
set_option Elab.async false
set_option linter.all false
set_option maxRecDepth 100000
namespace L2
open PySem PySem.Spec PyProof.Rows
noncomputable abbrev Key := Sum Int Str
noncomputable def keyIs : Key → Value → Bool
 | .inl k, v => Value.isInt k v
 | .inr x, v => Value.isStrOf x v
noncomputable def keyH (w : World) : Key → Int
 | .inl k => hashInt k
 | .inr x => hashStr w x
theorem keyIs_shape : ∀ {k : Key} {v : Value}, keyIs k v = true → (∃ i t, k = Sum.inl i ∧ v = Value.int i t) ∨ (∃ x t, k = Sum.inr x ∧ v = Value.str x t)
 | .inl i, v, h => by
  obtain ⟨t, e⟩ := Value.isInt_shape (k := i) (v := v) h
  exact .inl ⟨i, t, rfl, e⟩
 | .inr x, v, h => by
  obtain ⟨t, e⟩ := Value.isStrOf_shape (x := x) (v := v) h
  exact .inr ⟨x, t, rfl, e⟩
theorem keyIs_int (i : Int) (t : Tok) : keyIs (.inl i) (.int i t) = true := by simp [keyIs, Value.isInt]
theorem keyIs_str (x : Str) (t : Tok) : keyIs (.inr x) (.str x t) = true := by simp [keyIs, Value.isStrOf]
theorem key_ll (a b : Int) : decide ((Sum.inl a : Key) = Sum.inl b) = (a == b) := by
 by_cases e : a = b
 ·subst e; simp
 ·have h : ¬ (Sum.inl a : Key) = Sum.inl b := fun q => e (Sum.inl.inj q)
  rw [decide_eq_false h]
  exact (beq_eq_false_iff_ne.mpr e).symm
theorem key_rr (a b : Str) : decide ((Sum.inr a : Key) = Sum.inr b) = decide (a = b) := by
 by_cases e : a = b
 ·subst e; simp
 ·have h : ¬ (Sum.inr a : Key) = Sum.inr b := fun q => e (Sum.inr.inj q)
  rw [decide_eq_false h, decide_eq_false e]
theorem key_lr (a : Int) (b : Str) : decide ((Sum.inl a : Key) = Sum.inr b) = false := decide_eq_false (fun q => nomatch q)
theorem key_rl (a : Str) (b : Int) : decide ((Sum.inr a : Key) = Sum.inl b) = false := decide_eq_false (fun q => nomatch q)
noncomputable def mixKind (prog : Program) (w : World) : PySem.KeyKind prog w Key where
 is := keyIs
 hash := keyH w
 inj := fun v a b ha hb => by
  rcases keyIs_shape ha with ⟨i, t, rfl, rfl⟩ | ⟨x, t, rfl, rfl⟩
  ·rcases keyIs_shape hb with ⟨j, u, rfl, e⟩ | ⟨y, u, rfl, e⟩
   ·injection e with e1 _; rw [e1]
   ·exact nomatch e
  ·rcases keyIs_shape hb with ⟨j, u, rfl, e⟩ | ⟨y, u, rfl, e⟩
   ·exact nomatch e
   ·injection e with e1 _; rw [e1]
 byValue := fun k v h => by
  rcases keyIs_shape h with ⟨i, t, rfl, rfl⟩ | ⟨x, t, rfl, rfl⟩ <;> rfl
 pyHash := fun hv h => by
  rcases keyIs_shape hv with ⟨i, t, rfl, rfl⟩ | ⟨x, t, rfl, rfl⟩
  ·exact wpAny_pyHash_int h
  ·exact wpAny_pyHash_str h
 eqBool := fun hu hv h => by
  rcases keyIs_shape hu with ⟨i, t, rfl, rfl⟩ | ⟨x, t, rfl, rfl⟩
  ·rcases keyIs_shape hv with ⟨j, u, rfl, rfl⟩ | ⟨y, u, rfl, rfl⟩
   ·rw [key_ll] at h; exact wpAny_eqBool_int h
   ·rw [key_lr] at h; exact SeqAt.EqAt.int_str i t y u _ _ _ _ h
  ·rcases keyIs_shape hv with ⟨j, u, rfl, rfl⟩ | ⟨y, u, rfl, rfl⟩
   ·rw [key_rl] at h; exact SeqAt.EqAt.str_int x t j u _ _ _ _ h
   ·rw [key_rr] at h; exact wpAny_eqBool_str h
 «strs» := fun k x t v h => by
  rcases keyIs_shape h with ⟨i, u, rfl, e⟩ | ⟨y, u, rfl, e⟩
  ·exact nomatch e
  ·injection e with e1 _
   subst e1
   cases v <;> rfl
theorem mixKind_int (prog : Program) (w : World) (i : Int) (t : Tok) : (mixKind prog w).is (.inl i) (.int i t) = true := keyIs_int i t
theorem mixKind_str (prog : Program) (w : World) (x : Str) (t : Tok) : (mixKind prog w).is (.inr x) (.str x t) = true := keyIs_str x t
end L2
set_option synthInstance.maxSize 1000
namespace L2
open PySem PySem.Spec PyProof.Rows
structure KeyV (prog : Program) (w : World) (K : Type) [DecidableEq K] (c : Nat) where
 is : Heap → K → Value → Prop
 hash : K → Int
 draws : K → Nat
 inj : ∀ {h : Heap} {v : Value} {x y : K}, is h x v → is h y v → x = y
 keeps : ∀ {h h' : Heap} {k : K} {v : Value} {d : Addr} {o : Obj} {es : Array DictEntry} {ep : Nat}, is h k v → h.get? d = some o → o.data = .dict es ep → Heap.SameBut d h h' → is h' k v
 hashed : ∀ {A : Around} {E : Value → Shared → Prop} {s : Shared} {k : K} {v : Value} {Q : Int → Shared → Prop}, A.units + c < cLine → is s.heap k v → Q (hash k) { s with toks := s.toks + draws k } → wpAny (model prog w) A (PySem.pyHash v) Q E s
 eqAt : ∀ {A : Around} {s : Shared} {x y : K} {u v : Value}, A.units + c < cLine → is s.heap x u → is s.heap y v → SeqAt.EqAt A s u v (decide (x = y))
 quiet : ∀ {A : Around} {E : Value → Shared → Prop} {s : Shared} {k : K} {v : Value} {Q : Bool → Shared → Prop} (n : Nat), c ≤ n → is s.heap k v → Q true s → wpAny (model prog w) A (eqIsQuiet n v) Q E s
noncomputable def atomVK (prog : Program) (w : World) : KeyV prog w Key 0 where
 is := fun _ k v => keyIs k v = true
 hash := keyH w
 draws := fun _ => 1
 inj := fun hx hy => (mixKind prog w).inj _ _ _ hx hy
 keeps := fun x _ _ _ => x
 hashed := fun _ hv h => (mixKind prog w).pyHash hv h
 eqAt := fun _ hx hy prog' w' _ _ h => (mixKind prog' w').eqBool hx hy h
 quiet := fun n _ hv h => by rw [eqIsQuiet_byValue n ((mixKind prog w).byValue _ _ hv)]; exact wpAny_pure h
section
variable {prog : Program} {w : World} {K : Type} [DecidableEq K] {c : Nat}
inductive ItemsV (V : KeyV prog w K c) (h : Heap) : List K → List Value → Prop
 | nil : ItemsV V h [] []
 | cons {k : K} {v : Value} {ks : List K} {vs : List Value} : V.is h k v → ItemsV V h ks vs → ItemsV V h (k :: ks) (v :: vs)
theorem ItemsV.inj {V : KeyV prog w K c} {h : Heap} {x : List K} {vs : List Value} (hx : ItemsV V h x vs) : ∀ {y : List K}, ItemsV V h y vs → x = y := by
 induction hx with
 | nil => intro y hy; cases hy; rfl
 | cons a _ ih => intro y hy; cases hy with | cons b t => rw [V.inj a b, ih t]
theorem ItemsV.length {V : KeyV prog w K c} {h : Heap} {x : List K} {vs : List Value} (hx : ItemsV V h x vs) : x.length = vs.length := by
 induction hx with
 | nil => rfl
 | cons _ _ ih => simp [ih]
theorem ItemsV.get {V : KeyV prog w K c} {h : Heap} {x : List K} {vs : List Value} (hx : ItemsV V h x vs) : ∀ {j : Nat} {v : Value}, vs[j]? = some v → ∃ k, x[j]? = some k ∧ V.is h k v := by
 induction hx with
 | nil => intro j v e; simp at e
 | cons a _ ih =>
  intro j v e
  cases j with
  | zero => simp at e; subst e; exact ⟨_, rfl, a⟩
  | succ j => obtain ⟨k, h1, h2⟩ := ih (j := j) (v := v) (by simpa using e); exact ⟨k, by simpa using h1, h2⟩
theorem ItemsV.keeps {V : KeyV prog w K c} {h h' : Heap} {x : List K} {vs : List Value} {d : Addr} {o : Obj} {es : Array DictEntry} {ep : Nat} (hx : ItemsV V h x vs) (ho : h.get? d = some o) (hd : o.data = .dict es ep) (hs : Heap.SameBut d h h') : ItemsV V h' x vs := by
 induction hx with
 | nil => exact .nil
 | cons a _ ih => exact .cons (V.keeps a ho hd hs) ih
noncomputable def IsTupV (V : KeyV prog w K c) (h : Heap) (ks : List K) (v : Value) : Prop := ∃ (a : Addr) (o : Obj) (items : Array Value) (n : Nat), v = .ref a ∧ h.get? a = some o ∧ o.cls = .type "tuple" ∧ o.data = .seq items n ∧ ItemsV V h ks items.toList
theorem all_eq : ∀ (x y : List K), ((List.range (min x.length y.length)).all (fun j => decide (x[j]? = y[j]?)) && x.length == y.length) = decide (x = y) := by
 intro x y
 by_cases e : x = y
 ·subst e; simp
 ·rw [decide_eq_false e, Bool.and_eq_false_iff]
  by_cases l : x.length = y.length
  ·left
   rw [List.all_eq_false]
   have : ∃ j : Nat, x[j]? ≠ y[j]? := by
    apply Classical.byContradiction
    intro q
    exact e (List.ext_getElem? fun j => Classical.byContradiction fun z => q ⟨j, z⟩)
   obtain ⟨j, hj⟩ := this
   refine ⟨j, List.mem_range.mpr ?_, by simpa using hj⟩
   rcases Nat.lt_or_ge j (min x.length y.length) with z | z
   ·exact z
   ·exact absurd (by rw [List.getElem?_eq_none (by omega), List.getElem?_eq_none (by omega)]) hj
  ·right; simpa using l
noncomputable def tupVK (V : KeyV prog w K c) : KeyV prog w (List K) (c + 2) where
 is := IsTupV V
 hash := fun ks => reduceHash (Builtin.Tuple.tupleHashOf (ks.map V.hash))
 draws := fun ks => (ks.map V.draws).sum + 1
 inj := by
  rintro h v x y ⟨a, o, items, n, rfl, ho, _, hd, hi⟩ ⟨a', o', items', n', e, ho', _, hd', hi'⟩
  cases e
  rw [ho] at ho'; cases ho'
  rw [hd] at hd'; cases hd'
  exact hi.inj hi'
 keeps := by
  rintro h h' k v d o es ep ⟨a, o', items, n, rfl, ho', hc, hd', hi⟩ ho hd hs
  have ne : a ≠ d := by
   rintro rfl
   rw [ho] at ho'; cases ho'
   rw [hd] at hd'; cases hd'
  exact ⟨a, o', items, n, rfl, (hs.2 a ne).trans ho', hc, hd', hi.keeps ho hd hs⟩
 hashed := by
  rintro A E s ks v Q hu ⟨a, o, items, n, rfl, ho, hc, hd, hi⟩ h
  refine PySem.W.pyHash_slot (T := "tuple") ⟨o, ho, hc⟩ F.slot_tuple_hash F.entry_tuple_hash (F.args_tuple_hash_1 _) (beq_builtin_none _) (.inr (by omega)) ?_
  refine (show wpAny _ _ (Builtin.Tuple.tupleItemsOf (.ref a) >>= _) _ _ s from wpAny_bind (wpAny_tupleItemsOf ho hd (wpAny_bind ?_)))
  rw [← Array.forIn_toList]
  refine wpAny_forIn_list _ (fun rest (b : Array Int) z => ∃ done left, ks = done ++ left ∧ ItemsV V s.heap left rest ∧ b.toList = done.map V.hash ∧ z = { s with toks := s.toks + (done.map V.draws).sum }) _ ?_ ?_ _ _ ⟨[], ks, rfl, hi, rfl, rfl⟩
  ·rintro x rest b z ⟨done, left, rfl, hl, hb, rfl⟩
   cases hl with
   | @cons k _ ks' _ h1 hl' =>
    refine wpAny_bind (V.hashed (by rw [Around.in1_units]; omega) h1 ?_)
    first
     | exact wpAny_pure ⟨done ++ [k], ks', by simp, hl', by simp [hb], (by simp [Nat.add_assoc])⟩
     | exact wpAny_bind (wpAny_pure (wpAny_pure ⟨done ++ [k], ks', by simp, hl', by simp [hb], (by simp [Nat.add_assoc])⟩))
  ·rintro b z ⟨done, left, rfl, hl, hb, rfl⟩
   cases hl
   rw [List.append_nil] at h
   refine (show wpAny _ _ (retInt (Builtin.Tuple.tupleHashOf b.toList)) _ _ _ from ?_)
   rw [hb]
   exact wpAny_bind (wpAny_mkInt (wpAny_pure ⟨_, _, rfl, by simpa [Nat.add_assoc] using h⟩))
 eqAt := by
  rintro A s x y u v hu ⟨a, o, items, n, rfl, ho, hc, hd, hi⟩ ⟨a', o', items', n', rfl, ho', hc', hd', hi'⟩
  by_cases e : a = a'
  ·subst e
   rw [ho] at ho'; cases ho'
   rw [hd] at hd'; cases hd'
   rw [hi.inj hi', decide_eq_true rfl]
   exact SeqAt.EqAt.same _
  ·have R := SeqAt.RcAt.tuples (A := A) (s := s) (l := a) (b := a') (e := fun j => decide (x[j]? = y[j]?)) ⟨o, ho, hc, n, hd⟩ ⟨o', ho', hc', n', hd'⟩ (by omega) (fun j j1 j2 => ?_)
   ·have l1 := hi.length
    have l2 := hi'.length
    rw [← all_eq x y, l1, l2]
    have R' := SeqAt.EqAt.of_refs e R
    simpa using R'
   ·obtain ⟨k, h1, h2⟩ := hi.get (j := j) (v := items[j]) (by simp [j1])
    obtain ⟨k', h1', h2'⟩ := hi'.get (j := j) (v := items'[j]) (by simp [j2])
    have := V.eqAt (A := A.in1) (s := s) (by rw [Around.in1_units]; omega) h2 h2'
    rw [h1, h1']
    simpa using this
 quiet := by
  rintro A E s ks v Q n hn ⟨a, o, items, m, rfl, ho, hc, hd, hi⟩ h
  obtain ⟨n, rfl⟩ : ∃ nn, n = nn + 1 := ⟨n - 1, by omega⟩
  have hT : s.TypeIs (.ref a) "tuple" := ⟨o, ho, hc⟩
  unfold eqIsQuiet; refine wpAny_bind (wpAny_specialOf hT F.slot_tuple_eq.lookup ?_)
  refine (show wpAny _ _ (isInstance (.ref a) (.type "tuple") >>= _) _ _ s from wpAny_bind (wpAny_isInstance hT isSubtype_tuple_tuple ?_))
  simp only [if_false, Bool.not_true, Bool.false_eq_true]
  refine wpAny_bind (wpAny_seqItems ho hd (wpAny_bind ?_))
  refine (show wpAny _ _ (forIn items _ _) _ _ s from ?_)
  rw [← Array.forIn_toList]
  refine wpAny_forIn_list _ (fun rest r z => r.1 = none ∧ z = s ∧ ∃ left, ItemsV V s.heap left rest) _ ?_ ?_ _ _ ⟨rfl, rfl, ks, hi⟩
  ·rintro x rest r z ⟨hr, rfl, left, hl⟩
   cases hl with
   | cons h1 hl' =>
    refine wpAny_bind (V.quiet n (by omega) h1 ?_)
    simp only [if_false, Bool.not_true, Bool.false_eq_true]
    exact wpAny_pure ⟨rfl, rfl, _, hl'⟩
  ·rintro ⟨r1, r2⟩ z ⟨hr, rfl, _⟩
   simp only at hr; subst hr
   exact wpAny_pure h
theorem dec_inl {α β : Type} [DecidableEq α] [DecidableEq β] (a b : α) : decide ((Sum.inl a : α ⊕ β) = Sum.inl b) = decide (a = b) := by
 by_cases e : a = b
 ·simp [e]
 ·rw [decide_eq_false e, decide_eq_false fun z => e (Sum.inl.inj z)]
theorem dec_inr {α β : Type} [DecidableEq α] [DecidableEq β] (a b : β) : decide ((Sum.inr a : α ⊕ β) = Sum.inr b) = decide (a = b) := by
 by_cases e : a = b
 ·simp [e]
 ·rw [decide_eq_false e, decide_eq_false fun z => e (Sum.inr.inj z)]
noncomputable def sumVK (V : KeyV prog w K c) : KeyV prog w (Key ⊕ List K) (c + 2) where
 is := fun h k v => match k with
  | .inl k => keyIs k v = true
  | .inr ks => IsTupV V h ks v
 hash := fun k => match k with
  | .inl k => keyH w k
  | .inr ks => (tupVK V).hash ks
 draws := fun k => match k with
  | .inl _ => 1
  | .inr ks => (tupVK V).draws ks
 inj := by
  rintro h v (x | x) (y | y) hx hy
  ·rw [(mixKind prog w).inj _ _ _ hx hy]
  ·obtain ⟨a, _, _, _, rfl, _⟩ := hy
   rcases keyIs_shape hx with ⟨i, t, _, e⟩ | ⟨i, t, _, e⟩ <;> cases e
  ·obtain ⟨a, _, _, _, rfl, _⟩ := hx
   rcases keyIs_shape hy with ⟨i, t, _, e⟩ | ⟨i, t, _, e⟩ <;> cases e
  ·rw [(tupVK V).inj hx hy]
 keeps := by
  rintro h h' (k | k) v d o es ep hx ho hd hs
  ·exact hx
  ·exact (tupVK V).keeps hx ho hd hs
 hashed := by
  rintro A E s (k | k) v Q hu hx h
  ·exact (mixKind prog w).pyHash hx h
  ·exact (tupVK V).hashed hu hx h
 eqAt := by
  rintro A s (x | x) (y | y) u v hu hx hy
  ·rw [dec_inl]
   exact (atomVK prog w).eqAt (by omega) hx hy
  ·rw [decide_eq_false fun z => nomatch z]
   obtain ⟨a, o, items, n, rfl, ho, hc, hd, _⟩ := hy
   rcases keyIs_shape hx with ⟨i, t, _, rfl⟩ | ⟨i, t, _, rfl⟩
   ·exact SeqAt.EqAt.int_tuple i t ⟨o, ho, hc, n, hd⟩ (by omega)
   ·exact SeqAt.EqAt.str_tuple i t ⟨o, ho, hc, n, hd⟩ (by omega)
  ·rw [decide_eq_false fun z => nomatch z]
   obtain ⟨a, o, items, n, rfl, ho, hc, hd, _⟩ := hx
   rcases keyIs_shape hy with ⟨i, t, _, rfl⟩ | ⟨i, t, _, rfl⟩
   ·exact SeqAt.EqAt.tuple_int i t ⟨o, ho, hc, n, hd⟩ (by omega)
   ·exact SeqAt.EqAt.tuple_str i t ⟨o, ho, hc, n, hd⟩ (by omega)
  ·rw [dec_inr]
   exact (tupVK V).eqAt hu hx hy
 quiet := by
  rintro A E s (k | k) v Q n hn hx h
  ·exact (atomVK prog w).quiet n (Nat.zero_le _) hx h
  ·exact (tupVK V).quiet n hn hx h
end
noncomputable abbrev K1 := Key ⊕ List Key
noncomputable abbrev K2 := Key ⊕ List K1
noncomputable abbrev TKey := List K2
noncomputable def vk1 (prog : Program) (w : World) : KeyV prog w K1 2 := sumVK (atomVK prog w)
noncomputable def vk2 (prog : Program) (w : World) : KeyV prog w K2 4 := sumVK (vk1 prog w)
noncomputable def treeKind (prog : Program) (w : World) : HeapKind prog w TKey where
 is := fun h ks a => (tupVK (vk2 prog w)).is h ks (.ref a)
 hash := (tupVK (vk2 prog w)).hash
 draws := (tupVK (vk2 prog w)).draws
 room := fun A => A.units + 6 < cLine
 inj := fun hx hy => (tupVK (vk2 prog w)).inj hx hy
 keeps := fun x ho hd hs => (tupVK (vk2 prog w)).keeps x ho hd hs
 pyHash := fun hu hk h => (tupVK (vk2 prog w)).hashed hu hk h
 eqBool := fun hu hx hy h => (tupVK (vk2 prog w)).eqAt hu hx hy _ _ _ _ h
 quiet := fun hk h => (tupVK (vk2 prog w)).quiet 8 (by decide) hk h
theorem treeKind_room_in1 {prog : Program} {w : World} {A : Around} (hu : A.units + 20 < cLine) : (treeKind prog w).room A.in1 := by
 show A.in1.units + 6 < cLine
 rw [Around.in1_units]; omega
end L2
namespace L2
open PySem PySem.Spec PyProof.Rows
inductive V where
 | non | bl (b : Bool) | int (i : Int) | str (x : Str) | byt (b : Array UInt8) | flt (b : UInt64) | ref (a : Addr) | ty (n : String)
 deriving DecidableEq
noncomputable def RelV : V → Value → Prop
 | .non, u => u = Value.none
 | .bl b, u => u = Value.bool b
 | .int i, u => ∃ t, u = Value.int i t
 | .str x, u => ∃ t, u = Value.str x t
 | .byt b, u => ∃ t, u = Value.bytes b t
 | .flt b, u => ∃ t, u = Value.float b t
 | .ref a, u => u = Value.ref a
 | .ty n, u => u = Value.type n
noncomputable abbrev Vals : List V → List Value → Prop := Paired RelV
theorem Vals.length {xs : List V} {us : List Value} (r : Vals xs us) : xs.length = us.length := Paired.length r
theorem Vals.get : ∀ {xs : List V} {us : List Value} {i : Nat} {x : V}, Vals xs us → xs[i]? = some x → ∃ u, us[i]? = some u ∧ RelV x u
 | _, _, _, _, .nil, e => by simp at e
 | _, _, 0, _, .cons r _, e => by simp at e; subst e; exact ⟨_, rfl, r⟩
 | _, _, i + 1, x, .cons _ t, e => by
  obtain ⟨u, h1, h2⟩ := Vals.get (i := i) (x := x) t (by simpa using e)
  exact ⟨u, by simpa using h1, h2⟩
theorem Vals.set {x : V} {u : Value} (r : RelV x u) : ∀ {xs : List V} {us : List Value} (i : Nat), Vals xs us → Vals (xs.set i x) (us.set i u)
 | _, _, _, .nil => .nil
 | _, _, 0, .cons _ t => .cons r t
 | _, _, i + 1, .cons q t => .cons q (Vals.set r i t)
theorem Vals.append : ∀ {xs ys : List V} {us ws : List Value}, Vals xs us → Vals ys ws → Vals (xs ++ ys) (us ++ ws)
 | _, _, _, _, .nil, s => s
 | _, _, _, _, .cons r t, s => .cons r (Vals.append t s)
theorem Vals.take : ∀ {xs : List V} {us : List Value} (n : Nat), Vals xs us → Vals (xs.take n) (us.take n)
 | _, _, 0, _ => .nil
 | _, _, _ + 1, .nil => .nil
 | _, _, n + 1, .cons r t => .cons r (Vals.take n t)
theorem Vals.drop : ∀ {xs : List V} {us : List Value} (n : Nat), Vals xs us → Vals (xs.drop n) (us.drop n)
 | _, _, 0, r => r
 | _, _, _ + 1, .nil => .nil
 | _, _, n + 1, .cons _ t => Vals.drop n t
theorem Vals.none_of : ∀ {xs : List V} {us : List Value} {i : Nat}, Vals xs us → xs[i]? = none → us[i]? = none := fun {xs us i} r e => by
 have h1 := r.length
 have h2 : xs.length ≤ i := List.getElem?_eq_none_iff.mp e
 exact List.getElem?_eq_none_iff.mpr (by omega)
noncomputable def RelO : Option V → Option Value → Prop
 | some v, some u => RelV v u
 | none, none => True
 | _, _ => False
noncomputable def KV {κ : Type} : List (κ × V) → List (κ × Value) → Prop := Paired fun (p : κ × V) (q : κ × Value) => p.1 = q.1 ∧ RelV p.2 q.2
noncomputable def kV : Key → V
 | .inl i => .int i
 | .inr x => .str x
inductive HO where
  | lst (xs : List V)
  | tup (xs : List V)
  | dK (kvs : List (Key × V)) | dT (kvs : List (TKey × V))
  | set (S : Int → Bool) (n : Nat)
  | ins (C dx : Addr) (fs : List (Str × V))
  | own (x : Addr)
  | xd (fs : List (Str × V))
  | met (f x : Addr)
  | rng (lo hi : Int)
  | frz (o : Obj) (u : HO)
  | tbl (ps : Array Value)
  | ext (φ : Heap → Prop)
noncomputable abbrev Hp := Addr → Option HO
noncomputable def upd (H : Hp) (a : Addr) (o : HO) : Hp := fun b => if b = a then some o else H b
theorem upd_same {H : Hp} {a : Addr} {o : HO} : upd H a o a = some o := by unfold upd; rw [if_pos rfl]
theorem upd_ne {H : Hp} {a b : Addr} {o : HO} (h : b ≠ a) : upd H a o b = H b := by unfold upd; rw [if_neg h]
theorem ne_of {H : Hp} {a b : Addr} {o u : HO} (h : H a = some o) (h' : H b = some u) (d : o ≠ u) : a ≠ b := by
 intro e; subst e; rw [h] at h'; exact d (Option.some.inj h')
theorem ne_of_none {H : Hp} {a b : Addr} {o : HO} (h : H a = some o) (h' : H b = none) : a ≠ b := by
 intro e; subst e; rw [h] at h'; cases h'
noncomputable def Rk1 (H : Hp) (k : K1) (v : V) : Prop := match k with
 | .inl k => v = kV k
 | .inr ks => ∃ p vs, v = .ref p ∧ H p = some (.tup vs) ∧ Paired (fun k v => v = kV k) ks vs
noncomputable def Rk2 (H : Hp) (k : K2) (v : V) : Prop := match k with
 | .inl k => v = kV k
 | .inr ks => ∃ p vs, v = .ref p ∧ H p = some (.tup vs) ∧ Paired (Rk1 H) ks vs
noncomputable def TKeyAt (H : Hp) (ks : TKey) (a : Addr) : Prop := ∃ vs, H a = some (.tup vs) ∧ Paired (Rk2 H) ks vs
theorem paired_mono {α β : Type} {F G : α → β → Prop} (f : ∀ a b, F a b → G a b) : ∀ {l : List α} {m : List β}, Paired F l m → Paired G l m
 | _, _, .nil => .nil
 | _, _, .cons r t => .cons (f _ _ r) (paired_mono f t)
theorem Rk1.mono {H H' : Hp} (ht : ∀ b ys, H b = some (.tup ys) → H' b = some (.tup ys)) (k : K1) (v : V) (r : Rk1 H k v) : Rk1 H' k v := by
 cases k with
 | inl k => exact r
 | inr ks => obtain ⟨p, vs, e, h, t⟩ := r; exact ⟨p, vs, e, ht _ _ h, t⟩
theorem Rk2.mono {H H' : Hp} (ht : ∀ b ys, H b = some (.tup ys) → H' b = some (.tup ys)) (k : K2) (v : V) (r : Rk2 H k v) : Rk2 H' k v := by
 cases k with
 | inl k => exact r
 | inr ks => obtain ⟨p, vs, e, h, t⟩ := r; exact ⟨p, vs, e, ht _ _ h, paired_mono (Rk1.mono ht) t⟩
theorem TKeyAt.mono {H H' : Hp} {ks : TKey} {a : Addr} (r : TKeyAt H ks a) (ht : ∀ b ys, H b = some (.tup ys) → H' b = some (.tup ys)) : TKeyAt H' ks a := by
 obtain ⟨vs, h, t⟩ := r; exact ⟨vs, ht _ _ h, paired_mono (Rk2.mono ht) t⟩
section
variable (P : Program) (w : World)
noncomputable def TupD (h : Heap) (a : Addr) (items : Array Value) : Prop := ∃ o, h.get? a = some o ∧ o.cls = .type "tuple" ∧ ∃ n, o.data = .seq items n ∧ o.dict = none
theorem TupD.is {h : Heap} {a : Addr} {items : Array Value} (x : TupD h a items) : IsTup h a items := let ⟨o, e, c, n, d, _⟩ := x; ⟨o, e, c, n, d⟩
theorem TupD.new (h : Heap) (items : Array Value) : TupD (h.push { cls := .type "tuple", data := .seq items }) h.objs.size items := ⟨_, Heap.get?_push_size _ rfl, rfl, _, rfl, rfl⟩
noncomputable def ObjOk (H : Hp) (h : Heap) (a : Addr) : HO → Prop
 | .lst xs => xs.length ≤ sizeLine ∧ ∃ (its : List Value) (n : Nat), Vals xs its ∧ h.get? a = some { cls := .type "list", data := .seq its.toArray n }
 | .tup xs => xs.length ≤ sizeLine ∧ ∃ its : List Value, Vals xs its ∧ TupD h a its.toArray
 | .dK kvs => kvs.length ≤ sizeLine ∧ (a == sysModules) = false ∧ ∃ vs, KV kvs vs ∧ h.DictOf (mixKind P w) a vs
 | .dT kvs => kvs.length ≤ sizeLine ∧ (a == sysModules) = false ∧ ∃ xs : List (TKey × Addr × Value),
   Paired (fun (p : TKey × V) (q : TKey × Addr × Value) => p.1 = q.1 ∧ TKeyAt H p.1 q.2.1 ∧ RelV p.2 q.2.2) kvs xs ∧
   ∃ o es ep, h.get? a = some o ∧ o.ExactDict ∧ o.data = .dict es ep ∧ es.toList = xs.map (entryOfKey (treeKind P w)) ∧ (xs.map (·.1)).Nodup
 | .set S n => h.SetOf (intKind P w) a S n
 | .ins C dx fs => H dx = some (.own a) ∧ fs.length ≤ 1000 ∧ dx ≠ a ∧ h.get? a = some (PySem.W.instObj C dx) ∧
   ∃ mA, h.Ns1 dx mA ∧ (∀ f, RelO (fs.lookup f) (mA f)) ∧ PySem.Within mA (fs.map (·.1))
 | .own _ => ∃ o, h.get? a = some o
 | .xd fs => ∃ mA, h.Ns1 a mA ∧ ∀ f, RelO (fs.lookup f) (mA f)
 | .rng lo hi => ∃ t u v, h.get? a = some { cls := .type "range", data := .fields #[.int lo t, .int hi u, .int 1 v] }
 | .frz o u => h.get? a = some o ∧ ObjOk H h a u
 | .tbl ps => h.get? a = some { cls := .none, data := .fields ps }
 | .met f x => h.get? a = some (PySem.W.methodObj (.ref f) (.ref x))
 | .ext φ => φ h ∧ (∃ o, h.get? a = some o) ∧ ∀ h1 h2 : Heap, φ h1 → (∀ o, h1.get? a = some o → h2.get? a = some o) → φ h2
noncomputable def HOk (H : Hp) (h : Heap) : Prop := ∀ a o, H a = some o → ObjOk P w H h a o
end
section
variable {P : Program} {w : World} {H H' : Hp} {h h' : Heap} {a : Addr} {o : HO}
theorem ObjOk.lt (x : ObjOk P w H h a o) : a < h.objs.size := by
 cases o with
 | lst xs => obtain ⟨_, _, _, _, e⟩ := x; exact Heap.lt_size e
 | tup xs => obtain ⟨_, _, _, p⟩ := x; exact p.is.lt
 | dK kvs => obtain ⟨_, _, _, _, o, _, _, e, _⟩ := x; exact Heap.lt_size e
 | dT kvs => obtain ⟨_, _, _, _, o, _, _, e, _⟩ := x; exact Heap.lt_size e
 | set S n => obtain ⟨o, _, _, _, e, _⟩ := x; exact Heap.lt_size e
 | ins C dx fs => obtain ⟨_, _, _, e, _⟩ := x; exact Heap.lt_size e
 | own y => obtain ⟨_, e⟩ := x; exact Heap.lt_size e
 | xd fs => obtain ⟨_, ⟨_, _, _, e, _⟩, _⟩ := x; exact Heap.lt_size e
 | rng lo hi => obtain ⟨_, _, _, e⟩ := x; exact Heap.lt_size e
 | frz ob u => obtain ⟨e, _⟩ := x; exact Heap.lt_size e
 | tbl ps => exact Heap.lt_size (show h.get? a = some _ from x)
 | met f y => exact Heap.lt_size (show h.get? a = some _ from x)
 | ext φ => obtain ⟨_, ⟨_, e⟩, _⟩ := x; exact Heap.lt_size e
theorem Paired.mapP {α β : Type} {F G : α → β → Prop} : ∀ {l₁ : List α} {l₂ : List β}, Paired F l₁ l₂ → (∀ a b, F a b → G a b) → Paired G l₁ l₂
 | _, _, .nil, _ => .nil
 | _, _, .cons r t, f => .cons (f _ _ r) (Paired.mapP t f)
theorem ObjOk.stay (x : ObjOk P w H h a o) (k : ∀ b u, (b = a ∨ H b = some (.own a)) → h.get? b = some u → h'.get? b = some u)
  (ho : ∀ b, H b = some (.own a) → H' b = some (.own a)) (ht : ∀ b xs, H b = some (.tup xs) → H' b = some (.tup xs)) : ObjOk P w H' h' a o := by
 induction o with
 | lst xs => obtain ⟨z, its, n, r, e⟩ := x; exact ⟨z, its, n, r, k _ _ (.inl rfl) e⟩
 | tup xs => obtain ⟨z, its, r, ob, e, c⟩ := x; exact ⟨z, its, r, ob, k _ _ (.inl rfl) e, c⟩
 | dK kvs => obtain ⟨z, y, vs, r, ob, es, ep, e, c⟩ := x; exact ⟨z, y, vs, r, ob, es, ep, k _ _ (.inl rfl) e, c⟩
 | dT kvs =>
  obtain ⟨z, y, xs, r, ob, es, ep, e, c⟩ := x
  exact ⟨z, y, xs, Paired.mapP r fun p q z => ⟨z.1, z.2.1.mono ht, z.2.2⟩, ob, es, ep, k _ _ (.inl rfl) e, c⟩
 | set S n => obtain ⟨ob, es, ep, t, e, c⟩ := x; exact ⟨ob, es, ep, t, k _ _ (.inl rfl) e, c⟩
 | ins C dx fs =>
  obtain ⟨d, z, ne, e, mA, ⟨od, es, ep, e2, c⟩, r⟩ := x
  exact ⟨ho _ d, z, ne, k _ _ (.inl rfl) e, mA, ⟨od, es, ep, k _ _ (.inr d) e2, c⟩, r⟩
 | own y => obtain ⟨ob, e⟩ := x; exact ⟨ob, k _ _ (.inl rfl) e⟩
 | xd fs => obtain ⟨mA, ⟨od, es, ep, e, c⟩, r⟩ := x; exact ⟨mA, ⟨od, es, ep, k _ _ (.inl rfl) e, c⟩, r⟩
 | rng lo hi => obtain ⟨t, u, v, e⟩ := x; exact ⟨t, u, v, k _ _ (.inl rfl) e⟩
 | frz ob u ih => obtain ⟨e, q⟩ := x; exact ⟨k _ _ (.inl rfl) e, ih q⟩
 | tbl ps =>
  have e : h.get? a = some { cls := .none, data := .fields ps } := x
  show h'.get? a = some { cls := .none, data := .fields ps }
  exact k a _ (.inl rfl) e
 | met f y =>
  have e : h.get? a = some (PySem.W.methodObj (.ref f) (.ref y)) := x
  show h'.get? a = some (PySem.W.methodObj (.ref f) (.ref y))
  exact k a _ (.inl rfl) e
 | ext φ => obtain ⟨p, ⟨o, e⟩, st⟩ := x; exact ⟨st _ _ p fun o q => k _ _ (.inl rfl) q, ⟨o, k _ _ (.inl rfl) e⟩, st⟩
theorem HOk.lt (x : HOk P w H h) (e : H a = some o) : a < h.objs.size := (x a o e).lt
theorem HOk.fresh (x : HOk P w H h) (e : h.objs.size ≤ a) : H a = none := by
 cases q : H a with
 | none => rfl
 | some u => exact absurd (Nat.lt_of_lt_of_le (x.lt q) e) (Nat.lt_irrefl _)
theorem HOk.kept (x : HOk P w H h) (k : ∀ b u, h.get? b = some u → h'.get? b = some u) : HOk P w H h' := fun a o e =>
 (x a o e).stay (fun b u _ q => k b u q) (fun _ q => q) fun _ _ q => q
theorem HOk.laid (x : HOk P w H h) (k : ∀ b u, h.get? b = some u → h'.get? b = some u) (hp : h.objs.size ≤ a) (new : ObjOk P w (upd H a o) h' a o) : HOk P w (upd H a o) h' := fun b u e => by
 have hn := x.fresh hp
 by_cases hb : b = a
 ·subst hb; rw [upd_same] at e; cases e; exact new
 ·rw [upd_ne hb] at e
  exact (x b u e).stay (fun c v _ q => k c v q) (fun c q => by rw [upd_ne (ne_of_none q hn)]; exact q) fun c xs q => by rw [upd_ne (ne_of_none q hn)]; exact q
end
noncomputable def Rd (H : Hp) (a : Addr) (u : HO) : Prop := H a = some u ∨ ∃ o, H a = some (.frz o u)
theorem Rd.ok {P : Program} {w : World} {H : Hp} {h : Heap} {a : Addr} {u : HO} (r : Rd H a u) (x : HOk P w H h) : ObjOk P w H h a u := by
 rcases r with r | ⟨o, r⟩
 ·exact x a u r
 ·obtain ⟨_, q⟩ := x a _ r
  exact q
noncomputable def Mut : Option HO → Prop
 | some (.lst _) => True
 | some (.dK _) => True
 | some (.dT _) => True
 | some (.set _ _) => True
 | some (.ins _ _ _) => True
 | some (.ext _) => True
 | _ => False
section
variable {P : Program} {w : World} {H : Hp} {h h' : Heap} {x e : Addr} {o' : HO}
theorem HOk.write (ok : HOk P w H h) (mu : Mut (H x)) (he : e = x ∨ H e = some (.own x)) (k : ∀ b u, b ≠ e → h.get? b = some u → h'.get? b = some u) (heo : ∃ u, h'.get? e = some u)
  (new : ObjOk P w (upd H x o') h' x o') : HOk P w (upd H x o') h' := fun b u q => by
 have nown : ∀ c y, H c = some (.own y) → c ≠ x := fun c y r z => by subst z; rw [r] at mu; exact mu
 have ntup : ∀ c xs, H c = some (.tup xs) → c ≠ x := fun c xs r z => by subst z; rw [r] at mu; exact mu
 by_cases hb : b = x
 ·subst hb; rw [upd_same] at q; cases q; exact new
 ·rw [upd_ne hb] at q
  by_cases hbe : b = e
  ·have q' : H b = some (.own x) := by
    rcases he with z | z
    ·exact absurd (hbe.trans z) hb
    ·rw [hbe]; exact z
   rw [q] at q'; cases q'
   obtain ⟨v, hv⟩ := heo
   exact ⟨v, by rw [hbe]; exact hv⟩
  ·refine (ok b u q).stay (fun c v hc r => k c v ?_ r) (fun c r => by rw [upd_ne (nown c b r)]; exact r) fun c xs r => by rw [upd_ne (ntup c xs r)]; exact r
   rcases hc with rfl | hc
   ·exact hbe
   ·rintro rfl
    rcases he with z | z
    ·exact nown c b hc z
    ·rw [hc] at z; cases z; exact hb rfl
end
structure Un (fs ex : List Addr) (H H' : Hp) (h h' : Heap) : Prop where
 keep : ∀ b o, h.get? b = some o → H b = none → b ∉ fs → b ∉ ex → h'.get? b = some o
 slot : ∀ b o, h.get? b = some o → H b = none → b ∈ fs → b ∉ ex → ∃ sl, h'.get? b = some { o with slots := sl }
 free : ∀ b o, h.get? b = some o → H b = none → b ∉ ex → H' b = none
 there : ∀ b o, h.get? b = some o → b ∉ ex → ∃ o', h'.get? b = some o'
 tups : ∀ b xs, H b = some (.tup xs) → H' b = some (.tup xs)
 frzs : ∀ b o u, H b = some (.frz o u) → H' b = some (.frz o u)
 tbls : ∀ b ps, H b = some (.tbl ps) → ∃ more, H' b = some (.tbl (ps ++ more))
section
variable {fs fs' ex ex' : List Addr} {H H1 H2 : Hp} {h h1 h2 h' : Heap} {a x e : Addr} {o : HO}
theorem Un.any (u : Un fs ex H H1 h h1) {b : Addr} {ob : Obj} (q : h.get? b = some ob) (n : H b = none) (hx : b ∉ ex) : ∃ sl, h1.get? b = some { ob with slots := sl } := by
 by_cases hb : b ∈ fs
 ·exact u.slot b ob q n hb hx
 ·exact ⟨ob.slots, u.keep b ob q n hb hx⟩
theorem Un.kept (k : ∀ b u, h.get? b = some u → h'.get? b = some u) : Un fs ex H H h h' :=
 ⟨fun b ob q _ _ _ => k b ob q, fun b ob q _ _ _ => ⟨ob.slots, k b ob q⟩, fun _ _ _ n _ => n, fun b ob q _ => ⟨ob, k b ob q⟩, fun _ _ q => q, fun _ _ _ q => q, fun _ ps q => ⟨#[], by rw [q]; simp⟩⟩
theorem Un.refl : Un fs ex H H h h := Un.kept fun _ _ q => q
theorem Un.laid (k : ∀ b u, h.get? b = some u → h'.get? b = some u) (hp : h.objs.size ≤ a) (hn : H a = none) : Un fs ex H (upd H a o) h h' where
 keep := fun b u q _ _ _ => k b u q
 slot := fun b u q _ _ _ => ⟨u.slots, k b u q⟩
 free := fun b u q n _ => by rw [upd_ne (Nat.ne_of_lt (Nat.lt_of_lt_of_le (Heap.lt_size q) hp))]; exact n
 there := fun b u q _ => ⟨u, k b u q⟩
 tups := fun b xs q => by rw [upd_ne (ne_of_none q hn)]; exact q
 frzs := fun b u xs q => by rw [upd_ne (ne_of_none q hn)]; exact q
 tbls := fun b ps q => ⟨#[], by rw [upd_ne (ne_of_none q hn), q]; simp⟩
theorem Un.write (mu : Mut (H x)) (he : e = x ∨ H e = some (.own x)) (k : ∀ b u, b ≠ e → h.get? b = some u → h'.get? b = some u) (heo : ∃ u, h'.get? e = some u) : Un fs ex H (upd H x o) h h' := by
 have hx : ∀ b, H b = none → b ≠ x := fun b n z => by subst z; rw [n] at mu; exact mu
 have hb : ∀ b, H b = none → b ≠ e := fun b n z => by
  subst z
  rcases he with r | r
  ·exact hx b n r
  ·rw [n] at r; cases r
 have hm : ∀ b u, H b = some u → ¬ Mut (some u) → b ≠ x := fun b u q nm z => by subst z; rw [q] at mu; exact nm mu
 refine ⟨fun b u q n _ _ => k b u (hb b n) q, fun b u q n _ _ => ⟨u.slots, k b u (hb b n) q⟩, fun b u q n _ => by rw [upd_ne (hx b n)]; exact n, fun b u q _ => ?_,
  fun b xs q => by rw [upd_ne (hm b _ q fun z => z)]; exact q, fun b u xs q => by rw [upd_ne (hm b _ q fun z => z)]; exact q, fun b ps q => ⟨#[], by rw [upd_ne (hm b _ q fun z => z), q]; simp⟩⟩
 by_cases hbe : b = e
 ·subst hbe; exact heo
 ·exact ⟨u, k b u hbe q⟩
end
noncomputable def trk (h : Heap) (H : Hp) : List Addr := (List.range h.objs.size).filter fun a => (H a).isSome
noncomputable def hidT (h : Heap) (H : Hp) : Heap := PySem.W.hideAll h (trk h H)
theorem hidT_size (h : Heap) (H : Hp) : (hidT h H).objs.size = h.objs.size := PySem.W.hideAll_size _ _
theorem hidT_get {h : Heap} {H : Hp} {b : Addr} {o : Obj} (e : h.get? b = some o) (n : H b = none) : (hidT h H).get? b = some o :=
 PySem.W.hideAll_get _ e fun hm => by
  have q : (H b).isSome = true := (List.mem_filter.mp hm).2
  rw [n] at q; simp at q
theorem of_hidT {h : Heap} {H : Hp} {b : Addr} {o : Obj} (e : (hidT h H).get? b = some o) : h.get? b = some o ∧ H b = none := by
 have e' : h.get? b = some o := PySem.W.of_hideAll (trk h H) e
 refine ⟨e', ?_⟩
 cases q : H b with
 | none => rfl
 | some x =>
  have hm : b ∈ trk h H := List.mem_filter.mpr ⟨List.mem_range.mpr (Heap.lt_size e'), by simp [q]⟩
  have z : (hidT h H).get? b = none := PySem.W.hideAll_none (trk h H) hm
  rw [z] at e; cases e
noncomputable def allNews (g h : Heap) (L : Addr) : List (Addr × Obj) := (List.range h.objs.size).filterMap fun a => if a = L ∨ (g.get? a).isSome = true then none else (h.get? a).map fun o => (a, o)
noncomputable def rest (g h : Heap) (L d : Addr) : List (Addr × Obj) := (allNews g h L).filter fun p => decide (p.1 ≠ d)
end L2
namespace L2
open PySem PySem.Spec PyProof.Rows
structure Mod (K : PySem.W.Frag) (mg : Str → Option Value) (base : Heap) : Prop where
 kin : K.In base
 glob : base.Ns mainGlobals mg
 blt : ∃ mb, base.Ns builtinsNs mb ∧ ∀ x : Str, x ≠ "__name__" → mb x = bootBuiltins x
 nolimit : base.NoLimit
structure Cx where
 prog : Program
 w : World
 K : PySem.W.Frag
 mg : Str → Option Value
 base : Heap
 A : Around
 N : List Str
 s₀ : Shared
 H₀ : Hp
 env : Env
 outer : List Env
 stack : List Env
 ex : List Addr
 fn : Str → Bool
 calm : Bool
 pn : List (Addr × Obj)
 xe : Value → Shared → Prop
noncomputable def frs (l : List Env) : List Addr := l.filterMap (·.frame)
noncomputable abbrev Cx.fs (X : Cx) : List Addr := frs X.outer
noncomputable def Vis (sc : Scope) (x : Str) : Prop := sc.names.lookup x = some .local ∨ sc.names.lookup x = some .cell ∨ sc.names.lookup x = some .free
noncomputable def Loc (sc : Scope) (x : Str) : Prop := sc.names.lookup x = some .local ∨ sc.names.lookup x = some .cell
noncomputable def Look (env : Env) (h : Heap) (m : Str → Option Value) (x : Str) (u : Value) : Prop :=
 (env.kindOf x = some .local ∧ m x = some u) ∨ ((env.kindOf x = some .cell ∨ env.kindOf x = some .free) ∧ ∃ c, env.cells.lookup x = some c ∧ h.IsCell c (some u))
structure Cx.Ok (X : Cx) : Prop where
 mod : Mod X.K X.mg X.base
 kind : X.env.scope.kind = .function
 glob : X.env.globals = mainGlobals
 blt : X.env.builtins = builtinsNs
 above : X.s₀.heap.objs.size ≤ X.env.locals
 inj : ∀ x y c, X.env.cells.lookup x = some c → X.env.cells.lookup y = some c → x = y
 has : ∀ x, (X.env.kindOf x = some .cell ∨ X.env.kindOf x = some .free) → ∃ c, X.env.cells.lookup x = some c
 cab : ∀ x c, X.fn x = true → X.env.cells.lookup x = some c → X.s₀.heap.objs.size ≤ c
 hd : X.calm = true → X.A.handled = none
 frames : X.A.frames = some X.stack
 stk : X.stack = X.outer ∨ (X.stack = X.env :: X.outer ∧ X.env.frame = some X.env.locals)
 exf : ∀ b ∈ X.ex, b ≠ X.env.locals ∧ ∀ x c, X.env.cells.lookup x = some c → c ≠ b
 bs : ∀ b o, X.base.get? b = some o → X.s₀.heap.get? b = some o ∧ X.H₀ b = none
 bsz : X.base.objs.size ≤ X.s₀.heap.objs.size
 noex : ∀ b o, X.base.get? b = some o → b ∉ X.ex
 exfs : ∀ b ∈ X.ex, b ∉ X.fs
 funs : X.s₀.heap.FunFrames X.base X.outer
 frf : ∀ b ∈ X.fs, X.H₀ b = none
structure Inv (X : Cx) (pins : List (Addr × Obj)) (σ : List (Option V)) (H : Hp) (s : Shared) : Prop where
 ok : X.Ok
 os : s.os = X.s₀.os
 bare : AllBare s.gens
 base : Un X.fs X.ex X.H₀ H X.s₀.heap s.heap
 loc : ∃ m, s.heap.Ns X.env.locals m ∧ ∀ (i : Nat) (x : Str) (v : V), X.N[i]? = some x → σ[i]? = some (some v) → Vis X.env.scope x → ∃ u, RelV v u ∧ Look X.env s.heap m x u
 cell : ∀ x c, X.env.cells.lookup x = some c → ∃ v, s.heap.IsCell c v
 free : H X.env.locals = none
 freeC : ∀ x c, X.env.cells.lookup x = some c → H c = none
 pin : ∀ p ∈ X.pn ++ pins, s.heap.get? p.1 = some p.2 ∧ H p.1 = none ∧ p.1 ≠ X.env.locals ∧ p.1 ∉ X.fs ∧ ∀ v, p.2.data ≠ .cell v
 hok : HOk X.prog X.w H s.heap
 len : σ.length = X.N.length
section
variable {X : Cx} {pins : List (Addr × Obj)} {σ : List (Option V)} {H H' : Hp} {s : Shared} {h' : Heap}
theorem Cx.Ok.nofr (ok : X.Ok) {b : Addr} {o : Obj} (e : X.base.get? b = some o) : b ∉ X.fs := fun hb => by
 have := (ok.funs.mem hb).1
 rw [e] at this; cases this
theorem Inv.bs (I : Inv X pins σ H s) : ∀ b o, X.base.get? b = some o → s.heap.get? b = some o ∧ H b = none := fun b o e =>
 ⟨I.base.keep b o (I.ok.bs b o e).1 (I.ok.bs b o e).2 (I.ok.nofr e) (I.ok.noex b o e), I.base.free b o (I.ok.bs b o e).1 (I.ok.bs b o e).2 (I.ok.noex b o e)⟩
theorem Inv.bk (I : Inv X pins σ H s) : ∀ b o, X.base.get? b = some o → s.heap.get? b = some o := fun b o e => (I.bs b o e).1
theorem Inv.mod (I : Inv X pins σ H s) : Mod X.K X.mg X.base := I.ok.mod
theorem Inv.kIn (I : Inv X pins σ H s) : X.K.In s.heap := I.ok.mod.kin.keeps I.bk
theorem Inv.lt (I : Inv X pins σ H s) : X.env.locals < s.heap.objs.size := let ⟨_, hn, _⟩ := I.loc; hn.lt
theorem Inv.sz (I : Inv X pins σ H s) : X.s₀.heap.objs.size ≤ s.heap.objs.size := Nat.le_trans I.ok.above (Nat.le_of_lt I.lt)
theorem Inv.nofs (I : Inv X pins σ H s) {a : Addr} (h : s.heap.objs.size ≤ a) : a ∉ X.fs := fun hb => by
 obtain ⟨_, o, ho, _⟩ := I.ok.funs.mem hb
 exact absurd (Nat.lt_of_lt_of_le (Heap.lt_size ho) (Nat.le_trans I.sz h)) (Nat.lt_irrefl _)
theorem Inv.cne (I : Inv X pins σ H s) : ∀ x c, X.env.cells.lookup x = some c → c ≠ X.env.locals := fun x c e z => by
 obtain ⟨v, o, ho, hd⟩ := I.cell x c e
 obtain ⟨m, ⟨o', es, ep, ho', hd', _⟩, _⟩ := I.loc
 rw [z, ho'] at ho; cases ho; rw [hd'] at hd; cases hd
theorem Inv.funs (I : Inv X pins σ H s) : s.heap.FunFrames X.base X.outer := by
 have all : ∀ (l : List Env), (∀ b ∈ frs l, b ∈ X.fs) → X.s₀.heap.FunFrames X.base l → s.heap.FunFrames X.base l := by
  intro l
  induction l with
  | nil => intro _ _; trivial
  | cons env r ih =>
   intro hs hl
   obtain ⟨hk, ⟨L, o, hf, hn, ho, hd⟩, hr⟩ := hl
   have hL : L ∈ X.fs := hs L (by unfold frs; rw [List.filterMap_cons, hf]; exact List.mem_cons_self)
   obtain ⟨sl, e⟩ := I.base.slot L o ho (I.ok.frf L hL) hL fun z => I.ok.exfs L z hL
   exact ⟨hk, ⟨L, _, hf, hn, e, hd⟩, ih (fun b hb => hs b (by unfold frs; rw [List.filterMap_cons, hf]; exact List.mem_cons_of_mem _ hb)) hr⟩
 exact all X.outer (fun _ hb => hb) I.ok.funs
theorem Inv.stack (I : Inv X pins σ H s) : s.heap.FunFrames X.base X.stack := by
 rcases I.ok.stk with e | ⟨e, hf⟩
 ·rw [e]; exact I.funs
 ·rw [e]
  obtain ⟨m, hn, _⟩ := I.loc
  refine .cons (by rw [I.ok.kind]; decide) hf hn ?_ I.funs
  exact Heap.get?_none_of_le (Nat.le_trans I.ok.bsz I.ok.above)
theorem Inv.stkSub (I : Inv X pins σ H s) : ∀ b ∈ frs X.stack, b ∈ X.env.locals :: X.fs := fun b hb => by
 rcases I.ok.stk with e | ⟨e, hf⟩
 ·rw [e] at hb; exact List.mem_cons_of_mem _ hb
 ·rw [e] at hb
  unfold frs at hb
  rw [List.filterMap_cons, hf] at hb
  exact hb
theorem Inv.stkFree (I : Inv X pins σ H s) : ∀ b ∈ frs X.stack, H b = none := fun b hb => by
 rcases List.mem_cons.mp (I.stkSub b hb) with e | hb
 ·rw [e]; exact I.free
 ·obtain ⟨_, o, ho, _⟩ := I.ok.funs.mem hb
  exact I.base.free b o ho (I.ok.frf b hb) fun z => I.ok.exfs b z hb
theorem Inv.step {g' : Array GenState} {t' : Nat} {d' : Drawn} {ch : List Addr} (I : Inv X pins σ H s)
  (hch : ∀ b ∈ ch, (b ∈ X.ex ∨ X.s₀.heap.objs.size ≤ b) ∧ b ≠ X.env.locals ∧ (∀ x c, X.env.cells.lookup x = some c → c ≠ b) ∧ ∀ p ∈ X.pn ++ pins, p.1 ≠ b)
  (keep : ∀ b o, b ≠ X.env.locals → b ∉ X.fs → b ∉ ch → s.heap.get? b = some o → H b = none → h'.get? b = some o)
  (slot : ∀ b o, b ≠ X.env.locals → b ∈ X.fs → b ∉ ch → s.heap.get? b = some o → H b = none → ∃ sl, h'.get? b = some { o with slots := sl }) (free : ∀ b o, b ∉ ch → s.heap.get? b = some o → H b = none → H' b = none)
  (there : ∀ b o, b ∉ ch → s.heap.get? b = some o → ∃ o', h'.get? b = some o')
  (tups : ∀ b xs, H b = some (.tup xs) → H' b = some (.tup xs)) (frzs : ∀ b o u, H b = some (.frz o u) → H' b = some (.frz o u)) (tbls : ∀ b ps, H b = some (.tbl ps) → ∃ more, H' b = some (.tbl (ps ++ more)))
  (ns : ∀ m, s.heap.Ns X.env.locals m → h'.Ns X.env.locals m) (hok : HOk X.prog X.w H' h') (hg : AllBare g') :
  Inv X pins σ H' { s with heap := h', gens := g', drawn := d', toks := t' } := by
 have neL : ∀ b o, X.s₀.heap.get? b = some o → b ≠ X.env.locals := fun b o e => Nat.ne_of_lt (Nat.lt_of_lt_of_le (Heap.lt_size e) I.ok.above)
 have neC : ∀ b o, X.s₀.heap.get? b = some o → b ∉ X.ex → b ∉ ch := fun b o e hx hb => by
  rcases (hch b hb).1 with z | z
  ·exact hx z
  ·exact absurd (Nat.lt_of_lt_of_le (Heap.lt_size e) z) (Nat.lt_irrefl _)
 have cellK : ∀ x c, X.env.cells.lookup x = some c → ∀ v, s.heap.IsCell c v → h'.IsCell c v := fun x c e v ⟨o, ho, hd⟩ => by
  have nch : c ∉ ch := fun z => (hch c z).2.2.1 x c e rfl
  by_cases hc : c ∈ X.fs
  ·obtain ⟨sl, q⟩ := slot c o (I.cne x c e) hc nch ho (I.freeC x c e)
   exact ⟨_, q, hd⟩
  ·exact ⟨o, keep c o (I.cne x c e) hc nch ho (I.freeC x c e), hd⟩
 refine ⟨I.ok, I.os, hg, ⟨fun b o e n hb hx => ?_, fun b o e n hb hx => ?_, fun b o e n hx => ?_, fun b o e hx => ?_, fun b xs e => tups b xs (I.base.tups b xs e), fun b o xs e => frzs b o xs (I.base.frzs b o xs e), fun b ps e => ?_⟩, ?_, fun x c e => ?_, ?_, fun x c e => ?_, fun p hp => ?_, hok, I.len⟩
 ·exact keep b o (neL b o e) hb (neC b o e hx) (I.base.keep b o e n hb hx) (I.base.free b o e n hx)
 ·obtain ⟨sl, e1⟩ := I.base.slot b o e n hb hx
  obtain ⟨sl', e2⟩ := slot b _ (neL b o e) hb (neC b o e hx) e1 (I.base.free b o e n hx)
  exact ⟨sl', e2⟩
 ·obtain ⟨o', e1⟩ := I.base.there b o e hx
  exact free b o' (neC b o e hx) e1 (I.base.free b o e n hx)
 ·obtain ⟨o', e1⟩ := I.base.there b o e hx
  exact there b o' (neC b o e hx) e1
 ·obtain ⟨m1, e1⟩ := I.base.tbls b ps e
  obtain ⟨m2, e2⟩ := tbls b _ e1
  exact ⟨m1 ++ m2, by rw [e2, Array.append_assoc]⟩
 ·obtain ⟨m, hn, hl⟩ := I.loc
  refine ⟨m, ns m hn, fun i x v e1 e2 e3 => ?_⟩
  obtain ⟨u, r, l⟩ := hl i x v e1 e2 e3
  refine ⟨u, r, ?_⟩
  rcases l with l | ⟨k, c, e, z⟩
  ·exact .inl l
  ·exact .inr ⟨k, c, e, cellK x c e _ z⟩
 ·obtain ⟨v, z⟩ := I.cell x c e
  exact ⟨v, cellK x c e v z⟩
 ·obtain ⟨m, ⟨o, _, _, ho, _⟩, _⟩ := I.loc
  exact free _ o (fun z => (hch _ z).2.1 rfl) ho I.free
 ·obtain ⟨v, o, ho, hd⟩ := I.cell x c e
  exact free c o (fun z => (hch c z).2.2.1 x c e rfl) ho (I.freeC x c e)
 ·obtain ⟨e, n, ne, nf, d⟩ := I.pin p hp
  have nch : p.1 ∉ ch := fun z => (hch p.1 z).2.2.2 p hp rfl
  exact ⟨keep p.1 p.2 ne nf nch e n, free p.1 p.2 nch e n, ne, nf, d⟩
theorem Inv.un {t' : Nat} (I : Inv X pins σ H s) (u : Un X.fs [] H H' s.heap h') (hok : HOk X.prog X.w H' h') : Inv X pins σ H' { s with heap := h', toks := t' } := by
 obtain ⟨m, ⟨o, es, ep, ho, r⟩, _⟩ := id I.loc
 obtain ⟨sl, hL⟩ := u.any ho I.free (by simp)
 exact I.step (g' := s.gens) (d' := s.drawn) (ch := []) (fun _ z => nomatch z) (fun b o _ hb _ e n => u.keep b o e n hb (by simp)) (fun b o _ hb _ e n => u.slot b o e n hb (by simp)) (fun b o _ e n => u.free b o e n (by simp)) (fun b o _ e => u.there b o e (by simp)) u.tups u.frzs u.tbls (fun m' hm => by
  obtain ⟨o', es', ep', ho', r'⟩ := hm
  rw [ho] at ho'; cases ho'
  exact ⟨_, es', ep', hL, r'⟩) hok I.bare
theorem Inv.call {g' : Array GenState} {t' : Nat} {d' : Drawn} {ch : List Addr} (I : Inv X pins σ H s) (u : Un (frs X.stack) ch H H' s.heap h') (hok : HOk X.prog X.w H' h') (hg : AllBare g')
  (hch : ∀ b ∈ ch, (b ∈ X.ex ∨ X.s₀.heap.objs.size ≤ b) ∧ b ≠ X.env.locals ∧ (∀ x c, X.env.cells.lookup x = some c → c ≠ b) ∧ ∀ p ∈ X.pn ++ pins, p.1 ≠ b) :
  Inv X pins σ H' { s with heap := h', gens := g', drawn := d', toks := t' } := by
 obtain ⟨m, ⟨o, es, ep, ho, r⟩, _⟩ := id I.loc
 obtain ⟨sl, hL⟩ := u.any ho I.free fun z => (hch _ z).2.1 rfl
 exact I.step (ch := ch) hch (fun b o hL hb hc e n => u.keep b o e n (fun z => (List.mem_cons.mp (I.stkSub b z)).elim hL hb) hc) (fun b o _ _ hc e n => u.any e n hc) (fun b o hc e n => u.free b o e n hc) (fun b o hc e => u.there b o e hc) u.tups u.frzs u.tbls (fun m' hm => by
  obtain ⟨o', es', ep', ho', r'⟩ := hm
  rw [ho] at ho'; cases ho'
  exact ⟨_, es', ep', hL, r'⟩) hok hg
theorem Inv.turned {t' : Nat} {it : Addr} (I : Inv X pins σ H s) (k : ∀ b o, b ≠ it → s.heap.get? b = some o → h'.get? b = some o) (hn : H it = none) (hL : it ≠ X.env.locals)
  (h1 : it ∈ X.ex ∨ X.s₀.heap.objs.size ≤ it) (h2 : ∀ x c, X.env.cells.lookup x = some c → c ≠ it) (h3 : ∀ p ∈ X.pn ++ pins, p.1 ≠ it) : Inv X pins σ H { s with heap := h', toks := t' } := by
 have nit : ∀ b u, H b = some u → b ≠ it := fun b u e z => by rw [z, hn] at e; cases e
 refine I.step (g' := s.gens) (d' := s.drawn) (ch := [it]) (fun b hb => ?_) (fun b o _ _ hc e _ => k b o (fun z => hc (by simp [z])) e) (fun b o _ _ hc e _ => ⟨o.slots, k b o (fun z => hc (by simp [z])) e⟩) (fun _ _ _ _ n => n)
  (fun b o hc e => ⟨o, k b o (fun z => hc (by simp [z])) e⟩) (fun _ _ e => e) (fun _ _ _ e => e) (fun b ps e => ⟨#[], by rw [e]; simp⟩) (fun m hm => ?_) (fun b u e => ?_) I.bare
 ·have e : b = it := by simpa using hb
  subst e
  exact ⟨h1, hL, h2, h3⟩
 ·obtain ⟨o, es, ep, ho, r⟩ := hm
  exact ⟨o, es, ep, k _ o (Ne.symm hL) ho, r⟩
 ·refine (I.hok b u e).stay (fun c v hc q => k c v ?_ q) (fun _ q => q) fun _ _ q => q
  rcases hc with z | z
  ·rw [z]; exact nit b u e
  ·exact nit c _ z
theorem Inv.tok (I : Inv X pins σ H s) (t : Nat) : Inv X pins σ H { s with toks := t } := I.un (h' := s.heap) (t' := t) Un.refl I.hok
theorem Inv.kept {t' : Nat} (I : Inv X pins σ H s) (k : ∀ b u, s.heap.get? b = some u → h'.get? b = some u) : Inv X pins σ H { s with heap := h', toks := t' } := I.un (Un.kept k) (I.hok.kept k)
theorem Inv.laid {a : Addr} {o : HO} {t' : Nat} (I : Inv X pins σ H s) (k : ∀ b u, s.heap.get? b = some u → h'.get? b = some u) (hp : s.heap.objs.size ≤ a) (new : ObjOk X.prog X.w (upd H a o) h' a o) :
  Inv X pins σ (upd H a o) { s with heap := h', toks := t' } := I.un (Un.laid k hp (I.hok.fresh hp)) (I.hok.laid k hp new)
theorem Inv.write {x e : Addr} {o : HO} {t' : Nat} (I : Inv X pins σ H s) (mu : Mut (H x)) (he : e = x ∨ H e = some (.own x)) (k : ∀ b u, b ≠ e → s.heap.get? b = some u → h'.get? b = some u) (heo : ∃ u, h'.get? e = some u)
  (new : ObjOk X.prog X.w (upd H x o) h' x o) : Inv X pins σ (upd H x o) { s with heap := h', toks := t' } := I.un (Un.write mu he k heo) (I.hok.write mu he k heo new)
theorem Inv.weak {σ' : List (Option V)} (I : Inv X pins σ H s) (hl : σ'.length = σ.length) (w : ∀ (i : Nat) v, σ'[i]? = some (some v) → σ[i]? = some (some v)) : Inv X pins σ' H s :=
 ⟨I.ok, I.os, I.bare, I.base, let ⟨m, hn, hl'⟩ := I.loc; ⟨m, hn, fun i x v e1 e2 e3 => hl' i x v e1 (w i v e2) e3⟩, I.cell, I.free, I.freeC, I.pin, I.hok, hl.trans I.len⟩
theorem Inv.pins_of {pins' : List (Addr × Obj)} (I : Inv X pins σ H s) (h : ∀ p ∈ pins', s.heap.get? p.1 = some p.2 ∧ H p.1 = none ∧ p.1 ≠ X.env.locals ∧ p.1 ∉ X.fs ∧ ∀ v, p.2.data ≠ .cell v) : Inv X pins' σ H s :=
 ⟨I.ok, I.os, I.bare, I.base, I.loc, I.cell, I.free, I.freeC, fun p hp => (List.mem_append.mp hp).elim (fun z => I.pin p (List.mem_append_left _ z)) (h p), I.hok, I.len⟩
theorem nodup_ix {N : List Str} (hN : N.Nodup) {i j : Nat} {x : Str} (a : N[i]? = some x) (b : N[j]? = some x) : i = j := by
 obtain ⟨h1, e1⟩ := List.getElem?_eq_some_iff.mp a
 obtain ⟨h2, e2⟩ := List.getElem?_eq_some_iff.mp b
 exact (List.getElem_inj hN).mp (e1.trans e2.symm)
theorem store_ok2 {M : Model} {A : Around} {E : Value → Shared → Prop} {i : Nat} {x : Str} {v : V} {u : Value} {Q : Unit → Shared → Prop} (I : Inv X pins σ H s) (hN : X.N.Nodup) (hi : X.N[i]? = some x) (hx : Loc X.env.scope x) (r : RelV v u)
  (h : ∀ s', Inv X pins (σ.set i (some v)) H s' → (∃ a, Heap.SameBut a s.heap s'.heap ∧ (a = X.env.locals ∨ X.env.cells.lookup x = some a)) → Q () s') (hf : X.fn x = true ∨ X.env.scope.names.lookup x = some .local := by first | exact .inl rfl | exact .inr rfl | assumption) : wpAny M A (storeName X.env x u) Q E s := by
 obtain ⟨m, hn, hl⟩ := id I.loc
 have hcls : (X.env.scope.kind == .class || (X.env.scope.kind == .module && X.env.locals != X.env.globals)) = false := by rw [I.ok.kind]; rfl
 have hiσ : i < σ.length := by rw [I.len]; exact (List.getElem?_eq_some_iff.mp hi).1
 have cne := I.cne
 have tracked : ∀ {a : Addr} {h' : Heap}, (∃ o, s.heap.get? a = some o ∧ H a = none) → Heap.SameBut a s.heap h' → HOk X.prog X.w H h' := fun {a h'} ha hs b ob e => by
  obtain ⟨_, _, hfree⟩ := ha
  refine (I.hok b ob e).stay (fun c w' hc q => (hs.2 c ?_).trans q) (fun _ q => q) fun _ _ q => q
  rintro rfl
  rcases hc with rfl | hc
  ·rw [hfree] at e; cases e
  ·rw [hfree] at hc; cases hc
 rcases hx with hk | hk
 ·refine wpAny_storeName_local hk hn (fun h' hn' hs => ?_) hcls
  obtain ⟨oL, _, _, hoL, _⟩ := id hn
  refine h _ ⟨I.ok, I.os, I.bare, ⟨fun b o e n hb hx => ?_, fun b o e n hb hx => ?_, I.base.free, fun b o e hx => ?_, I.base.tups, I.base.frzs, I.base.tbls⟩, ⟨_, hn', fun j y v' e1 e2 e3 => ?_⟩, fun y c e => ?_, I.free, I.freeC, fun p hp => ?_, tracked ⟨oL, hoL, I.free⟩ hs, by simpa using I.len⟩ ⟨_, hs, .inl rfl⟩
  ·exact (hs.2 b (Nat.ne_of_lt (Nat.lt_of_lt_of_le (Heap.lt_size e) I.ok.above))).trans (I.base.keep b o e n hb hx)
  ·obtain ⟨sl, e1⟩ := I.base.slot b o e n hb hx
   exact ⟨sl, (hs.2 b (Nat.ne_of_lt (Nat.lt_of_lt_of_le (Heap.lt_size e) I.ok.above))).trans e1⟩
  ·obtain ⟨o', e1⟩ := I.base.there b o e hx
   exact ⟨o', (hs.2 b (Nat.ne_of_lt (Nat.lt_of_lt_of_le (Heap.lt_size e) I.ok.above))).trans e1⟩
  ·by_cases hj : j = i
   ·subst hj
    rw [hi] at e1; cases e1
    rw [List.getElem?_set_self hiσ] at e2
    cases e2
    exact ⟨u, r, .inl ⟨hk, by simp⟩⟩
   ·rw [List.getElem?_set_ne (Ne.symm hj)] at e2
    obtain ⟨u', r', q⟩ := hl j y v' e1 e2 e3
    refine ⟨u', r', ?_⟩
    rcases q with ⟨k, e⟩ | ⟨k, c, e, z⟩
    ·refine .inl ⟨k, ?_⟩
     have : y ≠ x := fun e => hj (nodup_ix hN e1 (e ▸ hi))
     simp [this, e]
    ·exact .inr ⟨k, c, e, z.sameBut hs (cne y c e)⟩
  ·obtain ⟨w', z⟩ := I.cell y c e
   exact ⟨w', z.sameBut hs (cne y c e)⟩
  ·obtain ⟨e, n, ne, nf, d⟩ := I.pin p hp
   exact ⟨(hs.2 p.1 ne).trans e, n, ne, nf, d⟩
 ·have hfn : X.fn x = true := by
   rcases hf with z | z
   ·exact z
   ·rw [z] at hk; cases hk
  obtain ⟨c, hc⟩ := I.ok.has x (.inl hk)
  obtain ⟨w', z⟩ := I.cell x c hc
  refine wpAny_storeName_cell I.ok.kind hk hc z (fun h' hc' hs => ?_)
  obtain ⟨oc, hoc, hocd⟩ := id z
  refine h { s with heap := h' } ⟨I.ok, I.os, I.bare, ⟨fun b o e n hb hx => ?_, fun b o e n hb hx => ?_, I.base.free, fun b o e hx => ?_, I.base.tups, I.base.frzs, I.base.tbls⟩, ⟨m, hn.sameBut hs (Ne.symm (cne x c hc)), fun j y v' e1 e2 e3 => ?_⟩, fun y c' e => ?_, I.free, I.freeC, fun p hp => ?_, tracked ⟨oc, hoc, I.freeC x c hc⟩ hs, by simpa using I.len⟩ ⟨c, hs, .inr hc⟩
  ·exact (hs.2 b (Nat.ne_of_lt (Nat.lt_of_lt_of_le (Heap.lt_size e) (I.ok.cab x c hfn hc)))).trans (I.base.keep b o e n hb hx)
  ·obtain ⟨sl, e1⟩ := I.base.slot b o e n hb hx
   exact ⟨sl, (hs.2 b (Nat.ne_of_lt (Nat.lt_of_lt_of_le (Heap.lt_size e) (I.ok.cab x c hfn hc)))).trans e1⟩
  ·obtain ⟨o', e1⟩ := I.base.there b o e hx
   exact ⟨o', (hs.2 b (Nat.ne_of_lt (Nat.lt_of_lt_of_le (Heap.lt_size e) (I.ok.cab x c hfn hc)))).trans e1⟩
  ·by_cases hj : j = i
   ·subst hj
    rw [hi] at e1; cases e1
    rw [List.getElem?_set_self hiσ] at e2
    cases e2
    exact ⟨u, r, .inr ⟨.inl hk, c, hc, hc'⟩⟩
   ·rw [List.getElem?_set_ne (Ne.symm hj)] at e2
    obtain ⟨u', r', q⟩ := hl j y v' e1 e2 e3
    refine ⟨u', r', ?_⟩
    rcases q with q | ⟨k, c', e, z'⟩
    ·exact .inl q
    ·refine .inr ⟨k, c', e, z'.sameBut hs ?_⟩
     rintro rfl
     exact hj (nodup_ix hN e1 (I.ok.inj _ _ _ e hc ▸ hi))
  ·by_cases hcc : c' = c
   ·subst hcc; exact ⟨_, hc'⟩
   ·obtain ⟨w2, z2⟩ := I.cell y c' e
    exact ⟨w2, z2.sameBut hs hcc⟩
  ·obtain ⟨e, n, ne, nf, d⟩ := I.pin p hp
   refine ⟨(hs.2 p.1 ?_).trans e, n, ne, nf, d⟩
   intro q
   rw [q, hoc] at e
   have q' : oc = p.2 := Option.some.inj e
   exact d w' (by rw [← q']; exact hocd)
theorem store_ok {M : Model} {A : Around} {E : Value → Shared → Prop} {i : Nat} {x : Str} {v : V} {u : Value} {Q : Unit → Shared → Prop} (I : Inv X pins σ H s) (hN : X.N.Nodup) (hi : X.N[i]? = some x) (hx : Loc X.env.scope x) (r : RelV v u)
  (h : ∀ s', Inv X pins (σ.set i (some v)) H s' → Q () s') (hf : X.fn x = true ∨ X.env.scope.names.lookup x = some .local := by first | exact .inl rfl | exact .inr rfl | assumption) : wpAny M A (storeName X.env x u) Q E s :=
 store_ok2 I hN hi hx r (fun s' I' _ => h s' I') hf
theorem Inv.call' {s' : Shared} {ch : List Addr} (I : Inv X pins σ H s) (ho : s'.os = s.os) (u : Un (frs X.stack) ch H H' s.heap s'.heap) (hok : HOk X.prog X.w H' s'.heap) (hg : AllBare s'.gens)
  (hch : ∀ b ∈ ch, (b ∈ X.ex ∨ X.s₀.heap.objs.size ≤ b) ∧ b ≠ X.env.locals ∧ (∀ x c, X.env.cells.lookup x = some c → c ≠ b) ∧ ∀ p ∈ X.pn ++ pins, p.1 ≠ b) : Inv X pins σ H' s' := by
 obtain ⟨h', g', d', t', o'⟩ := s'
 have e : o' = s.os := ho
 subst e
 exact I.call (g' := g') (t' := t') (d' := d') u hok hg hch
end
noncomputable abbrev XK := Value → Option Addr → Hp → Prop
noncomputable abbrev St := List (Option V)
noncomputable abbrev VK := V → Hp → Prop
noncomputable abbrev TE := St → Hp → VK → Prop
noncomputable abbrev TT := St → Hp → (Bool → Hp → Prop) → Prop
noncomputable abbrev TA := St → Hp → (List V → Hp → Prop) → Prop
structure Ends where
 nx : St → Hp → Prop
 rt : VK
 bk : St → Hp → Prop := fun _ _ => False
 ct : St → Hp → Prop := fun _ _ => False
noncomputable abbrev TS := Ends → St → Hp → Prop
noncomputable def EP (X : Cx) (pins : List (Addr × Obj)) (σ : St) (Q : VK) (u : Value) (s' : Shared) : Prop := ∃ v H', Inv X pins σ H' s' ∧ RelV v u ∧ Q v H'
noncomputable def TP (X : Cx) (pins : List (Addr × Obj)) (σ : St) (Q : Bool → Hp → Prop) (b : Bool) (s' : Shared) : Prop := ∃ H', Inv X pins σ H' s' ∧ Q b H'
noncomputable def SP (X : Cx) (pins : List (Addr × Obj)) (D : Ends) (f : Flow) (s' : Shared) : Prop :=
 match f with
 | .next => ∃ σ' H', Inv X pins σ' H' s' ∧ D.nx σ' H'
 | .brk => ∃ σ' H', Inv X pins σ' H' s' ∧ D.bk σ' H'
 | .cont => ∃ σ' H', Inv X pins σ' H' s' ∧ D.ct σ' H'
 | .ret u => ∃ v σ' H', Inv X pins σ' H' s' ∧ RelV v u ∧ D.rt v H'
noncomputable def PE (X : Cx) (e : Expr) (t : TE) : Prop :=
 ∀ (pins : List (Addr × Obj)) (s : Shared) (σ : St) (H : Hp) (Q : VK), Inv X pins σ H s → t σ H Q → wpAny (model X.prog X.w) X.A (eval e X.env) (EP X pins σ Q) X.xe s
noncomputable def PSs (X : Cx) (st : List Stmt) (t : TS) : Prop :=
 ∀ (pins : List (Addr × Obj)) (s : Shared) (σ : St) (H : Hp) (D : Ends), Inv X pins σ H s → t D σ H → wpAny (model X.prog X.w) X.A (execs st X.env) (SP X pins D) X.xe s
theorem thn {α : Type} {t : Sem α} {Q Q' : α → Shared → Prop} {M : Model} {A : Around} {E : Value → Shared → Prop} {s : Shared} (h : wpAny M A t Q E s) (hQ : ∀ a s, Q a s → Q' a s) : wpAny M A t Q' E s := wpAny_mono h hQ fun _ _ x => x
end L2
namespace L2
open PySem PySem.Spec PyProof.Rows
section
variable {X : Cx}
noncomputable def tVar (i : Nat) : TE := fun σ H Q => ∃ v, σ[i]? = some (some v) ∧ Q v H
noncomputable def tC (v : V) : TE := fun _ H Q => Q v H
theorem pe_var {i : Nat} {x : Str} {pos : Pos} (hN : X.N[i]? = some x) (hv : Vis X.env.scope x) (hd : (x == ("__debug__" : Str)) = false := by decide) (hcd : (x == ("__classdict__" : Str)) = false := by decide) : PE X (.Name x pos) (tVar i) := by
 intro pins s σ H Q I h
 obtain ⟨v, e, h⟩ := h
 obtain ⟨m, hn, hl⟩ := I.loc
 obtain ⟨u, r, l⟩ := hl i x v hN e hv
 have fin : EP X pins σ Q u s := ⟨v, H, I, r, h⟩
 rcases l with ⟨hk, hm⟩ | ⟨hk, c, hc, hcell⟩
 ·exact wpAny_Name (wpAny_loadName_local I.ok.kind hk hn hm fin) hd
 ·rcases hk with hk | hk
  ·exact wpAny_Name (wpAny_loadName_cell I.ok.kind hk hc hcell fin) hd
  ·exact wpAny_Name (wpAny_loadName_free I.ok.kind hk hc hcell fin hcd) hd
theorem pe_int {i j pos} : PE X (.Constant (.int i) j pos) (tC (.int i)) := fun _ _ _ H _ I h => wpAny_Constant_int ⟨.int i, H, I.tok _, ⟨_, rfl⟩, h⟩
theorem pe_bl {b j pos} : PE X (.Constant (.bool b) j pos) (tC (.bl b)) := fun _ _ _ H _ I h => Constant_bool ⟨.bl b, H, I, rfl, h⟩
theorem pe_non {j pos} : PE X (.Constant .none j pos) (tC .non) := fun _ _ _ H _ I h => Constant_none ⟨.non, H, I, rfl, h⟩
noncomputable def Gl (X : Cx) (x : Str) : Prop := X.env.kindOf x = some .globalImplicit
theorem ld_glob {E : Value → Shared → Prop} {pins : List (Addr × Obj)} {s : Shared} {σ : St} {H : Hp} {x : Str} {u : Value} {pos : Pos} {Q : Value → Shared → Prop} (I : Inv X pins σ H s) (hg : Gl X x) (hm : X.mg x = some u) (h : Q u s)
  (hd : (x == ("__debug__" : Str)) = false := by decide) : wpAny (model X.prog X.w) X.A (eval (.Name x pos) X.env) Q E s :=
 Calls.Name_function_global I.ok.kind hg (Calls.loadGlobal_global (by rw [I.ok.glob]; exact I.mod.glob.keeps I.bk) hm h) hd
theorem ld_blt {E : Value → Shared → Prop} {pins : List (Addr × Obj)} {s : Shared} {σ : St} {H : Hp} {x : Str} {u : Value} {pos : Pos} {Q : Value → Shared → Prop} (I : Inv X pins σ H s) (hg : Gl X x) (hm : X.mg x = none) (hv : bootBuiltins x = some u) (h : Q u s)
  (hn : x ≠ "__name__" := by decide) (hd : (x == ("__debug__" : Str)) = false := by decide) : wpAny (model X.prog X.w) X.A (eval (.Name x pos) X.env) Q E s := by
 obtain ⟨mb, h1, h2⟩ := I.mod.blt
 exact Calls.Name_function_global I.ok.kind hg (Calls.loadGlobal_builtin (by rw [I.ok.glob]; exact I.mod.glob.keeps I.bk) hm (by rw [I.ok.blt]; exact h1.keeps I.bk) ((h2 x hn).trans hv) h) hd
theorem pe_bltn {x : Str} {v : V} {u : Value} {pos : Pos} (hg : Gl X x) (hm : X.mg x = none) (hv : bootBuiltins x = some u) (r : RelV v u) (hn : x ≠ "__name__" := by decide) (hd : (x == ("__debug__" : Str)) = false := by decide) : PE X (.Name x pos) (tC v) :=
 fun _ _ _ H _ I h => ld_blt I hg hm hv ⟨v, H, I, r, h⟩ hn hd
variable {a b : Expr} {ta tb : TE} {pos : Pos}
noncomputable def tB (t : TE) : TT := fun σ H Q => t σ H fun x H1 => ∃ c, x = .bl c ∧ Q c H1
variable {tA tB' : TT} {rest : List Expr}
noncomputable def tAnd (t u : TT) : TT := fun σ H Q => t σ H fun c H1 => if c = true then u σ H1 Q else Q false H1
noncomputable def tOr (t u : TT) : TT := fun σ H Q => t σ H fun c H1 => if c = true then Q true H1 else u σ H1 Q
noncomputable def tNot (t : TT) : TT := fun σ H Q => t σ H fun c H1 => Q (!c) H1
noncomputable def tAndV (ta tb : TE) : TE := fun σ H Q => ta σ H fun x H1 => ∃ c, x = .bl c ∧ if c = true then tb σ H1 Q else Q (.bl false) H1
noncomputable def tOrV (ta tb : TE) : TE := fun σ H Q => ta σ H fun x H1 => ∃ c, x = .bl c ∧ if c = true then Q (.bl true) H1 else tb σ H1 Q
noncomputable def tNotV (ta : TE) : TE := fun σ H Q => ta σ H fun x H1 => ∃ c, x = .bl c ∧ Q (.bl (!c)) H1
noncomputable def tIf (t : TT) (ta tb : TE) : TE := fun σ H Q => t σ H fun c H1 => if c = true then ta σ H1 Q else tb σ H1 Q
end
end L2
namespace L2
open PySem PySem.Spec PyProof.Rows
noncomputable def SqL (K : PySem.W.Frag) (H : Hp) (a : Addr) (xs : List V) : Prop :=
 Rd H a (.lst xs) ∨
  ∃ (o : Obj) (its : Array Value) (n : Nat), K.lookup a = some o ∧ o.cls = .type "list" ∧ o.dict = none ∧ o.data = .seq its n ∧ its.size ≤ sizeLine ∧ Vals xs its.toList
noncomputable def SqT (K : PySem.W.Frag) (H : Hp) (a : Addr) (xs : List V) : Prop :=
 Rd H a (.tup xs) ∨
  ∃ (o : Obj) (its : Array Value) (n : Nat), K.lookup a = some o ∧ o.cls = .type "tuple" ∧ o.data = .seq its n ∧ its.size ≤ sizeLine ∧ Vals xs its.toList
noncomputable def absV : Value → Option V
 | .none => some .non
 | .bool b => some (.bl b)
 | .int i _ => some (.int i)
 | .str x _ => some (.str x)
 | .bytes b _ => some (.byt b)
 | .float b _ => some (.flt b)
 | .ref a => some (.ref a)
 | .type n => some (.ty n)
 | _ => none
theorem RelV.abs {x : V} {u : Value} (r : RelV x u) : absV u = some x := by
 cases x with
 | non => cases r; rfl
 | bl _ => cases r; rfl
 | int _ => obtain ⟨t, rfl⟩ := r; rfl
 | str _ => obtain ⟨t, rfl⟩ := r; rfl
 | byt _ => obtain ⟨t, rfl⟩ := r; rfl
 | flt _ => obtain ⟨t, rfl⟩ := r; rfl
 | ref _ => cases r; rfl
 | ty _ => cases r; rfl
theorem RelV.inj {x y : V} {u : Value} (r : RelV x u) (q : RelV y u) : x = y := Option.some.inj (r.abs.symm.trans q.abs)
theorem Vals.inj : ∀ {xs ys : List V} {us : List Value}, Vals xs us → Vals ys us → xs = ys
 | _, _, _, .nil, .nil => rfl
 | _, _, _, .cons r t, .cons r' t' => by rw [r.inj r', Vals.inj t t']
section
variable {X : Cx} {pins : List (Addr × Obj)} {σ : St} {H : Hp} {s : Shared} {a : Addr} {xs ys : List V}
theorem SqL.of {K : PySem.W.Frag} (h : H a = some (.lst xs)) : SqL K H a xs := .inl (.inl h)
theorem SqT.of {K : PySem.W.Frag} (h : H a = some (.tup xs)) : SqT K H a xs := .inl (.inl h)
theorem Inv.list (I : Inv X pins σ H s) (h : SqL X.K H a xs) : ∃ its : List Value, Vals xs its ∧ PlainL s.heap a its.toArray ∧ xs.length ≤ sizeLine := by
 rcases h with h | ⟨o, its, n, hk, hc, hd, hs, hz, r⟩
 ·obtain ⟨z, its, n, r, e⟩ := h.ok I.hok
  exact ⟨its, r, ⟨_, n, e, rfl, rfl, rfl⟩, z⟩
 ·refine ⟨its.toList, r, ⟨o, n, I.kIn a o hk, hc, hd, by simpa using hs⟩, ?_⟩
  have e := r.length
  simp only [Array.length_toList] at e
  omega
theorem Inv.tuple (I : Inv X pins σ H s) (h : SqT X.K H a xs) : ∃ its : List Value, Vals xs its ∧ IsTup s.heap a its.toArray ∧ xs.length ≤ sizeLine := by
 rcases h with h | ⟨o, its, n, hk, hc, hs, hz, r⟩
 ·obtain ⟨z, its, r, p⟩ := h.ok I.hok
  exact ⟨its, r, p.is, z⟩
 ·refine ⟨its.toList, r, ⟨o, I.kIn a o hk, hc, n, by simpa using hs⟩, ?_⟩
  have e := r.length
  simp only [Array.length_toList] at e
  omega
theorem Inv.list_inj (I : Inv X pins σ H s) (h : SqL X.K H a xs) (h' : SqL X.K H a ys) : xs = ys := by
 obtain ⟨its, r, ⟨o, n, e, _, _, d⟩, _⟩ := I.list h
 obtain ⟨its', r', ⟨o', n', e', _, _, d'⟩, _⟩ := I.list h'
 rw [e] at e'; cases e'
 rw [d] at d'
 injection d' with d1 _
 have : its = its' := by simpa using congrArg Array.toList d1
 subst this
 exact r.inj r'
theorem Inv.tuple_inj (I : Inv X pins σ H s) (h : SqT X.K H a xs) (h' : SqT X.K H a ys) : xs = ys := by
 obtain ⟨its, r, ⟨o, e, _, n, d⟩, _⟩ := I.tuple h
 obtain ⟨its', r', ⟨o', e', _, n', d'⟩, _⟩ := I.tuple h'
 rw [e] at e'; cases e'
 rw [d] at d'
 injection d' with d1 _
 have : its = its' := by simpa using congrArg Array.toList d1
 subst this
 exact r.inj r'
end
noncomputable abbrev Cx.wish (X : Cx) (E : Value → Shared → Prop) : Cx := { X with xe := E }
noncomputable abbrev Cx.nox (X : Cx) : Cx := X.wish fun _ _ => False
theorem Cx.Ok.wish {X : Cx} (ok : X.Ok) (E : Value → Shared → Prop) : (X.wish E).Ok :=
 ⟨ok.mod, ok.kind, ok.glob, ok.blt, ok.above, ok.inj, ok.has, ok.cab, ok.hd, ok.frames, ok.stk, ok.exf, ok.bs, ok.bsz, ok.noex, ok.exfs, ok.funs, ok.frf⟩
theorem Cx.Ok.unwish {X : Cx} {E : Value → Shared → Prop} (ok : (X.wish E).Ok) : X.Ok :=
 ⟨ok.mod, ok.kind, ok.glob, ok.blt, ok.above, ok.inj, ok.has, ok.cab, ok.hd, ok.frames, ok.stk, ok.exf, ok.bs, ok.bsz, ok.noex, ok.exfs, ok.funs, ok.frf⟩
section
variable {X : Cx} {pins : List (Addr × Obj)} {σ : St} {H : Hp} {s : Shared} {E : Value → Shared → Prop}
theorem Inv.wish (I : Inv X pins σ H s) (E : Value → Shared → Prop) : Inv (X.wish E) pins σ H s := ⟨I.ok.wish E, I.os, I.bare, I.base, I.loc, I.cell, I.free, I.freeC, I.pin, I.hok, I.len⟩
theorem Inv.unwish (I : Inv (X.wish E) pins σ H s) : Inv X pins σ H s := ⟨I.ok.unwish, I.os, I.bare, I.base, I.loc, I.cell, I.free, I.freeC, I.pin, I.hok, I.len⟩
theorem SP.unwish {D : Ends} {f : Flow} {s' : Shared} (h : SP (X.wish E) pins D f s') : SP X pins D f s' := by
 cases f with
 | next => obtain ⟨σ', H', I, q⟩ := h; exact ⟨σ', H', I.unwish, q⟩
 | brk => obtain ⟨σ', H', I, q⟩ := h; exact ⟨σ', H', I.unwish, q⟩
 | cont => obtain ⟨σ', H', I, q⟩ := h; exact ⟨σ', H', I.unwish, q⟩
 | ret u => obtain ⟨v, σ', H', I, r, q⟩ := h; exact ⟨v, σ', H', I.unwish, r, q⟩
theorem PSs.nox {st : List Stmt} {t : TS} (h : PSs X.nox st t) : PSs X st t := fun pins s σ H D I hw =>
 wpAny_mono (h pins s σ H D (I.wish _) hw) (fun _ _ q => q.unwish) fun _ _ z => False.elim z
end
section
variable {X : Cx} {st : Stmt} {rest : List Stmt} {t u : TS} {e : Expr} {te : TE} {pos : Pos}
noncomputable def tNext : TS := fun D σ H => D.nx σ H
noncomputable def tSeq (t u : TS) : TS := fun D σ H => t { D with nx := u D } σ H
noncomputable def tCont : TS := fun D σ H => D.ct σ H
theorem Inv.quiet {pins : List (Addr × Obj)} {σ : St} {H : Hp} {s : Shared} (I : Inv X pins σ H s) : interactive X.env = false := by simp [interactive, I.ok.kind]
noncomputable def tDrop (te : TE) : TS := fun D σ H => te σ H fun _ H1 => D.nx σ H1
noncomputable def tRet (te : TE) : TS := fun D σ H => te σ H D.rt
noncomputable def tRetN : TS := fun D _ H => D.rt .non H
noncomputable def tIfS (c : TT) (t u : TS) : TS := fun D σ H => c σ H fun b H1 => if b = true then t D σ H1 else u D σ H1
end
noncomputable abbrev TG := V → St → Hp → (St → Hp → Prop) → Prop
noncomputable abbrev TGs := List V → St → Hp → (St → Hp → Prop) → Prop
noncomputable abbrev TSet := V → V → V → Hp → (Hp → Prop) → Prop
noncomputable def PSet (X : Cx) (t : TSet) : Prop :=
 ∀ (pins : List (Addr × Obj)) (s : Shared) (σ : St) (H : Hp) (o i v : V) (ov iv u : Value) (Q : Hp → Prop), Inv X pins σ H s → RelV o ov → RelV i iv → RelV v u → t o i v H Q →
  wpAny (model X.prog X.w) X.A (setItem ov iv u) (fun _ s' => ∃ H', Inv X pins σ H' s' ∧ Q H') X.xe s
section
variable {X : Cx} {pos : Pos}
noncomputable def gName (i : Nat) : TG := fun v σ H Q => Q (σ.set i (some v)) H
noncomputable def gNil : TGs := fun vs σ H Q => vs = [] ∧ Q σ H
noncomputable def gCons (t : TG) (u : TGs) : TGs := fun vs σ H Q => ∃ v r, vs = v :: r ∧ t v σ H fun σ' H' => u r σ' H' Q
noncomputable def gTup (K : PySem.W.Frag) (n : Nat) (t : TGs) : TG := fun v σ H Q => ∃ a xs, v = .ref a ∧ SqT K H a xs ∧ xs.length = n ∧ t xs σ H Q
noncomputable def gSub (to ti : TE) (t : TSet) : TG := fun v σ H Q => to σ H fun o H1 => ti σ H1 fun i H2 => t o i v H2 fun H3 => Q σ H3
noncomputable def tAsg (te : TE) (g : TG) : TS := fun D σ H => te σ H fun x H1 => g x σ H1 D.nx
noncomputable def tPar (i j : Nat) (ta : TA) : TS := fun D σ H => ta σ H fun vs H1 => ∃ v w, vs = [v, w] ∧ D.nx ((σ.set i (some v)).set j (some w)) H1
end
section
variable {X : Cx} {pos : Pos}
end
structure It where
 go : Nat → Hp → Prop
 yld : Nat → Hp → V → Hp → Prop
 stop : Nat → Hp → Prop
noncomputable def FpOk (X : Cx) (pins : List (Addr × Obj)) (H : Hp) (b : Addr) : Prop :=
 H b = none ∧ b ≠ X.env.locals ∧ b ∉ X.fs ∧ (b ∈ X.ex ∨ X.s₀.heap.objs.size ≤ b) ∧ (∀ x c, X.env.cells.lookup x = some c → c ≠ b) ∧ ∀ p ∈ X.pn ++ pins, p.1 ≠ b
theorem Inv.fpOk {X : Cx} {pins : List (Addr × Obj)} {σ : St} {H H' : Hp} {s : Shared} {b : Addr} (I : Inv X pins σ H s) (hb : s.heap.objs.size ≤ b) (hn : H' b = none) : FpOk X pins H' b := by
 refine ⟨hn, Nat.ne_of_gt (Nat.lt_of_lt_of_le I.lt hb), I.nofs hb, .inr (Nat.le_trans I.sz hb), fun x c e z => ?_, fun p hp z => ?_⟩
 ·obtain ⟨v, q⟩ := I.cell x c e
  exact absurd (Nat.lt_of_lt_of_le q.lt (by rw [z]; exact hb)) (Nat.lt_irrefl _)
 ·exact absurd (Nat.lt_of_lt_of_le (Heap.lt_size (I.pin p hp).1) (by rw [z]; exact hb)) (Nat.lt_irrefl _)
structure Turn (P : Program) (w : World) (K : PySem.W.Frag) (tg : Expr) (J : It) (fp : List Addr) (it : Addr) (tn : Nat → Heap → Prop) : Prop where
 mem : it ∈ fp
 obj : ∀ i h, tn i h → ∀ b ∈ fp, ∃ o, h.get? b = some o ∧ ∀ v, o.data ≠ .cell v
 keep : ∀ i h h', tn i h → (∀ b ∈ fp, ∀ o, h.get? b = some o → h'.get? b = some o) → tn i h'
 item : ∀ (X : Cx), X.prog = P → X.w = w → X.K = K → X.calm = true → ∀ (i : Nat) (pins : List (Addr × Obj)) (s : Shared) (σ : St) (H : Hp) (E : Value → Shared → Prop), Inv X pins σ H s → (∀ b ∈ fp, FpOk X pins H b) → tn i s.heap → J.go i H →
  wpAny (model P w) X.A (pyNext (.ref it)) (fun r s1 => ∃ u, r = some u ∧
   wpAny (model P w) X.A (letOwnedTupleGo tg (.ref it) u) (fun _ s2 => ∃ x H', Inv X pins σ H' s2 ∧ RelV x u ∧ J.yld i H x H' ∧ tn (i + 1) s2.heap ∧ ∀ b ∈ fp, H' b = none) E s1) E s
 done : ∀ (X : Cx), X.prog = P → X.w = w → X.K = K → X.calm = true → ∀ (i : Nat) (pins : List (Addr × Obj)) (s : Shared) (σ : St) (H : Hp) (E : Value → Shared → Prop), Inv X pins σ H s → (∀ b ∈ fp, FpOk X pins H b) → tn i s.heap → J.stop i H →
  wpAny (model P w) X.A (pyNext (.ref it)) (fun r s1 => r = none ∧ Inv X pins σ H s1) E s
 self : ∀ (A : Around) (i : Nat) (s : Shared) (Q : Value → Shared → Prop) (E : Value → Shared → Prop), tn i s.heap → Q (.ref it) s → wpAny (model P w) A (pyIter (.ref it)) Q E s
noncomputable abbrev TI := St → Hp → (It → Hp → Prop) → Prop
noncomputable def PIE (X : Cx) (pins : List (Addr × Obj)) (σ : St) (tg : Expr) (R : It → Hp → Prop) (itv : Value) (s2 : Shared) : Prop :=
 ∃ (it : Addr) (fp : List Addr) (tn : Nat → Heap → Prop) (J : It) (H' : Hp), itv = .ref it ∧ Inv X pins σ H' s2 ∧ Turn X.prog X.w X.K tg J fp it tn ∧ tn 0 s2.heap ∧ (∀ b ∈ fp, FpOk X pins H' b) ∧ R J H'
theorem go_of {M : Model} {A : Around} {E : Value → Shared → Prop} {s : Shared} {tg : Expr} {it : Addr} {u : Value} {o : Obj} {n : String} {vs : Array Value} {Q : Unit → Shared → Prop} (ho : s.heap.get? it = some o) (hc : o.cls = .type n) (hd : o.data = .fields vs)
  (hn : ["enumerate", "zip", "dict_itemiterator", "dict_reverseitemiterator", "odict_iterator", "itertools.zip_longest", "itertools.pairwise"].contains n = false) (hQ : Q () s) : wpAny M A (letOwnedTupleGo tg (.ref it) u) Q E s := by
 unfold letOwnedTupleGo
 cases tg <;> first
  | exact wpAny_pure hQ
  | (cases u <;> first
    | exact wpAny_pure hQ
    | (refine wpAny_bind (wpAny_load ho ?_)
       rw [hc, hd]
       show wpAny M A (if (["enumerate", "zip", "dict_itemiterator", "dict_reverseitemiterator", "odict_iterator", "itertools.zip_longest", "itertools.pairwise"].contains n && vs[0]? == some (rawInt _)) = true then _ else _) Q E s
       rw [if_neg (by intro h; rw [hn, Bool.false_and] at h; cases h)]
       exact wpAny_pure hQ))
noncomputable def Itl (K : PySem.W.Frag) (a : Addr) : It :=
 ⟨fun i H => ∃ xs x, SqL K H a xs ∧ xs[i]? = some x, fun i H x H' => H' = H ∧ ∀ xs, SqL K H a xs → xs[i]? = some x, fun i H => ∃ xs, SqL K H a xs ∧ xs.length ≤ i⟩
noncomputable def Itt (K : PySem.W.Frag) (a : Addr) : It :=
 ⟨fun i H => ∃ xs x, SqT K H a xs ∧ xs[i]? = some x, fun i H x H' => H' = H ∧ ∀ xs, SqT K H a xs → xs[i]? = some x, fun i H => ∃ xs, SqT K H a xs ∧ xs.length ≤ i⟩
noncomputable def Itr (lo : Int) (n : Nat) : It := ⟨fun i _ => i < n, fun i H x H' => H' = H ∧ x = .int (lo + i), fun i _ => n ≤ i⟩
theorem turn_list {P : Program} {w : World} {K : PySem.W.Frag} {tg : Expr} (a it : Addr) : Turn P w K tg (Itl K a) [it] it (fun i h => h.IsListIter it a i) where
 mem := by simp
 obj := fun i h st b hb => by
  have e : b = it := by simpa using hb
  subst e
  obtain ⟨o, e, c, d⟩ := st
  exact ⟨o, e, fun v z => by rw [d] at z; cases z⟩
 keep := fun i h h' st k => st.at fun o e => k it (by simp) o e
 item := by
  intro X hP hw hK hc i pins s σ H E I hf st hg
  subst hP hw hK
  obtain ⟨xs, x, hq, hx⟩ := hg
  obtain ⟨its, rv, p, hz⟩ := I.list hq
  obtain ⟨u, hu, ru⟩ := rv.get hx
  obtain ⟨f0, f1, f2, f3, f4, f5⟩ := hf it (by simp)
  refine wpAny_pyNext_list_item st p.isList (x := u) (by simpa using hu) fun h' st' sb => ?_
  have I1 : Inv X pins σ H { s with heap := h' } := I.turned (t' := s.toks) (fun b o hb e => (sb.2 b hb).trans e) f0 f1 f3 f4 f5
  obtain ⟨o, e, c, d⟩ := id st'
  exact ⟨u, rfl, go_of (s := { s with heap := h' }) e c d (by decide) ⟨x, H, I1, ru, ⟨rfl, fun ys hy => by rw [I.list_inj hy hq]; exact hx⟩, st', fun b hb => (hf b hb).1⟩⟩
 done := by
  intro X hP hw hK hc i pins s σ H E I hf st hg
  subst hP hw hK
  obtain ⟨xs, hq, hx⟩ := hg
  obtain ⟨its, rv, p, hz⟩ := I.list hq
  obtain ⟨f0, f1, f2, f3, f4, f5⟩ := hf it (by simp)
  have hl := rv.length
  exact wpAny_pyNext_list_end (I.ok.hd hc) st p.isList (by simp; omega) fun h' eb => ⟨rfl, I.turned (t' := s.toks) (fun b o hb e => eb b o hb e) f0 f1 f3 f4 f5⟩
 self := fun _ _ _ _ _ st h => wpAny_pyIter_listiter st h
theorem turn_tuple {P : Program} {w : World} {K : PySem.W.Frag} {tg : Expr} (a it : Addr) : Turn P w K tg (Itt K a) [it] it (fun i h => h.IsTupleIter it a i) where
 mem := by simp
 obj := fun i h st b hb => by
  have e : b = it := by simpa using hb
  subst e
  obtain ⟨o, e, c, d⟩ := st
  exact ⟨o, e, fun v z => by rw [d] at z; cases z⟩
 keep := fun i h h' st k => st.at fun o e => k it (by simp) o e
 item := by
  intro X hP hw hK hc i pins s σ H E I hf st hg
  subst hP hw hK
  obtain ⟨xs, x, hq, hx⟩ := hg
  obtain ⟨its, rv, p, hz⟩ := I.tuple hq
  obtain ⟨u, hu, ru⟩ := rv.get hx
  obtain ⟨f0, f1, f2, f3, f4, f5⟩ := hf it (by simp)
  refine wpAny_pyNext_tuple_item st (show s.heap.IsTuple a its.toArray from p) (x := u) (by simpa using hu) fun h' st' sb => ?_
  have I1 : Inv X pins σ H { s with heap := h' } := I.turned (t' := s.toks) (fun b o hb e => (sb.2 b hb).trans e) f0 f1 f3 f4 f5
  obtain ⟨o, e, c, d⟩ := id st'
  exact ⟨u, rfl, go_of (s := { s with heap := h' }) e c d (by decide) ⟨x, H, I1, ru, ⟨rfl, fun ys hy => by rw [I.tuple_inj hy hq]; exact hx⟩, st', fun b hb => (hf b hb).1⟩⟩
 done := by
  intro X hP hw hK hc i pins s σ H E I hf st hg
  subst hP hw hK
  obtain ⟨xs, hq, hx⟩ := hg
  obtain ⟨its, rv, p, hz⟩ := I.tuple hq
  obtain ⟨f0, f1, f2, f3, f4, f5⟩ := hf it (by simp)
  have hl := rv.length
  exact wpAny_pyNext_tuple_end (I.ok.hd hc) st (show s.heap.IsTuple a its.toArray from p) (by simp; omega) fun h' eb => ⟨rfl, I.turned (t' := s.toks) (fun b o hb e => eb b o hb e) f0 f1 f3 f4 f5⟩
 self := fun _ _ _ _ _ st h => wpAny_pyIter_tupleiter st h
theorem turn_range {P : Program} {w : World} {K : PySem.W.Frag} {tg : Expr} (it : Addr) (lo : Int) (n : Nat) : Turn P w K tg (Itr lo n) [it] it (fun i h => IsRangeIter h it (lo + (i : Nat) * 1) ((n : Int) - (i : Nat)) 1) where
 mem := by simp
 obj := fun i h st b hb => by
  have e : b = it := by simpa using hb
  subst e
  exact ⟨_, st, fun v z => by
   have z' : Data.fields _ = Data.cell v := z
   cases z'⟩
 keep := fun i h h' st k => k it (by simp) _ st
 item := by
  intro X hP hw hK hc i pins s σ H E I hf st hg
  subst hP hw hK
  obtain ⟨f0, f1, f2, f3, f4, f5⟩ := hf it (by simp)
  have W := Walks.range (prog := X.prog) (w := X.w) (I.ok.hd hc) it lo 1 n
  refine W.item i s _ _ hg st fun v h' tk hv st' kk => ?_
  obtain ⟨t, rfl⟩ := hv
  have I1 : Inv X pins σ H { s with heap := h', toks := tk } := I.turned (fun b o hb e => kk b o (by simpa using hb) e) f0 f1 f3 f4 f5
  refine ⟨_, rfl, go_of (s := { s with heap := h', toks := tk }) (n := "range_iterator") st' rfl rfl (by decide) ⟨.int (lo + i), H, I1, ⟨t, ?_⟩, ⟨rfl, rfl⟩, st', fun b hb => (hf b hb).1⟩⟩
  rw [Int.mul_one]
 done := by
  intro X hP hw hK hc i pins s σ H E I hf st hg
  subst hP hw hK
  obtain ⟨f0, f1, f2, f3, f4, f5⟩ := hf it (by simp)
  exact wpAny_pyNext_range_end (I.ok.hd hc) st (by have : n ≤ i := hg; omega) fun h' eb => ⟨rfl, I.turned (t' := s.toks) (fun b o hb e => eb b o hb e) f0 f1 f3 f4 f5⟩
 self := fun _ _ _ _ _ st h => wpAny_pyIter_rangeiter st h
end L2
namespace L2
open PySem PySem.Spec PyProof.Rows
section
variable {X : Cx} {tg : Expr}
theorem range_it {pins : List (Addr × Obj)} {σ : St} {H : Hp} {s : Shared} {R : It → Hp → Prop} {E : Value → Shared → Prop} {lo hi : Int} {t u v : Tok} {tk : Nat} (I : Inv X pins σ H s) (h1 : -(2 ^ 62) ≤ lo) (h2 : lo < 2 ^ 62) (h3 : -(2 ^ 62) ≤ hi) (h4 : hi < 2 ^ 62)
  (q : R (Itr lo (hi - lo).toNat) H) : wpAny (model X.prog X.w) X.A (pyIter (.ref s.heap.objs.size)) (PIE X pins σ tg R) E { s with heap := s.heap.push { cls := .type "range", data := .fields #[.int lo t, .int hi u, .int 1 v] }, toks := tk } := by
 refine wpAny_pyIter_range (IsRange.new ..) (small_one h1 h2 h3 h4) ?_
 have I1 : Inv X pins σ H { s with heap := s.heap.push { cls := .type "range", data := .fields #[.int lo t, .int hi u, .int 1 v] }, toks := tk } := I.kept fun b o e => Heap.get?_push_of_some _ e
 refine ⟨(s.heap.push { cls := .type "range", data := .fields #[.int lo t, .int hi u, .int 1 v] }).objs.size, [(s.heap.push { cls := .type "range", data := .fields #[.int lo t, .int hi u, .int 1 v] }).objs.size], _, _, H, rfl,
  I1.kept (t' := tk) fun b o e => Heap.get?_push_of_some _ e, turn_range _ lo (hi - lo).toNat, ?_, fun b hb => ?_, q⟩
 ·have e1 : lo + ((0 : Nat) : Int) * 1 = lo := by simp
  have e2 : (((hi - lo).toNat : Nat) : Int) - ((0 : Nat) : Int) = Builtin.Range.rangeSize lo hi 1 := by rw [rangeSize_one]; split <;> omega
  show IsRangeIter _ _ (lo + ((0 : Nat) : Int) * 1) ((((hi - lo).toNat : Nat) : Int) - ((0 : Nat) : Int)) 1
  rw [e1, e2]
  exact Heap.get?_push_size _ rfl
 ·have e : b = (s.heap.push { cls := .type "range", data := .fields #[.int lo t, .int hi u, .int 1 v] }).objs.size := by simpa using hb
  subst e
  exact I1.fpOk (Nat.le_refl _) (I1.hok.fresh (Nat.le_refl _))
noncomputable def iRng1 (ta : TA) : TI := fun σ H R => ta σ H fun vs H1 => ∃ j : Int, vs = [.int j] ∧ -(2 ^ 62) ≤ j ∧ j < 2 ^ 62 ∧ R (Itr 0 j.toNat) H1
noncomputable def tFor (wi : TI) (g : TG) (tb : TS) : TS := fun D σ H => wi σ H fun J H1 => ∃ W : Nat → Nat → St → Hp → Prop, (∃ m, W 0 m σ H1) ∧ ∀ i m σ H, W i m σ H →
 (J.stop i H ∧ D.nx σ H) ∨ (J.go i H ∧ ∃ N : St → Hp → Prop, (∀ σ' H', N σ' H' → ∃ m', m' < m ∧ W (i + 1) m' σ' H') ∧ ∀ x H', J.yld i H x H' → g x σ H' fun σ2 H2 => tb { D with nx := N, ct := N, bk := D.nx } σ2 H2)
noncomputable def pinsAt (fp : List Addr) (h : Heap) : List (Addr × Obj) := fp.filterMap fun b => (h.get? b).map fun o => (b, o)
theorem mem_pinsAt {fp : List Addr} {h : Heap} {b : Addr} {o : Obj} (hb : b ∈ fp) (e : h.get? b = some o) : (b, o) ∈ pinsAt fp h := List.mem_filterMap.mpr ⟨b, hb, by rw [e]; rfl⟩
theorem of_pinsAt {fp : List Addr} {h : Heap} {p : Addr × Obj} (hp : p ∈ pinsAt fp h) : p.1 ∈ fp ∧ h.get? p.1 = some p.2 := by
 obtain ⟨b, hb, e⟩ := List.mem_filterMap.mp hp
 cases q : h.get? b with
 | none => rw [q] at e; cases e
 | some o =>
  rw [q] at e
  have e' : (b, o) = p := Option.some.inj e
  subst e'
  exact ⟨hb, q⟩
theorem Inv.pinned {pins : List (Addr × Obj)} {σ : St} {H : Hp} {s : Shared} {fp : List Addr} (I : Inv X pins σ H s) (hf : ∀ b ∈ fp, FpOk X pins H b) (ho : ∀ b ∈ fp, ∃ o, s.heap.get? b = some o ∧ ∀ v, o.data ≠ .cell v) : Inv X (pins ++ pinsAt fp s.heap) σ H s :=
 I.pins_of fun p hp => (List.mem_append.mp hp).elim (fun z => I.pin p (List.mem_append_right _ z)) fun z => by
  obtain ⟨hb, e⟩ := of_pinsAt z
  obtain ⟨f0, f1, f2, _⟩ := hf p.1 hb
  obtain ⟨o, e', d⟩ := ho p.1 hb
  rw [e] at e'; cases e'
  exact ⟨e, f0, f1, f2, d⟩
theorem Inv.unpinned {pins pl : List (Addr × Obj)} {σ : St} {H : Hp} {s : Shared} (I : Inv X (pins ++ pl) σ H s) : Inv X pins σ H s := I.pins_of fun p hp => I.pin p (List.mem_append_right _ (List.mem_append_left _ hp))
end
end L2
namespace L2
open PySem PySem.Spec PyProof.Rows
noncomputable abbrev R2 := V → V → Hp → VK → Prop
noncomputable def OpR (X : Cx) (f : Value → Value → Sem Value) (r : R2) : Prop :=
 ∀ (pins : List (Addr × Obj)) (s : Shared) (σ : St) (H : Hp) (x y : V) (v u : Value) (Q : VK), Inv X pins σ H s → RelV x v → RelV y u → r x y H Q →
  wpAny (model X.prog X.w) X.A (f v u) (EP X pins σ Q) X.xe s
noncomputable def UnR (X : Cx) (f : Value → Sem Value) (r : V → Hp → VK → Prop) : Prop :=
 ∀ (pins : List (Addr × Obj)) (s : Shared) (σ : St) (H : Hp) (x : V) (v : Value) (Q : VK), Inv X pins σ H s → RelV x v → r x H Q →
  wpAny (model X.prog X.w) X.A (f v) (EP X pins σ Q) X.xe s
noncomputable def CallR (X : Cx) (f : Value) (r : List V → Hp → VK → Prop) : Prop :=
 ∀ (pins : List (Addr × Obj)) (s : Shared) (σ : St) (H : Hp) (xs : List V) (us : List Value) (Q : VK), Inv X pins σ H s → Vals xs us → r xs H Q →
  wpAny (model X.prog X.w) X.A (call f us) (EP X pins σ Q) X.xe s
noncomputable def TruR (X : Cx) (r : V → Hp → (Bool → Hp → Prop) → Prop) : Prop :=
 ∀ (pins : List (Addr × Obj)) (s : Shared) (σ : St) (H : Hp) (x : V) (v : Value) (Q : Bool → Hp → Prop), Inv X pins σ H s → RelV x v → r x H Q →
  wpAny (model X.prog X.w) X.A (truthy v) (TP X pins σ Q) X.xe s
noncomputable def tOp (r : R2) (ta tb : TE) : TE := fun σ H Q => ta σ H fun x H1 => tb σ H1 fun y H2 => r x y H2 Q
noncomputable def tUn (r : V → Hp → VK → Prop) (ta : TE) : TE := fun σ H Q => ta σ H fun x H1 => r x H1 Q
noncomputable def rI (C : Int → Int → Prop) (g : Int → Int → V) : R2 := fun x y H Q => ∃ i j, x = .int i ∧ y = .int j ∧ C i j ∧ Q (g i j) H
noncomputable def rI0 (g : Int → Int → V) : R2 := fun x y H Q => ∃ i j, x = .int i ∧ y = .int j ∧ Q (g i j) H
noncomputable def rU (g : Int → V) : V → Hp → VK → Prop := fun x H Q => ∃ i, x = .int i ∧ Q (g i) H
section
variable {X : Cx} {a b c : Expr} {ta tb tc : TE} {pos : Pos}
theorem opI {f : Value → Value → Sem Value} {C : Int → Int → Prop} {g : Int → Int → Int}
  (rule : ∀ (i j : Int) (t u : Tok) (s : Shared) (Q : Value → Shared → Prop) (E : Value → Shared → Prop), C i j → Q (.int (g i j) s.toks) { s with toks := s.toks + 1 } → wpAny (model X.prog X.w) X.A (f (.int i t) (.int j u)) Q E s) :
  OpR X f (rI C fun i j => .int (g i j)) := by
 intro pins s σ H x y v u Q I rx ry h
 obtain ⟨i, j, rfl, rfl, hc, q⟩ := h
 obtain ⟨t, rfl⟩ := rx
 obtain ⟨t', rfl⟩ := ry
 exact rule i j t t' s _ _ hc ⟨.int (g i j), H, I.tok _, ⟨_, rfl⟩, q⟩
theorem opI0 {f : Value → Value → Sem Value} {g : Int → Int → Int}
  (rule : ∀ (i j : Int) (t u : Tok) (s : Shared) (Q : Value → Shared → Prop) (E : Value → Shared → Prop), Q (.int (g i j) s.toks) { s with toks := s.toks + 1 } → wpAny (model X.prog X.w) X.A (f (.int i t) (.int j u)) Q E s) :
  OpR X f (rI0 fun i j => .int (g i j)) := by
 intro pins s σ H x y v u Q I rx ry h
 obtain ⟨i, j, rfl, rfl, q⟩ := h
 obtain ⟨t, rfl⟩ := rx
 obtain ⟨t', rfl⟩ := ry
 exact rule i j t t' s _ _ ⟨.int (g i j), H, I.tok _, ⟨_, rfl⟩, q⟩
theorem opB0 {f : Value → Value → Sem Value} {g : Int → Int → Bool}
  (rule : ∀ (i j : Int) (t u : Tok) (s : Shared) (Q : Value → Shared → Prop) (E : Value → Shared → Prop), Q (.bool (g i j)) s → wpAny (model X.prog X.w) X.A (f (.int i t) (.int j u)) Q E s) :
  OpR X f (rI0 fun i j => .bl (g i j)) := by
 intro pins s σ H x y v u Q I rx ry h
 obtain ⟨i, j, rfl, rfl, q⟩ := h
 obtain ⟨t, rfl⟩ := rx
 obtain ⟨t', rfl⟩ := ry
 exact rule i j t t' s _ _ ⟨.bl (g i j), H, I, rfl, q⟩
noncomputable def CDiv (i j : Int) : Prop := 0 < j ∧ j < 1073741824
noncomputable def CPow (i j : Int) : Prop := 0 ≤ j ∧ j ≤ 1000000 ∧ i.natAbs < 2 ^ 64
noncomputable def CMul (i j : Int) : Prop := (-(2 ^ 64) < i ∧ i < 2 ^ 64) ∨ (-(2 ^ 64) < j ∧ j < 2 ^ 64)
theorem CMul.ok {i j : Int} (h : CMul i j) : IntMulOk i j := by
 rcases h with ⟨h1, h2⟩ | ⟨h1, h2⟩
 ·exact .of_left (intBits_le_64 h1 h2)
 ·exact .of_right (intBits_le_64 h1 h2)
theorem op_add : OpR X (binaryOp .Add) (rI0 fun i j => .int (i + j)) := opI0 fun _ _ _ _ _ _ _ q => add_int q
theorem op_sub : OpR X (binaryOp .Sub) (rI0 fun i j => .int (i - j)) := opI0 fun _ _ _ _ _ _ _ q => sub_int q
theorem op_mul : OpR X (binaryOp .Mult) (rI CMul fun i j => .int (i * j)) := opI fun _ _ _ _ _ _ _ hc q => mul_int q hc.ok
theorem op_fdiv : OpR X (binaryOp .FloorDiv) (rI CDiv fun i j => .int (i / j)) := opI fun i j _ _ _ _ _ hc q => by
 have h1 : (0 : Int) < j := hc.1
 have h2 : j < 1073741824 := hc.2
 exact floordiv_int (by omega) (by rw [Int.fdiv_eq_ediv_of_nonneg i (by omega)]; exact q) (.inl (PyProof.noPylong_small (by omega)))
theorem op_mod : OpR X (binaryOp .Mod) (rI (fun _ j => 0 < j) fun i j => .int (i % j)) := opI fun i j _ _ _ _ _ hc q => by
 have h1 : (0 : Int) < j := hc
 exact mod_int' (by omega) (by rw [Int.fmod_eq_emod_of_nonneg i (by omega)]; exact q)
theorem op_pow : OpR X (binaryOp .Pow) (rI CPow fun i j => .int (i ^ j.toNat)) := opI fun _ _ _ _ _ _ _ hc q => pow_int_small hc.1 hc.2.1 hc.2.2 q
theorem unI {f : Value → Sem Value} {g : Int → Int}
  (rule : ∀ (i : Int) (t : Tok) (s : Shared) (Q : Value → Shared → Prop) (E : Value → Shared → Prop), Q (.int (g i) s.toks) { s with toks := s.toks + 1 } → wpAny (model X.prog X.w) X.A (f (.int i t)) Q E s) :
  UnR X f (rU fun i => .int (g i)) := by
 intro pins s σ H x v Q I rx h
 obtain ⟨i, rfl, q⟩ := h
 obtain ⟨t, rfl⟩ := rx
 exact rule i t s _ _ ⟨.int (g i), H, I.tok _, ⟨_, rfl⟩, q⟩
theorem un_neg : UnR X (unaryOp .USub) (rU fun i => .int (-i)) := unI fun _ _ _ _ _ q => neg_int q
end
section
variable {X : Cx} {a b c : Expr} {ta tb tc : TE} {pos : Pos}
theorem fin_bl {pins : List (Addr × Obj)} {σ : St} {H : Hp} {s : Shared} {Q : VK} {k k' : Bool} (I : Inv X pins σ H s) (q : Q (.bl k) H) (e : k = k') : EP X pins σ Q (.bool k') s := by
 subst e
 exact ⟨.bl k, H, I, rfl, q⟩
theorem op_lt : OpR X (compareOp .Lt) (rI0 fun i j => .bl (decide (i < j))) := opB0 fun _ _ _ _ _ _ _ q => lt_int q
theorem op_le : OpR X (compareOp .LtE) (rI0 fun i j => .bl (decide (i ≤ j))) := opB0 fun _ _ _ _ _ _ _ q => le_int q
theorem op_gt : OpR X (compareOp .Gt) (rI0 fun i j => .bl (decide (j < i))) := opB0 fun _ _ _ _ _ _ _ q => gt_int q
theorem op_ge : OpR X (compareOp .GtE) (rI0 fun i j => .bl (decide (j ≤ i))) := opB0 fun _ _ _ _ _ _ _ q => ge_int q
theorem op_isN : OpR X (compareOp .Is) (fun x y H Q => y = .non ∧ Q (.bl (decide (x = .non))) H) := by
 intro pins s σ H x y v u Q I rx ry h
 obtain ⟨rfl, q⟩ := h
 cases ry
 refine is_none_gen (fin_bl I q ?_)
 cases x <;> first
  | (cases rx; rfl)
  | (obtain ⟨t, rfl⟩ := rx; rfl)
theorem op_notN : OpR X (compareOp .IsNot) (fun x y H Q => y = .non ∧ Q (.bl (!decide (x = .non))) H) := by
 intro pins s σ H x y v u Q I rx ry h
 obtain ⟨rfl, q⟩ := h
 cases ry
 refine isnot_none_gen (fin_bl I q ?_)
 cases x <;> first
  | (cases rx; rfl)
  | (obtain ⟨t, rfl⟩ := rx; rfl)
theorem nomark (b : Expr) {op : CmpOp} (h : op ≠ .In := by decide) (h2 : op ≠ .NotIn := by decide) : behindInMarks op b = false := by
 have e1 : (op == CmpOp.In) = false := by cases op <;> first | rfl | exact absurd rfl h
 have e2 : (op == CmpOp.NotIn) = false := by cases op <;> first | rfl | exact absurd rfl h2
 cases b <;> simp [behindInMarks, e1, e2]
noncomputable def tTest (t : TE) : TT := fun σ H Q => t σ H fun x H' => ∃ k, x = .bl k ∧ Q k H'
noncomputable def tChain (r r' : R2) (ta tb tc : TE) : TE := fun σ H Q => ta σ H fun x H1 => tb σ H1 fun y H2 => r x y H2 fun z H3 => ∃ k, z = .bl k ∧
 (if k = true then tc σ H3 fun w' H4 => r' y w' H4 Q else Q (.bl false) H3)
noncomputable def TruV (K : PySem.W.Frag) (x : V) (H : Hp) (k : Bool) : Prop :=
 match x with
 | .non => k = false
 | .bl b => k = b
 | .int i => k = (i != 0)
 | .str y => y.length ≤ sizeLine ∧ k = ((y.length : Int) != 0)
 | .byt y => y.size ≤ sizeLine ∧ k = ((y.size : Int) != 0)
 | .ref p => (∃ xs, SqL K H p xs ∧ k = !xs.isEmpty) ∨ (∃ xs, SqT K H p xs ∧ k = !xs.isEmpty) ∨ ∃ kvs, H p = some (.dK kvs) ∧ k = !kvs.isEmpty
 | _ => False
theorem isEmpty_kv {κ : Type} {kvs : List (κ × V)} {vs : List (κ × Value)} (r : KV kvs vs) : (!vs.isEmpty) = !kvs.isEmpty := by
 cases r <;> rfl
theorem isEmpty_of {xs : List V} {its : List Value} (r : Vals xs its) : (!its.toArray.isEmpty) = !xs.isEmpty := by
 cases r <;> simp
theorem line63 : (sizeLine : Nat) < 2 ^ 63 := by rw [sizeLine_eq]; decide
theorem tru_ok : TruR X (fun x H Q => ∃ k, TruV X.K x H k ∧ Q k H) := by
 intro pins s σ H x v Q I rx h
 obtain ⟨k, e, q⟩ := h
 have hl := line63
 have hs : sizeLine = 16777216 := sizeLine_eq
 cases x with
 | non =>
  cases rx
  have e' : k = false := e
  subst e'
  exact truthy_none ⟨H, I, q⟩
 | bl b =>
  cases rx
  have e' : k = b := e
  subst e'
  exact wpAny_truthy_bool ⟨H, I, q⟩
 | int i =>
  obtain ⟨t, rfl⟩ := rx
  have e' : k = (i != 0) := e
  subst e'
  exact PySem.P.truthy_int ⟨H, I, q⟩
 | str y =>
  obtain ⟨t, rfl⟩ := rx
  obtain ⟨hy, e'⟩ : y.length ≤ sizeLine ∧ k = ((y.length : Int) != 0) := e
  subst e'
  exact PySem.P.truthy_str (by omega) ⟨H, I.tok _, q⟩
 | byt y =>
  obtain ⟨t, rfl⟩ := rx
  obtain ⟨hy, e'⟩ : y.size ≤ sizeLine ∧ k = ((y.size : Int) != 0) := e
  subst e'
  exact PySem.W.truthy_bytes (by omega) ⟨H, I.tok _, q⟩
 | ref p =>
  cases rx
  have e' : (∃ xs, SqL X.K H p xs ∧ k = !xs.isEmpty) ∨ (∃ xs, SqT X.K H p xs ∧ k = !xs.isEmpty) ∨ ∃ kvs, H p = some (.dK kvs) ∧ k = !kvs.isEmpty := e
  rcases e' with ⟨xs, hx, e'⟩ | ⟨xs, hx, e'⟩ | ⟨kvs, hx, e'⟩
  ·subst e'
   obtain ⟨its, r, pl, hz⟩ := I.list hx
   have hlen := r.length
   exact wpAny_truthy_list pl.isList (by simp only [List.size_toArray]; omega) ⟨H, I.tok _, by rw [isEmpty_of r]; exact q⟩
  ·subst e'
   obtain ⟨its, r, pl, hz⟩ := I.tuple hx
   have hlen := r.length
   exact truthy_tuple pl (by simp only [List.size_toArray]; omega) ⟨H, I.tok _, by rw [isEmpty_of r]; exact q⟩
  ·subst e'
   obtain ⟨hz, hS, vs, r, m⟩ : kvs.length ≤ sizeLine ∧ (p == sysModules) = false ∧ ∃ vs, KV kvs vs ∧ s.heap.DictOf (mixKind X.prog X.w) p vs := I.hok p _ hx
   have hlen : kvs.length = vs.length := Paired.length r
   exact wpAny_truthy_dict hS m (by omega) ⟨H, I.tok _, by rw [isEmpty_kv r]; exact q⟩
 | _ => exact (show False from e).elim
theorem vals1 {x : V} {us : List Value} (r : Vals [x] us) : ∃ u, us = [u] ∧ RelV x u := by
 cases r with
 | cons r1 r2 => cases r2; exact ⟨_, rfl, r1⟩
theorem vals2 {x y : V} {us : List Value} (r : Vals [x, y] us) : ∃ u w', us = [u, w'] ∧ RelV x u ∧ RelV y w' := by
 cases r with
 | cons r1 r2 =>
  cases r2 with
  | cons r3 r4 => cases r4; exact ⟨_, _, rfl, r1, r3⟩
theorem call_abs : CallR X (.builtin "abs") (fun xs H Q => ∃ i, xs = [.int i] ∧ Q (.int (if i < 0 then -i else i)) H) := by
 intro pins s σ H xs us Q I r h
 obtain ⟨i, rfl, q⟩ := h
 obtain ⟨u, rfl, t, rfl⟩ := vals1 r
 exact call_abs_int fun u tk => ⟨.int (if i < 0 then -i else i), H, I.tok _, ⟨_, rfl⟩, q⟩
theorem call_max2 (hc : X.calm = true) : CallR X (.builtin "max") (fun xs H Q => ∃ i j, xs = [.int i, .int j] ∧ Q (.int (if j > i then j else i)) H) := by
 intro pins s σ H xs us Q I r h
 obtain ⟨i, j, rfl, q⟩ := h
 obtain ⟨u, w', rfl, ⟨t, rfl⟩, ⟨t', rfl⟩⟩ := vals2 r
 refine max_two_ints (I.ok.hd hc) fun h' tk k => ⟨_, H, I.kept k, ?_, q⟩
 by_cases hj : j > i
 ·rw [if_pos hj, if_pos hj]; exact ⟨_, rfl⟩
 ·rw [if_neg hj, if_neg hj]; exact ⟨_, rfl⟩
theorem call_min2 (hc : X.calm = true) : CallR X (.builtin "min") (fun xs H Q => ∃ i j, xs = [.int i, .int j] ∧ Q (.int (if j < i then j else i)) H) := by
 intro pins s σ H xs us Q I r h
 obtain ⟨i, j, rfl, q⟩ := h
 obtain ⟨u, w', rfl, ⟨t, rfl⟩, ⟨t', rfl⟩⟩ := vals2 r
 refine min_two_ints (I.ok.hd hc) fun h' tk k => ⟨_, H, I.kept k, ?_, q⟩
 by_cases hj : j < i
 ·rw [if_pos hj, if_pos hj]; exact ⟨_, rfl⟩
 ·rw [if_neg hj, if_neg hj]; exact ⟨_, rfl⟩
theorem call_int1 : CallR X (.type "int") (fun xs H Q => (∃ i, xs = [.int i] ∧ Q (.int i) H) ∨ ∃ k, xs = [.bl k] ∧ Q (.int (if k then 1 else 0)) H) := by
 intro pins s σ H xs us Q I r h
 rcases h with ⟨i, rfl, q⟩ | ⟨k, rfl, q⟩
 ·obtain ⟨u, rfl, t, rfl⟩ := vals1 r
  exact call_int_int ⟨.int i, H, I, ⟨_, rfl⟩, q⟩
 ·obtain ⟨u, rfl, r1⟩ := vals1 r
  cases r1
  exact call_int_bool ⟨.int (if k then 1 else 0), H, I.tok _, ⟨_, rfl⟩, q⟩
end
end L2
namespace L2
open PySem PySem.Spec PyProof.Rows
section
variable {prog : Program} {w : World} {A : Around} {E : Value → Shared → Prop} {s : Shared} {K : PySem.W.Frag} {x dx C f : Addr} {mA : Str → Option Value} {name : Str} {v : Value}
end
theorem RelO.some_of {v : V} {o : Option Value} (r : RelO (some v) o) : ∃ u, o = some u ∧ RelV v u := by
 cases o with
 | none => exact (show False from r).elim
 | some u => exact ⟨u, rfl, r⟩
section
variable {P : Program} {w : World} {H H' : Hp} {h h' : Heap} {a C dx : Addr} {fs fs' : List (Str × V)}
end
section
variable {X : Cx} {pins : List (Addr × Obj)} {σ : St} {H : Hp} {s : Shared} {a C dx : Addr} {fs : List (Str × V)} {f : Str} {v : V} {A : Around} {E : Value → Shared → Prop}
end
section
variable {X : Cx} {o e value : Expr} {f : Str} {pos pos' tpos : Pos} {ta tv : TE}
noncomputable def rSub : V → V → Hp → VK → Prop := fun x y H Q => ∃ i j, x = .int i ∧ y = .int j ∧ Q (.int (i - j)) H
end
section
variable {X : Cx} {pins : List (Addr × Obj)} {σ : St} {H : Hp} {s : Shared} {A : Around} {E : Value → Shared → Prop} {Q : Value → Shared → Prop} {c : Value} {b : Bool}
end
end L2
namespace L2
open PySem PySem.Spec PyProof.Rows
structure Room (k : Nat) (A : Around) : Prop where
 hd : A.handled = none
 dp : A.depth + 3 * k + 5 < recursionLimit
 un : A.units + 16 * k + 200 < cLine
theorem Room.mono {j k : Nat} {A : Around} (r : Room k A) (h : j ≤ k) : Room j A := ⟨r.hd, by have := r.dp; omega, by have := r.un; omega⟩
theorem Room.deeper {k : Nat} {A : Around} (r : Room (k + 1) A) (env : Env) : Room k (A.deeper env) :=
 ⟨r.hd, by have := r.dp; show A.depth + 1 + 3 * k + 5 < _; omega, by have := r.un; show A.units + 3 + 16 * k + 200 < _; omega⟩
theorem Room.depth {k : Nat} {A : Around} (r : Room k A) : A.depth < recursionLimit := by have := r.dp; omega
theorem Room.units {k : Nat} {A : Around} (r : Room k A) : A.units + 64 < cLine := by have := r.un; omega
noncomputable def tNil : TA := fun _ H Q => Q [] H
noncomputable def tCons (ta : TE) (tr : TA) : TA := fun σ H Q => ta σ H fun x H1 => tr σ H1 fun xs H2 => Q (x :: xs) H2
section
variable {X : Cx} {e : Expr} {es : List Expr} {te : TE} {t : TA} {pos : Pos}
noncomputable def tTup (t : TA) : TE := fun σ H Q => t σ H fun xs H1 => xs.length ≤ sizeLine ∧ ∀ p, H1 p = none → Q (.ref p) (upd H1 p (.tup xs))
noncomputable def tLst (t : TA) : TE := fun σ H Q => t σ H fun xs H1 => xs.length ≤ sizeLine ∧ ∀ p, H1 p = none → Q (.ref p) (upd H1 p (.lst xs))
end
noncomputable abbrev Sp := List V → Hp → VK → XK → Prop
noncomputable abbrev CXT := List Env → Hp → Shared → XK → Value → Shared → Prop
structure Env0 (P : Program) (w : World) (K : PySem.W.Frag) (mg : Str → Option Value) (base : Heap) (A : Around) (outer : List Env) (s : Shared) (H : Hp) : Prop where
 frames : A.frames = some outer
 mod : Mod K mg base
 bs : ∀ b o, base.get? b = some o → s.heap.get? b = some o ∧ H b = none
 bsz : base.objs.size ≤ s.heap.objs.size
 funs : s.heap.FunFrames base outer
 frf : ∀ b ∈ frs outer, H b = none
 hok : HOk P w H s.heap
 bare : AllBare s.gens
noncomputable def CE (outer : List Env) (P : Program) (w : World) (H : Hp) (s : Shared) (Q : VK) (u : Value) (s' : Shared) : Prop :=
 ∃ v H', s'.os = s.os ∧ AllBare s'.gens ∧ Un (frs outer) [] H H' s.heap s'.heap ∧ HOk P w H' s'.heap ∧ RelV v u ∧ Q v H'
noncomputable def CR (CX : CXT) (outer : List Env) (P : Program) (w : World) (H : Hp) (s : Shared) (Q : VK) (E : XK) (r : Result) (s' : Shared) : Prop :=
 match r with
 | .ok (.ret u) => CE outer P w H s Q u s'
 | .ok _ => False
 | .error e => CX outer H s E e s'
structure FnOk (P : Program) (w : World) (K : PySem.W.Frag) (mg : Str → Option Value) (base : Heap) (CX : CXT) (k : Nat) (f : Addr) (fd : FuncData) (ps : List Str) (sp : Sp) : Prop where
 len : ∀ vs H Q E, sp vs H Q E → vs.length = ps.length
 run : ∀ (A : Around) (outer : List Env) (s : Shared) (H : Hp) (args : Args) (us : List Value) (vs : List V) (Q : VK) (E : XK), Room k A → Env0 P w K mg base A outer s H → BindsTo s fd args (ps.zip us) → Vals vs us → sp vs H Q E →
  codeAny (model P w) A (.call (.ref f) args) (CR CX outer P w H s Q E) s
section
variable {X : Cx} {pins : List (Addr × Obj)} {σ : St} {H : Hp} {s s' : Shared}
theorem Inv.env0 (I : Inv X pins σ H s) : Env0 X.prog X.w X.K X.mg X.base X.A X.stack s H :=
 ⟨I.ok.frames, I.ok.mod, I.bs, Nat.le_trans I.ok.bsz I.sz, I.stack, I.stkFree, I.hok, I.bare⟩
theorem Inv.after {Q : VK} {u : Value} (I : Inv X pins σ H s) (h : CE X.stack X.prog X.w H s Q u s') : EP X pins σ Q u s' := by
 obtain ⟨v, H', os, bare, un, hok, r, q⟩ := h
 obtain ⟨hh, g, d, t, os'⟩ := s'
 obtain rfl : os' = s.os := os
 exact ⟨v, H', I.call (h' := hh) (g' := g) (d' := d) (t' := t) (ch := []) un hok bare (fun b z => absurd z (by simp)), r, q⟩
end
noncomputable def tCall (sp : Sp) (dvs : List V) (E : XK) (t : TA) : TE := fun σ H Q => t σ H fun vs H1 => sp (vs ++ dvs) H1 Q E
noncomputable def Binds (K : PySem.W.Frag) (fd : FuncData) (ps : List Str) (ds : List Value) : Prop :=
 ∀ (s : Shared) (us : List Value), K.In s.heap → (us ++ ds).length = ps.length → BindsTo s fd ⟨us, []⟩ (ps.zip (us ++ ds))
theorem Binds.all {K : PySem.W.Frag} {fd : FuncData} {ps : List Str} (h : ∀ us : List Value, us.length = ps.length → bindArgs fd ⟨us, []⟩ = pure (ps.zip us)) : Binds K fd ps [] := fun s us _ hl => by
 rw [List.append_nil] at hl ⊢
 exact .of_eq (h us hl)
noncomputable def Passes (CX : CXT) (X : Cx) (E : XK) : Prop := ∀ (pins : List (Addr × Obj)) (σ : St) (H : Hp) (s : Shared) (e : Value) (s' : Shared), Inv X pins σ H s → CX X.stack H s E e s' → X.xe e s'
section
variable {X : Cx} {CX : CXT} {k : Nat} {f C : Addr} {fd : FuncData} {ps : List Str} {sp : Sp} {dvs : List V} {ds : List Value} {E : XK} {x m : Str} {p pos apos : Pos} {e o : Expr} {es : List Expr} {ta : TE} {t : TA}
theorem run_fn {pins : List (Addr × Obj)} {σ : St} {H : Hp} {s : Shared} {Q : VK} {us : List Value} {vs : List V} (F : FnOk X.prog X.w X.K X.mg X.base CX k f fd ps sp) (hr : Room k X.A) (hb : Binds X.K fd ps ds) (hd : Vals dvs ds) (hx : Passes CX X E)
  (I : Inv X pins σ H s) (r : Vals vs us) (h : sp (vs ++ dvs) H Q E) : wpAny (model X.prog X.w) X.A (call (.ref f) us) (EP X pins σ Q) X.xe s := by
 have r2 : Vals (vs ++ dvs) (us ++ ds) := r.append hd
 have hl : (us ++ ds).length = ps.length := by rw [← r2.length]; exact F.len _ _ _ _ h
 refine wpAny_call (codeAny_mono (F.run X.A X.stack s H ⟨us, []⟩ (us ++ ds) (vs ++ dvs) Q E hr I.env0 (hb s us I.kIn hl) r2 h) fun r s' hq => ?_)
 cases r with
 | error e => exact hx pins σ H s e s' I hq
 | ok fl =>
  cases fl with
  | ret u => exact I.after hq
  | next => exact False.elim hq
  | brk => exact False.elim hq
  | cont => exact False.elim hq
end
section
variable {X : Cx} {CX : CXT} {k : Nat} {f C : Addr} {fd : FuncData} {ps ks : List Str} {sp : Sp} {E : XK} {x m : Str} {p pos apos kpos : Pos} {e o : Expr} {es : List Expr} {kws : List Keyword} {te ta : TE} {t tk : TA} {nm : Option Str}
variable {g : List Value → List Value → List Value} {gV : List V → List V → List V}
end
structure FnScope (N P : List Str) (sc : Scope) : Prop where
 kind : sc.kind = .function
 co : sc.isCoroutine = false
 gen : sc.isGenerator = false
 nd : N.Nodup
 pre : N.take P.length = P
 par : ∀ x ∈ P, sc.names.lookup x = some .local ∨ sc.names.lookup x = some .cell
 nofree : ∀ y ∈ sc.names, y.2 ≠ .free
theorem bindL_out {kindOf : Str → Option NameKind} {x : Str} : ∀ {binds : List (Str × Value)} {m : Str → Option Value}, (∀ v, (x, v) ∉ binds) → bindL kindOf binds m x = m x
 | [], _, _ => rfl
 | (n, v) :: r, m, h => by
  unfold bindL
  rw [bindL_out fun w hw => h w (List.mem_cons_of_mem _ hw)]
  split
  ·have : x ≠ n := by rintro rfl; exact h v List.mem_cons_self
   simp [this]
  ·rfl
theorem bindC_out {kindOf : Str → Option NameKind} {x : Str} : ∀ {binds : List (Str × Value)} {m : Str → Option Value}, (∀ v, (x, v) ∉ binds) → bindC kindOf binds m x = m x
 | [], _, _ => rfl
 | (n, v) :: r, m, h => by
  unfold bindC
  rw [bindC_out fun w hw => h w (List.mem_cons_of_mem _ hw)]
  split
  ·rfl
  ·have : x ≠ n := by rintro rfl; exact h v List.mem_cons_self
   simp [this]
theorem bindL_get {kindOf : Str → Option NameKind} {x : Str} {v : Value} : ∀ {P : List Str} {vs : List Value} {i : Nat} {m : Str → Option Value}, P.Nodup → P[i]? = some x → vs[i]? = some v → kindOf x = some .local →
  bindL kindOf (P.zip vs) m x = some v
 | [], _, _, _, _, h, _, _ => by simp at h
 | _ :: _, [], _, _, _, _, h, _ => by simp at h
 | p :: P, w :: vs, 0, m, nd, h1, h2, hk => by
  simp at h1 h2; subst h1; subst h2
  show bindL kindOf ((p, w) :: P.zip vs) m p = _
  unfold bindL
  rw [bindL_out fun v hv => (List.nodup_cons.mp nd).1 (List.of_mem_zip hv).1, if_pos hk]
  simp
 | p :: P, w :: vs, i + 1, m, nd, h1, h2, hk => by
  show bindL kindOf ((p, w) :: P.zip vs) m x = _
  unfold bindL
  exact bindL_get (i := i) (List.nodup_cons.mp nd).2 (by simpa using h1) (by simpa using h2) hk
theorem bindC_get {kindOf : Str → Option NameKind} {x : Str} {v : Value} : ∀ {P : List Str} {vs : List Value} {i : Nat} {m : Str → Option Value}, P.Nodup → P[i]? = some x → vs[i]? = some v → kindOf x ≠ some .local →
  bindC kindOf (P.zip vs) m x = some v
 | [], _, _, _, _, h, _, _ => by simp at h
 | _ :: _, [], _, _, _, _, h, _ => by simp at h
 | p :: P, w :: vs, 0, m, nd, h1, h2, hk => by
  simp at h1 h2; subst h1; subst h2
  show bindC kindOf ((p, w) :: P.zip vs) m p = _
  unfold bindC
  rw [bindC_out fun v hv => (List.nodup_cons.mp nd).1 (List.of_mem_zip hv).1, if_neg hk]
  simp
 | p :: P, w :: vs, i + 1, m, nd, h1, h2, hk => by
  show bindC kindOf ((p, w) :: P.zip vs) m x = _
  unfold bindC
  exact bindC_get (i := i) (List.nodup_cons.mp nd).2 (by simpa using h1) (by simpa using h2) hk
noncomputable def start (N : List Str) (vs : List V) : St := vs.map some ++ List.replicate (N.length - vs.length) none
noncomputable def cxOf (CX : CXT) (P : Program) (w : World) (K : PySem.W.Frag) (mg : Str → Option Value) (base : Heap) (N : List Str) (qual : Str) (scope : Scope) (f : Addr) (cd : Value) (A : Around) (outer : List Env) (s : Shared) (H : Hp) (E : XK) : Cx where
 prog := P
 w := w
 K := K
 mg := mg
 base := base
 A := A.deeper (envOfC qual scope s.heap.objs.size f cd)
 N := N
 s₀ := s
 H₀ := H
 env := envOfC qual scope s.heap.objs.size f cd
 outer := outer
 stack := envOfC qual scope s.heap.objs.size f cd :: outer
 ex := []
 calm := true
 fn := fun _ => true
 pn := []
 xe := fun e s' => wpAny (model P w) (A.deeper (envOfC qual scope s.heap.objs.size f cd)) (leaving (envOfC qual scope s.heap.objs.size f cd) e) (fun _ s'' => CX outer H s E e s'') (fun e' s'' => CX outer H s E e' s'') s'
theorem cell_has {sc : Scope} {n : Nat} {x : Str} (h : sc.names.lookup x = some .cell) : ∃ c, (cellsFrom n sc.names []).lookup x = some c := by
 have q := PySem.W.cellsFrom_some sc.names n [] (.inl h)
 exact Option.isSome_iff_exists.mp q
theorem inv_start {CX : CXT} {P : Program} {w : World} {K : PySem.W.Frag} {mg : Str → Option Value} {base : Heap} {N ps : List Str} {qual : Str} {scope : Scope} {f : Addr} {cd : Value} {A : Around} {outer : List Env} {s s1 : Shared} {H : Hp} {E : XK} {us : List Value} {vs : List V}
  (S : FnScope N ps scope) (hd : A.handled = none) (e0 : Env0 P w K mg base A outer s H) (hl : vs.length = ps.length) (r : Vals vs us)
  (x : InCallC s s.heap.objs.size (bindL (envOfC qual scope s.heap.objs.size f cd).kindOf (ps.zip us) fun _ => none) (cellsFrom (s.heap.objs.size + 1) scope.names []) (bindC (envOfC qual scope s.heap.objs.size f cd).kindOf (ps.zip us) fun _ => none) s1) :
  Inv (cxOf CX P w K mg base N qual scope f cd A outer s H E) [] (start N vs) H s1 := by
 have hpl : ps.length ≤ N.length := by have := congrArg List.length S.pre; rw [List.length_take] at this; omega
 obtain ⟨h1, tk, rfl, hk⟩ := x.done
 have noA : ∀ b : Addr, b ∉ (cxOf CX P w K mg base N qual scope f cd A outer s H E).ex := fun b z => absurd (show b ∈ ([] : List Addr) from z) (by simp)
 refine ⟨⟨e0.mod, S.kind, rfl, rfl, Nat.le_refl _, fun y z c h1 h2 => ?_, fun y hy => ?_, fun y c _ h => ?_, fun _ => hd, Around.frames_deeper e0.frames, .inr ⟨rfl, rfl⟩, fun b z => absurd z (noA b), e0.bs, e0.bsz, fun b _ _ => noA b, fun b z => absurd z (noA b), e0.funs, e0.frf⟩,
  rfl, e0.bare, Un.kept hk, ⟨_, x.toInCall.ns, fun i y v h1 h2 h3 => ?_⟩, fun y c h => ⟨_, x.cell y c h⟩, e0.hok.fresh (Nat.le_refl _), fun y c h => ?_, fun p hp => absurd (show p ∈ ([] : List (Addr × Obj)) from hp) (by simp), e0.hok.kept hk, ?_⟩
 ·exact name_of_addr x.apart (PySem.mem_of_lookup h1) (PySem.mem_of_lookup h2)
 ·have hy : scope.names.lookup y = some .cell ∨ scope.names.lookup y = some .free := hy
  rcases hy with hy | hy
  ·exact cell_has hy
  ·exact absurd rfl (S.nofree _ (PySem.mem_of_lookup hy))
 ·exact Nat.le_of_lt (x.above y c (PySem.mem_of_lookup h))
 ·have hi : i < vs.length := by
   unfold start at h2
   by_cases hi : i < vs.length
   ·exact hi
   ·rw [List.getElem?_append_right (by simpa using hi)] at h2
    rw [List.getElem?_replicate] at h2
    split at h2 <;> cases h2
  have ha : vs[i]? = some v := by
   unfold start at h2
   rw [List.getElem?_append_left (by simpa using hi), List.getElem?_map] at h2
   cases e : vs[i]? with
   | none => rw [e] at h2; cases h2
   | some a => rw [e] at h2; cases h2; rfl
  obtain ⟨u, hu, rv⟩ := r.get ha
  have hp : ps[i]? = some y := by
   rw [← S.pre, List.getElem?_take_of_lt (by omega)]; exact h1
  have ndP : ps.Nodup := by rw [← S.pre]; exact S.nd.sublist (List.take_sublist _ _)
  refine ⟨u, rv, ?_⟩
  rcases S.par y (List.mem_of_getElem? hp) with k | k
  ·exact .inl ⟨k, bindL_get ndP hp hu k⟩
  ·obtain ⟨c, e⟩ := cell_has (n := s.heap.objs.size + 1) k
   refine .inr ⟨.inl k, c, e, ?_⟩
   have q := x.cell y c e
   rw [bindC_get ndP hp hu (by show scope.names.lookup y ≠ _; rw [k]; decide)] at q
   exact q
 ·exact e0.hok.fresh (Nat.le_of_lt (x.above y c (PySem.mem_of_lookup h)))
 ·unfold start
  show _ = N.length
  rw [List.length_append, List.length_map, List.length_replicate]
  omega
theorem fn_of {CX : CXT} {P : Program} {w : World} {K : PySem.W.Frag} {mg : Str → Option Value} {base : Heap} {k : Nat} {f : Addr} {name qual : Str} {params : Arguments} {body : List Stmt} {scope : Scope} {dV kV doc pm cdv ct oc : Value} {an od : Option Addr}
  {osl : Array (Option Value)} {N ps : List Str} {sp : Sp} (lk : K.lookup f = some ⟨oc, od, .func (PySem.W.fnOf name qual params body scope dV kV doc pm an cdv ct), osl⟩) (hcd : PySem.W.codeIn K cdv qual = true) (S : FnScope N ps scope)
  (len : ∀ vs H Q E, sp vs H Q E → vs.length = ps.length)
  (hbody : ∀ (A : Around) (outer : List Env) (s : Shared) (H : Hp) (vs : List V) (Q : VK) (E : XK), Room k (A.deeper (envOfC qual scope s.heap.objs.size f cdv)) → sp vs H Q E →
   ∃ t, PSs (cxOf CX P w K mg base N qual scope f cdv A outer s H E) body t ∧ t { nx := fun _ H' => Q .non H', rt := Q } (start N vs) H) :
  FnOk P w K mg base CX (k + 1) f (PySem.W.fnOf name qual params body scope dV kV doc pm an cdv ct) ps sp := by
 refine ⟨len, fun A outer s H args us vs Q E hr e0 hb r hsp => ?_⟩
 have hl := len _ _ _ _ hsp
 have KX : K.In s.heap := e0.mod.kin.keeps fun b o e => (e0.bs b o e).1
 have lim : s.heap.NoLimit := e0.mod.nolimit.keeps fun b o e => (e0.bs b o e).1
 have hkind : ∀ y ∈ ps.zip us, scope.names.lookup y.1 = some .local ∨ (scope.names.lookup y.1 = some .cell ∧ ((cellsFrom (s.heap.objs.size + 1) scope.names []).lookup y.1).isSome = true) := fun ⟨n, v⟩ hy => by
  rcases S.par n (List.of_mem_zip hy).1 with q | q
  ·exact .inl q
  ·exact .inr ⟨q, PySem.W.cellsFrom_some _ _ _ (.inl q)⟩
 refine codeAny_call_function hr.depth (KX _ _ lk) rfl S.co S.gen rfl (PySem.W.codeRec_of KX hcd) (hb _ _ _ _ ?_)
 refine wpAny_newFunctionEnv_cells S.kind hkind fun env he s1 x => ?_
 subst he
 refine ⟨lim.keeps x.toInCall.keep, codeAny_func ?_⟩
 obtain ⟨t, ht, hq⟩ := hbody A outer s H vs Q E (hr.deeper _) hsp
 have I : Inv (cxOf CX P w K mg base N qual scope f cdv A outer s H E) [] (start N vs) H s1 := inv_start S hr.hd e0 hl r x
 refine wpAny_mono (ht [] s1 (start N vs) H _ I hq) (fun fl s' hs => ?_) fun e s' hs => hs
 have fin : ∀ {σ' : St} {H' : Hp} {v : V} {u : Value}, Inv (cxOf CX P w K mg base N qual scope f cdv A outer s H E) [] σ' H' s' → RelV v u → Q v H' → CE outer P w H s Q u s' :=
  fun {σ' H' v u} J rv q => ⟨v, H', J.os, J.bare, J.base, J.hok, rv, q⟩
 cases fl with
 | ret u =>
  obtain ⟨v, σ', H', J, rv, q⟩ := hs
  exact fin J rv q
 | next =>
  obtain ⟨σ', H', J, q⟩ := hs
  exact fin (v := V.non) (u := Value.none) J rfl q
 | brk =>
  obtain ⟨_, _, _, q⟩ := hs
  exact False.elim q
 | cont =>
  obtain ⟨_, _, _, q⟩ := hs
  exact False.elim q
end L2
namespace L2
open PySem PySem.Spec PyProof.Rows
section
variable {X : Cx} {x : Str} {p pos : Pos} {e : Expr} {es : List Expr} {t : TA} {id T : String} {r : List V → Hp → VK → Prop}
noncomputable def tCB (r : List V → Hp → VK → Prop) (t : TA) : TE := fun σ H Q => t σ H fun vs H1 => r vs H1 Q
end
end L2
namespace HT
open PySem PyProof.Rows
theorem eqAt_int (A : Around) (s : Shared) (a : Int) (t : Tok) (c : Int) (u : Tok) : ∃ e, SeqAt.EqAt A s (.int a t) (.int c u) e ∧ (e = true ↔ a = c) :=
 ⟨(a == c), SeqAt.EqAt.int_int a t c u, by simp⟩
section
open PySem.SeqAt
open PySem.AutoSeq1 (wpAny_loadPart')
open PySem.MeetsSeq PySem.MeetsSeq2 PySem.MeetsSeq3
end
section
variable {prog : Program} {w : World} {A : Around} {E : Value → Shared → Prop} {s : Shared}
theorem cat_tup {t b : Addr} {vs ws : List Value} {Q : Value → Shared → Prop} (ht : IsTup s.heap t vs.toArray) (hb : IsTup s.heap b ws.toArray) (hv : vs ≠ [])
  (h1 : ws = [] → Q (.ref t) s) (h2 : ws ≠ [] → Q (.ref s.heap.objs.size) { s with heap := s.heap.push { cls := .type "tuple", data := .seq (vs ++ ws).toArray } })
  (hsz : vs.length + ws.length ≤ sizeLine) : wpAny (model prog w) A (binaryOp .Add (.ref t) (.ref b)) Q E s := by
 obtain ⟨⟨cls, dd, data, sl⟩, ho, hc, n, hd⟩ := id ht
 obtain ⟨⟨cls2, dd2, data2, sl2⟩, ho2, hc2, n2, hd2⟩ := id hb
 simp only at hc hd hc2 hd2
 subst hc hd hc2 hd2
 have e : vs.toArray ++ ws.toArray = (vs ++ ws).toArray := by simp
 by_cases hw : ws = []
 ·exact concat_meets ⟨_, ho, rfl⟩ ⟨_, ho2, rfl⟩ noFill_tuple_add seq_tuple_add PySem.F.slot_tuple_add PySem.F.entry_tuple_add (PySem.F.args_tuple_add_2 _ _)
   (tuple_addW1 t b vs.toArray ws.toArray n n2 dd dd2 sl sl2 (by simpa using hv) (by simp [hw])) ⟨ho, ho2, h1 hw⟩
 ·refine concat_meets ⟨_, ho, rfl⟩ ⟨_, ho2, rfl⟩ noFill_tuple_add seq_tuple_add PySem.F.slot_tuple_add PySem.F.entry_tuple_add (PySem.F.args_tuple_add_2 _ _)
   (tuple_addW2 t b vs.toArray ws.toArray n n2 dd dd2 sl sl2 (by simpa using hv) (by simpa using hw) (by rw [List.size_toArray, List.size_toArray]; exact hsz)) ⟨ho, ho2, ?_⟩
  rw [e]
  exact h2 hw
noncomputable def sIx (n d : Nat) : Option Int → Nat
 | none => d
 | some v => if v < 0 then (v + (n : Int)).toNat else min v.toNat n
theorem sIx_none (n d : Nat) : sIx n d none = d := rfl
theorem sIx_nat (n d k : Nat) : sIx n d (some (k : Int)) = min k n := by
 show (if (k : Int) < 0 then ((k : Int) + (n : Int)).toNat else min (k : Int).toNat n) = min k n
 rw [if_neg (by omega), Int.toNat_natCast]
theorem sIx_le (n d : Nat) (hd : d ≤ n) (o : Option Int) : sIx n d o ≤ n := by
 cases o with
 | none => exact hd
 | some v =>
  show (if v < 0 then (v + (n : Int)).toNat else min v.toNat n) ≤ n
  by_cases hv : v < 0
  ·rw [if_pos hv]; omega
  ·rw [if_neg hv]; exact Nat.min_le_right _ _
theorem clip_eq (v : Int) (n d : Nat) : (if v < 0 then max (v + (n : Int)) 0 else min v (n : Int)) = ((sIx n d (some v) : Nat) : Int) := by
 show (if v < 0 then max (v + (n : Int)) 0 else min v (n : Int)) = (((if v < 0 then (v + (n : Int)).toNat else min v.toNat n) : Nat) : Int)
 by_cases hv : v < 0
 ·simp only [if_pos hv]; omega
 ·simp only [if_neg hv]; omega
theorem adjust_gen (lo hi : Option Int) (n : Nat) : Builtin.Slice.sliceAdjust lo hi 1 (n : Int) = (((sIx n 0 lo : Nat) : Int), ((sIx n n hi : Nat) : Int)) := by
 have h1 : ¬ ((1 : Int) < 0) := by omega
 unfold Builtin.Slice.sliceAdjust
 simp only [h1, if_false]
 refine Prod.ext ?_ ?_
 ·cases lo with
  | none => rfl
  | some v => exact clip_eq v n 0
 ·cases hi with
  | none => rfl
  | some v => exact clip_eq v n n
theorem places_gen (i j : Nat) : Builtin.Slice.slicePlaces (i : Int) (j : Int) 1 = j - i := by
 unfold Builtin.Slice.slicePlaces
 have h1 : (1 : Int) > 0 := by omega
 simp only [h1, if_true, Int.ediv_one]
 split <;> omega
theorem slicePart_ {v : Value} {o : Option Int} {Q : Option Int → Shared → Prop} (p : IsPart v o) (h : Q o s) : wpAny (model prog w) A (Builtin.Slice.slicePartIndex v) Q E s := by
 cases p with
 | none => exact slicePart_none h
 | int i t => exact slicePart_int h
theorem sliceApplied_gen {sl : Addr} {vl vu : Value} {lo hi : Option Int} {n : Nat} {Q : Int × Int × Nat → Shared → Prop} (hs : s.heap.IsSliceOf sl vl vu .none) (pl : IsPart vl lo) (pu : IsPart vu hi)
  (h : Q (((sIx n 0 lo : Nat) : Int), 1, sIx n n hi - sIx n 0 lo) s) : wpAny (model prog w) A (Builtin.Slice.sliceApplied (.ref sl) (pure (n : Int))) Q E s := by
 obtain ⟨os, hos, hcs, hds⟩ := id hs
 unfold Builtin.Slice.sliceApplied Builtin.Slice.sliceFields
 refine wpAny_bind (wpAny_bind (wpAny_field hos hds (x := vl) rfl (wpAny_bind (wpAny_field hos hds (x := vu) rfl (wpAny_bind (wpAny_field hos hds (x := .none) rfl (wpAny_pure ?_)))))))
 refine wpAny_bind (slicePart_none ?_)
 show wpAny _ _ (if ((1 : Int) == 0) = true then _ else _) _ _ s
 rw [if_neg (by decide)]
 refine wpAny_bind (slicePart_ pl (wpAny_bind (slicePart_ pu (wpAny_bind (wpAny_pure ?_)))))
 show wpAny _ _ (match Builtin.Slice.sliceAdjust lo hi 1 (n : Int) with | (lo, hi) => pure (lo, (1 : Int), Builtin.Slice.slicePlaces lo hi 1)) _ _ s
 rw [adjust_gen lo hi n]
 show wpAny _ _ (pure (((sIx n 0 lo : Nat) : Int), (1 : Int), Builtin.Slice.slicePlaces ((sIx n 0 lo : Nat) : Int) ((sIx n n hi : Nat) : Int) 1)) _ _ s
 rw [places_gen]
 exact wpAny_pure h
theorem pick_gen (xs : Array Value) (i k : Nat) : ((List.range k).filterMap fun (m : Nat) => xs[((i : Int) + (m : Int) * 1).toNat]?).toArray = ((xs.toList.drop i).take k).toArray := by
 have e : (fun (m : Nat) => xs[((i : Int) + (m : Int) * 1).toNat]?) = fun m => xs[i + m]? := by
  funext m
  have : ((i : Int) + (m : Int) * 1).toNat = i + m := by omega
  rw [this]
 rw [e]
 have := pick_run xs i k
 rw [List.filterMap_map] at this
 have e2 : ((fun x => xs[x]?) ∘ fun x => i + x) = fun m => xs[i + m]? := rfl
 rw [e2] at this
 rw [this]
theorem getItem_tuple_cut {t sl : Addr} {items : Array Value} {vl vu : Value} {lo hi : Option Int} {Q : Value → Shared → Prop} (ht : IsTup s.heap t items) (hs : s.heap.IsSliceOf sl vl vu .none) (pl : IsPart vl lo) (pu : IsPart vu hi)
  (hw : ¬ (sIx items.size 0 lo = 0 ∧ sIx items.size items.size hi = items.size))
  (h : Q (.ref s.heap.objs.size) { s with heap := s.heap.push { cls := .type "tuple", data := .seq ((items.toList.drop (sIx items.size 0 lo)).take (sIx items.size items.size hi - sIx items.size 0 lo)).toArray } })
  (hsz : items.size ≤ sizeLine) : wpAny (model prog w) A (getItem (.ref t) (.ref sl)) Q E s := by
 have htake : sizeOk (.seq ((items.toList.drop (sIx items.size 0 lo)).take (sIx items.size items.size hi - sIx items.size 0 lo)).toArray) := by
  show ((items.toList.drop (sIx items.size 0 lo)).take (sIx items.size items.size hi - sIx items.size 0 lo)).toArray.size ≤ sizeLine
  rw [List.size_toArray, List.length_take, List.length_drop, Array.length_toList]
  omega
 have hj : sIx items.size items.size hi ≤ items.size := sIx_le _ _ (Nat.le_refl _) hi
 obtain ⟨os, hos, hcs, hds⟩ := id hs
 have hTs : s.TypeIs (.ref sl) "slice" := ⟨os, hos, hcs⟩
 unfold getItem
 try with_reducible refine wpAny_holding ?_
 first | refine wpAny_bind (wpAny_pure ?_) | skip
 refine wpAny_bind (wpAny_sequenceKey ht.typeIs (by decide) ?_)
 refine wpAny_bind (wpAny_callSpecial?_slot (name := Str.ofString "__getitem__") ht.typeIs PyProof.Rows.slot_tuple_getitem
  (wpAny_call_entry PyProof.Rows.slot_tuple_getitem ht.typeIs entry_tuple_getitem ?_ (args_tuple_getitem _ _)))
 show wpAny _ _ (Builtin.Tuple.tupleItemsOf (.ref t) >>= _) _ _ s
 refine wpAny_bind (tupleItemsOf_ ht ?_)
 refine wpAny_bind (wpAny_typeOf hTs ?_)
 rw [if_pos (by decide)]
 refine wpAny_bind (sliceApplied_gen hs pl pu ?_)
 have hno : ¬ ((((sIx items.size 0 lo : Nat) : Int) == 0 && (1 : Int) == 1 && (sIx items.size items.size hi - sIx items.size 0 lo) == items.size) = true) := by
  intro q
  rw [Bool.and_eq_true, Bool.and_eq_true] at q
  have q1 : ((sIx items.size 0 lo : Nat) : Int) = 0 := eq_of_beq q.1.1
  have q2 : sIx items.size items.size hi - sIx items.size 0 lo = items.size := eq_of_beq q.2
  exact hw ⟨by omega, by omega⟩
 show wpAny _ _ (if (((sIx items.size 0 lo : Nat) : Int) == 0 && (1 : Int) == 1 && (sIx items.size items.size hi - sIx items.size 0 lo) == items.size) = true then _ else _) _ _ s
 rw [if_neg hno, pick_gen]
 first
  | exact wpAny_bind (m := Builtin.Tuple.tupleExact _) (wpAny_newObj_type (wpAny_pure ⟨_, rfl, wpAny_pure h⟩) htake)
  | exact wpAny_bind (m := Builtin.Tuple.tupleExact _) (wpAny_newObj_type (wpAny_bind (wpAny_pure (wpAny_pure ⟨_, rfl, wpAny_pure h⟩))) htake)
  | exact wpAny_bind (wpAny_bind (m := Builtin.Tuple.tupleExact _) (wpAny_newObj_type (wpAny_pure (wpAny_pure ⟨_, rfl, wpAny_pure h⟩)) htake))
  | exact wpAny_bind (wpAny_bind (m := Builtin.Tuple.tupleExact _) (wpAny_newObj_type (wpAny_pure ⟨_, rfl, wpAny_pure h⟩) htake))
end
end HT
namespace L2
open PySem PySem.Spec PyProof.Rows
noncomputable abbrev TO := St → Hp → (Option Int → Hp → Prop) → Prop
noncomputable def tNoPart : TO := fun _ H Q => Q none H
noncomputable def tPart (t : TE) : TO := fun σ H Q => t σ H fun x H1 => ∃ i, x = .int i ∧ Q (some i) H1
theorem intsAre_of {ns : List Int} : ∀ {us : List Value}, Vals (ns.map V.int) us → IntsAre us ns := by
 induction ns with
 | nil => intro us r; rw [List.map_nil] at r; cases r; exact .nil
 | cons n ns ih =>
  intro us r
  rw [List.map_cons] at r
  cases r with
  | cons r1 r2 =>
   obtain ⟨t, e⟩ := r1
   subst e
   exact .cons n t (ih r2)
section
variable {X : Cx} {e : Expr} {te : TE} {lo hi : Option Expr} {tl th : TO} {pos p2 : Pos}
noncomputable def SlR (X : Cx) (r : V → Option Int → Option Int → Hp → VK → Prop) : Prop :=
 ∀ (pins : List (Addr × Obj)) (s : Shared) (σ : St) (H : Hp) (x : V) (v vl vu : Value) (lo hi : Option Int) (sl : Addr) (Q : VK), Inv X pins σ H s → RelV x v → s.heap.IsSliceOf sl vl vu .none → IsPart vl lo → IsPart vu hi → r x lo hi H Q →
  ∃ T id, typeLookup (.type T) "__getitem__" = pure (some (.builtin id)) ∧ s.TypeIs v T ∧ wpAny (model X.prog X.w) X.A (getItem v (.ref sl)) (EP X pins σ Q) X.xe s
noncomputable def tSl (r : V → Option Int → Option Int → Hp → VK → Prop) (te : TE) (tl th : TO) : TE := fun σ H Q => te σ H fun x H1 => tl σ H1 fun l H2 => th σ H2 fun u H3 => r x l u H3 Q
noncomputable def cutV (xs : List V) (lo hi : Option Int) : List V := (xs.drop (HT.sIx xs.length 0 lo)).take (HT.sIx xs.length xs.length hi - HT.sIx xs.length 0 lo)
theorem cutV_length (xs : List V) (lo hi : Option Int) : (cutV xs lo hi).length ≤ xs.length := by
 unfold cutV
 rw [List.length_take, List.length_drop]
 omega
noncomputable def rSlT (K : PySem.W.Frag) : V → Option Int → Option Int → Hp → VK → Prop := fun x lo hi H Q => ∃ a xs, x = .ref a ∧ SqT K H a xs ∧
 ¬ (HT.sIx xs.length 0 lo = 0 ∧ HT.sIx xs.length xs.length hi = xs.length) ∧ ∀ p, H p = none → Q (.ref p) (upd H p (.tup (cutV xs lo hi)))
theorem sl_tup : SlR X (rSlT X.K) := by
 intro pins s σ H x v vl vu lo hi sl Q I rx hs pl pu h
 obtain ⟨a, xs, rfl, hx, hw, q⟩ := h
 cases rx
 obtain ⟨its, r, ht, hz⟩ := I.tuple hx
 have hlen : its.toArray.size = xs.length := by rw [List.size_toArray]; exact r.length.symm
 refine ⟨"tuple", _, PyProof.Rows.slot_tuple_getitem.lookup, ht.typeIs, ?_⟩
 refine HT.getItem_tuple_cut ht hs pl pu (by rw [hlen]; exact hw) ?_ (by rw [hlen]; exact hz)
 rw [hlen]
 refine ⟨.ref s.heap.objs.size, _, I.laid (t' := s.toks) (o := .tup (cutV xs lo hi)) (fun b ob q => Heap.get?_push_of_some _ q) (Nat.le_refl _) ?_, rfl, q _ (I.hok.fresh (Nat.le_refl _))⟩
 exact ⟨Nat.le_trans (cutV_length xs lo hi) hz, _, (r.drop (HT.sIx xs.length 0 lo)).take (HT.sIx xs.length xs.length hi - HT.sIx xs.length 0 lo), TupD.new _ _⟩
noncomputable def rCatT (K : PySem.W.Frag) : R2 := fun x y H Q => ∃ a b xs ys, x = .ref a ∧ y = .ref b ∧ SqT K H a xs ∧ SqT K H b ys ∧ xs ≠ [] ∧ xs.length + ys.length ≤ sizeLine ∧
 (ys = [] → Q (.ref a) H) ∧ (ys ≠ [] → ∀ p, H p = none → Q (.ref p) (upd H p (.tup (xs ++ ys))))
theorem Vals.nil_iff {xs : List V} {us : List Value} (r : Vals xs us) : us = [] ↔ xs = [] := by
 cases r with
 | nil => simp
 | cons _ _ => simp
theorem op_catT : OpR X (binaryOp .Add) (rCatT X.K) := by
 intro pins s σ H x y v u Q I rx ry h
 obtain ⟨a, b, xs, ys, rfl, rfl, ha, hb, hx, hz, q1, q2⟩ := h
 cases rx
 cases ry
 obtain ⟨its, r1, p1, _⟩ := I.tuple ha
 obtain ⟨its2, r2, p2, _⟩ := I.tuple hb
 refine HT.cat_tup p1 p2 (fun z => hx (r1.nil_iff.mp z)) (fun z => ⟨.ref a, H, I, rfl, q1 (r2.nil_iff.mp z)⟩) (fun z => ?_) (by rw [← r1.length, ← r2.length]; exact hz)
 refine ⟨.ref s.heap.objs.size, _, I.laid (t' := s.toks) (o := .tup (xs ++ ys)) (fun b ob q => Heap.get?_push_of_some _ q) (Nat.le_refl _) ?_, rfl, q2 (fun w => z (r2.nil_iff.mpr w)) _ (I.hok.fresh (Nat.le_refl _))⟩
 exact ⟨by rw [List.length_append]; exact hz, _, r1.append r2, TupD.new _ _⟩
end
end L2
namespace L2
open PySem PySem.Spec PyProof.Rows
noncomputable def ixN (n : Nat) (i : Int) : Option Nat := if 0 ≤ i then (if i < n then some i.toNat else none) else if -(n : Int) ≤ i then some (i + n).toNat else none
noncomputable def atI {α : Type} (xs : List α) (i : Int) : Option α := (ixN xs.length i).bind fun j => xs[j]?
theorem ixN_seq {n : Nat} {i : Int} {j : Nat} (h : ixN n i = some j) : seqIndex? i n = some j ∧ j < n ∧ -(n : Int) ≤ i ∧ i < n := by
 unfold ixN at h
 by_cases h0 : 0 ≤ i
 ·rw [if_pos h0] at h
  by_cases h1 : i < n
  ·rw [if_pos h1] at h
   have e : i.toNat = j := Option.some.inj h
   exact ⟨by rw [seqIndex_of h0 h1, e], by omega, by omega, h1⟩
  ·rw [if_neg h1] at h; cases h
 ·rw [if_neg h0] at h
  by_cases h1 : -(n : Int) ≤ i
  ·rw [if_pos h1] at h
   have e : (i + n).toNat = j := Option.some.inj h
   exact ⟨by rw [seqIndex_neg (by omega) h1, e], by omega, h1, by omega⟩
  ·rw [if_neg h1] at h; cases h
theorem atI_get {α : Type} {xs : List α} {i : Int} {v : α} (h : atI xs i = some v) : ∃ j, seqIndex? i xs.length = some j ∧ xs[j]? = some v ∧ j < xs.length ∧ -(xs.length : Int) ≤ i ∧ i < xs.length := by
 unfold atI at h
 cases e : ixN xs.length i with
 | none => rw [e] at h; cases h
 | some j =>
  rw [e] at h
  obtain ⟨h1, h2, h3, h4⟩ := ixN_seq e
  exact ⟨j, h1, h, h2, h3, h4⟩
noncomputable def PlainIx (b : Expr) : Prop := ∀ o i, subscripted b false o i = operate [o, i] (getItem o i)
noncomputable def IxR (X : Cx) (r : R2) : Prop :=
 ∀ (value slice : Expr) (pins : List (Addr × Obj)) (s : Shared) (σ : St) (H : Hp) (x y : V) (v u : Value) (Q : VK), Inv X pins σ H s → RelV x v → RelV y u → r x y H Q →
  subscripted slice false v u = operate [v, u] (getItem v u) → wpAny (model X.prog X.w) X.A (subscriptTail value slice v u) (EP X pins σ Q) X.xe s
noncomputable def MtR (X : Cx) (id : String) (r : V → List V → Hp → VK → Prop) : Prop :=
 ∀ (pins : List (Addr × Obj)) (s : Shared) (σ : St) (H : Hp) (x : V) (xs : List V) (v : Value) (us : List Value) (Q : VK), Inv X pins σ H s → RelV x v → Vals xs us → r x xs H Q →
  wpAny (model X.prog X.w) X.A (call (.builtin id) (v :: us)) (EP X pins σ Q) X.xe s
section
variable {X : Cx} {a b : Expr} {ta tb : TE} {pos : Pos}
theorem IxR.or {r r' : R2} (h : IxR X r) (h' : IxR X r') : IxR X (fun x y H Q => r x y H Q ∨ r' x y H Q) := by
 intro value slice pins s σ H x y v u Q I rx ry q hs
 rcases q with q | q
 ·exact h value slice pins s σ H x y v u Q I rx ry q hs
 ·exact h' value slice pins s σ H x y v u Q I rx ry q hs
noncomputable def rIxL (K : PySem.W.Frag) : R2 := fun x y H Q => ∃ p xs i v, x = .ref p ∧ y = .int i ∧ SqL K H p xs ∧ atI xs i = some v ∧ Q v H
noncomputable def rIxT (K : PySem.W.Frag) : R2 := fun x y H Q => ∃ p xs i v, x = .ref p ∧ y = .int i ∧ SqT K H p xs ∧ atI xs i = some v ∧ Q v H
noncomputable def rIxS : R2 := fun x y H Q => ∃ z i c, x = .str z ∧ y = .int i ∧ z.length ≤ sizeLine ∧ atI z.cps.toList i = some c ∧ Q (.str ⟨#[c]⟩) H
theorem ix_list : IxR X (rIxL X.K) := by
 intro value slice pins s σ H x y v u Q I rx ry h hs
 obtain ⟨p, xs, i, z, rfl, rfl, hq, he, q⟩ := h
 cases rx
 obtain ⟨t, rfl⟩ := ry
 obtain ⟨its, r, pl, hz⟩ := I.list hq
 obtain ⟨j, h1, h2, h3, h4, h5⟩ := atI_get he
 obtain ⟨w, ew, rw'⟩ := r.get h2
 have hl := r.length
 have hn := line63
 have fin : EP X pins σ Q w s := ⟨z, H, I, rw', q⟩
 by_cases h0 : 0 ≤ i
 ·have hj : i.toNat = j := by
   rw [seqIndex_of h0 h5] at h1
   exact Option.some.inj h1
  exact item_listR pl.isList h0 (by omega) (by rw [hj]; simpa using ew) fin hs
 ·have hj : (i + (its.toArray.size : Int)).toNat = j := by
   rw [seqIndex_neg (by omega) h4] at h1
   rw [List.size_toArray, ← hl]
   exact Option.some.inj h1
  exact subscriptTail_builtinR (x := w) pl.isList.typeIs slot_list_getitem.lookup
   (wpAny_getItem_list_neg (Q := fun r s' => r = w ∧ EP X pins σ Q r s') pl.isList (by omega) (by rw [List.size_toArray] <;> omega) (by omega) (by rw [hj]; simpa using ew) ⟨rfl, fin⟩) hs
theorem ix_tup : IxR X (rIxT X.K) := by
 intro value slice pins s σ H x y v u Q I rx ry h hs
 obtain ⟨p, xs, i, z, rfl, rfl, hq, he, q⟩ := h
 cases rx
 obtain ⟨t, rfl⟩ := ry
 obtain ⟨its, r, pl, hz⟩ := I.tuple hq
 obtain ⟨j, h1, h2, h3, h4, h5⟩ := atI_get he
 obtain ⟨w, ew, rw'⟩ := r.get h2
 have hl := r.length
 have hn := line63
 have fin : EP X pins σ Q w s := ⟨z, H, I, rw', q⟩
 exact subscriptTail_builtinR (x := w) pl.typeIs slot_tuple_getitem.lookup
  (getItem_tuple (j := j) (Q := fun r s' => r = w ∧ EP X pins σ Q r s') pl (by omega) (by omega) (by rw [List.size_toArray, ← hl]; exact h1) (by simpa using ew) ⟨rfl, fin⟩) hs
noncomputable def rIx (K : PySem.W.Frag) : R2 := fun x y H Q => rIxL K x y H Q ∨ rIxT K x y H Q ∨ rIxS x y H Q
theorem mapSeq_set (its : List Value) (n j : Nat) (u : Value) : Obj.mapSeq (·.setIfInBounds j u) { cls := .type "list", data := .seq its.toArray n } = { cls := .type "list", data := .seq (its.set j u).toArray n } := by
 simp [Obj.mapSeq]
theorem Inv.lst {pins : List (Addr × Obj)} {σ : St} {H : Hp} {s : Shared} {p : Addr} {xs : List V} (I : Inv X pins σ H s) (h : H p = some (.lst xs)) :
  ∃ (its : List Value) (n : Nat), Vals xs its ∧ s.heap.get? p = some { cls := .type "list", data := .seq its.toArray n } ∧ xs.length ≤ sizeLine := by
 obtain ⟨z, its, n, r, e⟩ := I.hok p _ h
 exact ⟨its, n, r, e, z⟩
theorem Inv.lstUpd {pins : List (Addr × Obj)} {σ : St} {H : Hp} {s : Shared} {p : Addr} {xs ys : List V} {its its' : List Value} {n n' : Nat} {f : Obj → Obj} (I : Inv X pins σ H s) (h : H p = some (.lst xs))
  (ho : s.heap.get? p = some { cls := .type "list", data := .seq its.toArray n }) (hf : f { cls := .type "list", data := .seq its.toArray n } = { cls := .type "list", data := .seq its'.toArray n' }) (r : Vals ys its') (hz : ys.length ≤ sizeLine) (t : Nat) :
  Inv X pins σ (upd H p (.lst ys)) { s with heap := s.heap.update p f, toks := t } := by
 have e : (s.heap.update p f).get? p = some { cls := .type "list", data := .seq its'.toArray n' } := by
  rw [Heap.get?_update_self f ho (by rw [hf] <;> rfl), hf]
 refine I.write (x := p) (e := p) (by rw [h]; trivial) (.inl rfl) (fun b u hb q => (Heap.get?_update_other _ _ (Ne.symm hb)).trans q) ⟨_, e⟩ ?_
 exact ⟨hz, its', n', r, e⟩
noncomputable def rSetL : V → V → V → Hp → (Hp → Prop) → Prop := fun o i v H Q => ∃ p xs k j, o = .ref p ∧ i = .int k ∧ H p = some (.lst xs) ∧ ixN xs.length k = some j ∧ Q (upd H p (.lst (xs.set j v)))
theorem set_list : PSet X rSetL := by
 intro pins s σ H o i v ov iv u Q I ro ri rv h
 obtain ⟨p, xs, k, j, rfl, rfl, hp, hj, q⟩ := h
 cases ro
 obtain ⟨t, rfl⟩ := ri
 obtain ⟨its, n, r, ho, hz⟩ := I.lst hp
 obtain ⟨h1, h2, h3, h4⟩ := ixN_seq hj
 have hl := r.length
 have hn := line63
 have I' : Inv X pins σ (upd H p (.lst (xs.set j v))) { s with heap := s.heap.update p (Obj.mapSeq (·.setIfInBounds j u)) } :=
  I.lstUpd hp ho (mapSeq_set its n j u) (r.set rv j) (by rw [List.length_set]; exact hz) s.toks
 by_cases h0 : 0 ≤ k
 ·have hk : k.toNat = j := by
   rw [seqIndex_of h0 h4] at h1
   exact Option.some.inj h1
  exact PySem.W.ki_setAt ho h0 (by omega) (by rw [List.size_toArray, ← hl]; exact h4) (by rw [hk]; exact ⟨_, I', q⟩)
 ·have hk : (k + (its.toArray.size : Int)).toNat = j := by
   rw [seqIndex_neg (by omega) h3] at h1
   rw [List.size_toArray, ← hl]
   exact Option.some.inj h1
  exact PySem.W.ki_setBack ho (by omega) (by rw [List.size_toArray, ← hl]; exact h3) (by omega) (by rw [hk]; exact ⟨_, I', q⟩)
theorem slice_bounds (lo hi : Option Int) (n : Nat) : (sliceBounds lo hi none n).1 = ((HT.sIx n 0 lo : Nat) : Int) ∧ (sliceBounds lo hi none n).2.1 = ((HT.sIx n n hi : Nat) : Int) ∧ (sliceBounds lo hi none n).2.2 = 1 := by
 refine ⟨?_, ?_, rfl⟩
 ·cases lo with
  | none => simp [sliceBounds, HT.sIx]
  | some i =>
   simp only [sliceBounds, HT.sIx, Option.getD_none, show (1 : Int) > 0 by decide, if_true]
   by_cases h : i < 0
   ·simp only [h, if_true] <;> omega
   ·simp only [h, if_false] <;> omega
 ·cases hi with
  | none => simp [sliceBounds, HT.sIx]
  | some i =>
   simp only [sliceBounds, HT.sIx, Option.getD_none, show (1 : Int) > 0 by decide, if_true]
   by_cases h : i < 0
   ·simp only [h, if_true] <;> omega
   ·simp only [h, if_false] <;> omega
theorem slicePick_cut (its : List Value) (lo hi : Option Int) : slicePick its.toArray lo hi none = ((its.drop (HT.sIx its.length 0 lo)).take (HT.sIx its.length its.length hi - HT.sIx its.length 0 lo)).toArray := by
 obtain ⟨h1, h2, h3⟩ := slice_bounds lo hi its.toArray.size
 unfold slicePick
 rw [h1, h2, h3]
 simp only [sliceRange_one, pick_run, List.size_toArray] <;> rfl
noncomputable def rSlL (K : PySem.W.Frag) : V → Option Int → Option Int → Hp → VK → Prop := fun x lo hi H Q => ∃ a xs, x = .ref a ∧ SqL K H a xs ∧ ∀ p, H p = none → Q (.ref p) (upd H p (.lst (cutV xs lo hi)))
theorem sl_list : SlR X (rSlL X.K) := by
 intro pins s σ H x v vl vu lo hi sl Q I rx hs pl pu h
 obtain ⟨a, xs, rfl, hx, q⟩ := h
 cases rx
 obtain ⟨its, r, ht, hz⟩ := I.list hx
 have hlen := r.length
 refine ⟨"list", _, slot_list_getitem.lookup, ht.isList.typeIs, ?_⟩
 refine wpAny_getItem_list_slice ht.isList hs pl pu .none (by simp) ?_ (by rw [List.size_toArray] <;> omega)
 rw [slicePick_cut, ← hlen]
 refine ⟨.ref s.heap.objs.size, _, I.laid (t' := s.toks) (o := .lst (cutV xs lo hi)) (fun b ob q => Heap.get?_push_of_some _ q) (Nat.le_refl _) ?_, rfl, q _ (I.hok.fresh (Nat.le_refl _))⟩
 exact ⟨Nat.le_trans (cutV_length xs lo hi) hz, _, 0, (r.drop (HT.sIx xs.length 0 lo)).take (HT.sIx xs.length xs.length hi - HT.sIx xs.length 0 lo), Heap.get?_push_size _ rfl⟩
theorem call_len_seq : CallR X (.builtin "len") (fun xs H Q => ∃ p ys, xs = [.ref p] ∧ (SqL X.K H p ys ∨ SqT X.K H p ys) ∧ Q (.int ys.length) H) := by
 intro pins s σ H xs us Q I r h
 obtain ⟨p, ys, rfl, hq, q⟩ := h
 obtain ⟨u, rfl, rx⟩ := vals1 r
 cases rx
 have hn := line63
 rcases hq with hq | hq
 ·obtain ⟨its, r', pl, hz⟩ := I.list hq
  have hlen := r'.length
  exact Calls.call_len_list pl.isList (by simp only [List.size_toArray] <;> omega) ⟨.int ys.length, H, I.tok _, ⟨s.toks + 1, by rw [List.size_toArray, hlen]⟩, q⟩
 ·obtain ⟨its, r', pl, hz⟩ := I.tuple hq
  have hlen := r'.length
  exact len_tuple pl (by simp only [List.size_toArray] <;> omega) ⟨.int ys.length, H, I.tok _, ⟨s.toks + 1, by rw [List.size_toArray, hlen]⟩, q⟩
theorem call_list_of : CallR X (.type "list") (fun xs H Q => ∃ p ys, xs = [.ref p] ∧ (SqL X.K H p ys ∨ SqT X.K H p ys) ∧ ∀ l, H l = none → Q (.ref l) (upd H l (.lst ys))) := by
 intro pins s σ H xs us Q I r h
 obtain ⟨p, ys, rfl, hq, q⟩ := h
 obtain ⟨u, rfl, rx⟩ := vals1 r
 cases rx
 have fin : ∀ (its : List Value), Vals ys its → ys.length ≤ sizeLine → ∀ (h' : Heap) (c' : Nat), (∀ b o', s.heap.get? b = some o' → h'.get? b = some o') →
   h'.get? s.heap.objs.size = some { cls := .type "list", dict := none, data := .seq its.toArray c', slots := #[] } → EP X pins σ Q (.ref s.heap.objs.size) { s with heap := h' } := fun its r' hz h' c' kp e =>
  ⟨.ref s.heap.objs.size, _, I.laid (t' := s.toks) kp (Nat.le_refl _) (show ObjOk X.prog X.w _ h' _ (.lst ys) from ⟨hz, its, c', r', e⟩), rfl, q _ (I.hok.fresh (Nat.le_refl _))⟩
 rcases hq with hq | hq
 ·obtain ⟨its, r', pl, hz⟩ := I.list hq
  have hlen := r'.length
  obtain ⟨o, ho, hc, n, hd⟩ := pl.isList
  exact call_list_seq p (.inl rfl) ho hc hd (fun h' c' kp e => fin its r' hz h' c' kp e) (by simp only [List.size_toArray] <;> omega)
 ·obtain ⟨its, r', pl, hz⟩ := I.tuple hq
  have hlen := r'.length
  obtain ⟨o, ho, hc, n, hd⟩ := pl
  exact call_list_seq p (.inr rfl) ho hc hd (fun h' c' kp e => fin its r' hz h' c' kp e) (by simp only [List.size_toArray] <;> omega)
theorem call_tuple_of : CallR X (.type "tuple") (fun xs H Q => ∃ p ys, xs = [.ref p] ∧ ((SqL X.K H p ys ∧ ∀ l, H l = none → Q (.ref l) (upd H l (.tup ys))) ∨ (SqT X.K H p ys ∧ Q (.ref p) H))) := by
 intro pins s σ H xs us Q I r h
 obtain ⟨p, ys, rfl, h⟩ := h
 obtain ⟨u, rfl, rx⟩ := vals1 r
 cases rx
 rcases h with ⟨hq, q⟩ | ⟨hq, q⟩
 ·obtain ⟨its, r', pl, hz⟩ := I.list hq
  have hlen := r'.length
  refine call_tuple_list pl.isList (fun h' kp => ?_) (by simp only [List.size_toArray] <;> omega)
  have I1 : Inv X pins σ H { s with heap := h' } := I.kept (t' := s.toks) kp
  have I2 : Inv X pins σ (upd H h'.objs.size (.tup ys)) { s with heap := h'.push { cls := .type "tuple", data := .seq its.toArray } } :=
   I1.laid (t' := s.toks) (fun b o e => Heap.get?_push_of_some _ e) (Nat.le_refl _) (show ObjOk X.prog X.w _ _ _ (.tup ys) from ⟨hz, its, r', TupD.new _ _⟩)
  exact ⟨.ref h'.objs.size, _, I2, rfl, q _ (I1.hok.fresh (Nat.le_refl _))⟩
 ·obtain ⟨its, r', pl, hz⟩ := I.tuple hq
  exact call_tuple_same pl ⟨.ref p, H, I, rfl, q⟩
noncomputable def tyV (K : PySem.W.Frag) (T : String) (x : V) (H : Hp) : Prop := match x with
 | .str _ => T = "str"
 | .int _ => T = "int"
 | .ref p => (T = "list" ∧ ∃ xs, SqL K H p xs) ∨ (T = "tuple" ∧ ∃ o, K.lookup p = some o ∧ o.cls = .type "tuple" ∧ o.dict = none) ∨
   (T = "dict" ∧ ((∃ kvs, H p = some (.dK kvs)) ∨ ∃ kvs, H p = some (.dT kvs))) ∨ (T = "set" ∧ ∃ S n, H p = some (.set S n))
 | _ => False
theorem tyV_is {pins : List (Addr × Obj)} {σ : St} {H : Hp} {s : Shared} {T : String} {x : V} {v : Value} (I : Inv X pins σ H s) (r : RelV x v) (ty : tyV X.K T x H) :
  s.TypeIs v T ∧ ∀ a, v = .ref a → ∃ ob, s.heap.get? a = some ob ∧ ob.dict = none := by
 cases x with
 | str z =>
  obtain ⟨t, rfl⟩ := r
  cases (show T = "str" from ty)
  exact ⟨typeIs_str s z t, fun _ e => nomatch e⟩
 | int i =>
  obtain ⟨t, rfl⟩ := r
  cases (show T = "int" from ty)
  exact ⟨typeIs_int s i t, fun _ e => nomatch e⟩
 | ref p =>
  cases r
  rcases ty with ⟨rfl, xs, hq⟩ | ⟨rfl, o, hk, hc, hd⟩ | ⟨rfl, hk⟩ | ⟨rfl, S, n, hk⟩
  ·obtain ⟨its, _, pl, _⟩ := I.list hq
   refine ⟨pl.isList.typeIs, fun a e => ?_⟩
   cases e
   obtain ⟨o, n, e, c, hd, _⟩ := pl
   exact ⟨o, e, hd⟩
  ·refine ⟨⟨o, I.kIn p o hk, hc⟩, fun a e => ?_⟩
   cases e
   exact ⟨o, I.kIn _ o hk, hd⟩
  ·have z : ∃ o, s.heap.get? p = some o ∧ o.ExactDict := by
    rcases hk with ⟨kvs, hk⟩ | ⟨kvs, hk⟩
    ·obtain ⟨_, _, _, _, o, _, _, e, ex, _⟩ := I.hok p _ hk
     exact ⟨o, e, ex⟩
    ·obtain ⟨_, _, _, _, o, _, _, e, ex, _⟩ := I.hok p _ hk
     exact ⟨o, e, ex⟩
   obtain ⟨o, e, ex⟩ := z
   refine ⟨⟨o, e, ex.1⟩, fun a e2 => ?_⟩
   cases e2
   exact ⟨o, e, ex.2.1⟩
  ·obtain ⟨o, _, _, _, e, ex, _⟩ := I.hok p _ hk
   refine ⟨⟨o, e, ex.1⟩, fun a e2 => ?_⟩
   cases e2
   exact ⟨o, e, ex.2.1⟩
 | _ => exact False.elim ty
noncomputable def tBM (K : PySem.W.Frag) (T : String) (r : V → List V → Hp → VK → Prop) (to : TE) (t : TA) : TE := fun σ H Q => to σ H fun x H1 => tyV K T x H1 ∧ t σ H1 fun xs H2 => r x xs H2 Q
variable {o e : Expr} {es : List Expr} {to : TE} {t : TA} {name : Str} {apos cpos : Pos} {T id : String} {r : V → List V → Hp → VK → Prop}
end
end L2
namespace L2
open PySem PySem.Spec PyProof.Rows
noncomputable def MtM (X : Cx) (id : String) (r : V → List V → Hp → VK → Prop) : Prop :=
 ∀ (pins : List (Addr × Obj)) (s : Shared) (σ : St) (H : Hp) (x : V) (xs : List V) (v : Value) (us : List Value) (Q : VK), Inv X pins σ H s → RelV x v → Vals xs us → r x xs H Q →
  wpAny (model X.prog X.w) X.A (call (.builtin id) (v :: us)) (EP X pins σ Q) X.xe s
theorem Vals.one : ∀ {x : V} {us : List Value}, Vals [x] us → ∃ u, us = [u] ∧ RelV x u
 | _, _, .cons r .nil => ⟨_, rfl, r⟩
theorem Vals.two : ∀ {x y : V} {us : List Value}, Vals [x, y] us → ∃ u v, us = [u, v] ∧ RelV x u ∧ RelV y v
 | _, _, _, .cons r (.cons q .nil) => ⟨_, _, rfl, r, q⟩
theorem Vals.rep {xs : List V} {us : List Value} (h : Vals xs us) : ∀ k : Nat, Vals (List.replicate k xs).flatten (List.replicate k us).flatten
 | 0 => .nil
 | k + 1 => by
  rw [List.replicate_succ, List.replicate_succ, List.flatten_cons, List.flatten_cons]
  exact Vals.append h (Vals.rep h k)
theorem foldl_rep (its : List Value) : ∀ (k : Nat) (acc : List Value),
  List.foldl (fun x1 x2 => x1 ++ x2) acc.toArray (List.replicate k its.toArray) = (acc ++ (List.replicate k its).flatten).toArray
 | 0, acc => by simp
 | k + 1, acc => by
  have e : acc.toArray ++ its.toArray = (acc ++ its).toArray := by simp
  have e2 : (acc ++ its) ++ (List.replicate k its).flatten = acc ++ (List.replicate (k + 1) its).flatten := by
   rw [List.replicate_succ, List.flatten_cons, List.append_assoc]
  rw [← e2, ← foldl_rep its k (acc ++ its), ← e, List.replicate_succ, List.foldl_cons]
section
variable {X : Cx} {pins : List (Addr × Obj)} {σ : St} {H : Hp} {s : Shared} {l b : Addr} {xs ys zs : List V}
theorem Inv.lset {its its' : List Value} {n : Nat} {f : Array Value → Array Value} {t' : Nat} (I : Inv X pins σ H s) (hH : H l = some (.lst xs))
  (e : s.heap.get? l = some { cls := .type "list", data := .seq its.toArray n }) (hf : f its.toArray = its'.toArray) (hv : Vals ys its') (hz : ys.length ≤ sizeLine) :
  Inv X pins σ (upd H l (.lst ys)) { s with heap := s.heap.update l (Obj.mapSeq f), toks := t' } := by
 have q := PySem.IsL.update e f
 rw [hf] at q
 refine I.write (x := l) (e := l) (by rw [hH]; exact trivial) (.inl rfl) (fun b' u hb hu => (Heap.get?_update_other s.heap (Obj.mapSeq f) (Ne.symm hb)).trans hu) ⟨_, q⟩ ?_
 exact ⟨hz, its', _, hv, q⟩
theorem Inv.lnew {its : List Value} {t' : Nat} (I : Inv X pins σ H s) (hv : Vals ys its) (hz : ys.length ≤ sizeLine) :
  Inv X pins σ (upd H s.heap.objs.size (.lst ys)) { s with heap := s.heap.push { cls := .type "list", data := .seq its.toArray }, toks := t' } :=
 I.laid (fun _ _ q => Heap.get?_push_of_some _ q) (Nat.le_refl _) ⟨hz, its, 0, hv, Heap.get?_push_size _ rfl⟩
theorem Inv.fresh (I : Inv X pins σ H s) : H s.heap.objs.size = none := I.hok.fresh (Nat.le_refl _)
theorem Inv.lstM (I : Inv X pins σ H s) (hH : H l = some (.lst xs)) : xs.length ≤ sizeLine ∧ ∃ (its : List Value) (n : Nat), Vals xs its ∧ xs.length = its.length ∧ s.heap.get? l = some { cls := .type "list", data := .seq its.toArray n } := by
 obtain ⟨z, its, n, r, e⟩ := I.hok l _ hH
 exact ⟨z, its, n, r, r.length, e⟩
theorem notLongL {n : Nat} (h : n ≤ sizeLine) : Builtin.List.listTooLong n = false := by
 unfold Builtin.List.listTooLong
 exact decide_eq_false (by omega)
end
section
variable {X : Cx}
noncomputable def rAppend : V → List V → Hp → VK → Prop := fun x vs H Q => ∃ l xs y, x = .ref l ∧ vs = [y] ∧ H l = some (.lst xs) ∧ xs.length < sizeLine ∧ Q .non (upd H l (.lst (xs ++ [y])))
theorem mt_append : MtM X "list.append" rAppend := by
 intro pins s σ H x vs v us Q I rx rv h
 obtain ⟨l, xs, y, rfl, rfl, hH, hz, q⟩ := h
 cases rx
 obtain ⟨u, rfl, ru⟩ := rv.one
 obtain ⟨z, its, n, r, hl, e⟩ := I.lstM hH
 refine call_meets F.slot_list_append ⟨_, e, rfl⟩ F.entry_list_append (F.args_list_append_2 _ _) (PySem.list_append l its.toArray n u (by rw [List.size_toArray]; omega)) ⟨e, ?_⟩
 refine ⟨.non, _, I.lset (its' := its ++ [u]) hH e (by simp) (r.append (.cons ru .nil)) ?_, rfl, q⟩
 rw [List.length_append, List.length_singleton]
 omega
noncomputable def rCat : R2 := fun x y H Q => ∃ l b xs zs, x = .ref l ∧ y = .ref b ∧ H l = some (.lst xs) ∧ H b = some (.lst zs) ∧ xs.length + zs.length ≤ sizeLine ∧ ∀ p, H p = none → Q (.ref p) (upd H p (.lst (xs ++ zs)))
theorem op_cat : OpR X (binaryOp .Add) rCat := by
 intro pins s σ H x y v u Q I rx ry h
 obtain ⟨l, b, xs, zs, rfl, rfl, hH, hB, hz, q⟩ := h
 cases rx
 cases ry
 obtain ⟨z, its, n, r, hl, e⟩ := I.lstM hH
 obtain ⟨z2, its2, n2, r2, hl2, e2⟩ := I.lstM hB
 refine PySem.P.add_list e e2 ?_ (by rw [List.size_toArray, List.size_toArray]; omega)
 have ea : its.toArray ++ its2.toArray = (its ++ its2).toArray := by simp
 rw [ea]
 exact ⟨.ref _, _, I.lnew (t' := s.toks) (r.append r2) (by rw [List.length_append]; omega), rfl, q _ I.fresh⟩
noncomputable def rRep : R2 := fun x y H Q => ∃ l k xs, x = .ref l ∧ y = .int k ∧ H l = some (.lst xs) ∧ -(2 ^ 63) ≤ k ∧ k < 2 ^ 63 ∧ xs.length * k.toNat ≤ sizeLine ∧
 ∀ p, H p = none → Q (.ref p) (upd H p (.lst (List.replicate k.toNat xs).flatten))
theorem len_rep {α : Type} (xs : List α) (k : Nat) : (List.replicate k xs).flatten.length = k * xs.length := by
 induction k with
 | zero => simp
 | succ k ih => rw [List.replicate_succ, List.flatten_cons, List.length_append, ih, Nat.succ_mul, Nat.add_comm]
theorem op_rep : OpR X (binaryOp .Mult) rRep := by
 intro pins s σ H x y v u Q I rx ry h
 obtain ⟨l, k, xs, rfl, rfl, hH, h1, h2, hz, q⟩ := h
 cases rx
 obtain ⟨t, rfl⟩ := ry
 obtain ⟨z, its, n, r, hl, e⟩ := I.lstM hH
 have hlen : its.toArray.size * k.toNat ≤ sizeLine := by rw [List.size_toArray, ← hl]; exact hz
 have hcap : ¬ its.toArray.size * k.toNat > (2 ^ 63 - 1) / 8 := by
  have : (sizeLine : Nat) ≤ (2 ^ 63 - 1) / 8 := by decide
  omega
 have hfit : ¬ (!Builtin.List.listFitsIndex k) = true := by
  rw [fitsIndex_both h1 h2]
  exact Bool.false_ne_true
 have hlong : ¬ Builtin.List.listTooLong (its.toArray.size * k.toNat) = true := by
  rw [notLongL hlen]
  exact Bool.false_ne_true
 have hnew : List.foldl (fun x1 x2 => x1 ++ x2) #[] (List.replicate (if its.toArray.isEmpty = true then 0 else k.toNat) its.toArray) = (List.replicate k.toNat its).flatten.toArray := by
  have f0 : ∀ m : Nat, List.foldl (fun x1 x2 => x1 ++ x2) #[] (List.replicate m its.toArray) = (List.replicate m its).flatten.toArray := fun m => by
   have := foldl_rep its m []
   rw [List.nil_append] at this
   exact this
  rw [f0]
  cases its with
  | nil => simp
  | cons a r' => rw [if_neg (by simp)]
 refine wpAny_binaryOp_repeat_ref (T := "list") (U := "int") (by decide) ⟨_, e, rfl⟩ (fun s' => typeIs_int s' k t) noFill_list_mul F.fills_int_mul F.slot_int_rmul repeat_list F.slot_int_index.lookup
  (call_meets F.slot_int_rmul (typeIs_int s k t) F.entry_int_rmul (F.args_int_rmul_2 _ _) (int___rmul___int_list k t l its.toArray n)
   ⟨e, rfl, ⟨_, e, rfl⟩, call_meets F.slot_list_mul ⟨_, e, rfl⟩ F.entry_list_mul (F.args_list_mul_2 _ _) (AutoListH.list___mul___list_int_3 l its.toArray n k t hfit hcap hlong) ⟨e, ?_⟩⟩)
 rw [hnew]
 exact ⟨.ref _, _, I.lnew (t' := s.toks) (r.rep k.toNat) (by rw [len_rep, Nat.mul_comm]; exact hz), rfl, q _ I.fresh⟩
end
section
variable {prog : Program} {w : World} {A : Around} {E : Value → Shared → Prop} {s : Shared}
end
section
variable {X : Cx}
end
end L2
namespace L2
open PySem PySem.Spec PyProof.Rows
section
variable {κ : Type} [DecidableEq κ]
noncomputable def valV (kvs : List (κ × V)) (k : κ) : Option V := (kvs.find? fun kv => decide (kv.1 = k)).map (·.2)
noncomputable def putK (kvs : List (κ × V)) (k : κ) (v : V) : List (κ × V) :=
 if (kvs.any fun kv => decide (kv.1 = k)) = true then kvs.map (fun kv => if kv.1 = k then (kv.1, v) else kv) else kvs ++ [(k, v)]
theorem valV_pos {p : κ × V} {r : List (κ × V)} {k : κ} (e : p.1 = k) : valV (p :: r) k = some p.2 := by simp [valV, List.find?_cons, e]
theorem valV_neg {p : κ × V} {r : List (κ × V)} {k : κ} (e : ¬ p.1 = k) : valV (p :: r) k = valV r k := by simp [valV, List.find?_cons, e]
theorem valV_any (k : κ) : ∀ kvs : List (κ × V), (kvs.any fun kv => decide (kv.1 = k)) = (valV kvs k).isSome
 | [] => rfl
 | p :: r => by
  rw [List.any_cons]
  by_cases e : p.1 = k
  ·simp only [valV_pos e, decide_eq_true e, Bool.true_or, Option.isSome_some]
  ·rw [valV_neg e, decide_eq_false e, Bool.false_or]; exact valV_any k r
theorem length_putK (kvs : List (κ × V)) (k : κ) (v : V) : (putK kvs k v).length ≤ kvs.length + 1 := by
 unfold putK
 split
 ·rw [List.length_map]; omega
 ·rw [List.length_append, List.length_cons, List.length_nil]; omega
theorem RelO.isSome_eq {o : Option V} {u : Option Value} (r : RelO o u) : o.isSome = u.isSome := by
 cases o with
 | none => cases u with
  | none => rfl
  | some _ => exact (show False from r).elim
 | some _ => cases u with
  | none => exact (show False from r).elim
  | some _ => rfl
theorem KV.val {kvs : List (κ × V)} {vs : List (κ × Value)} (r : KV kvs vs) (k : κ) : RelO (valV kvs k) (valueAt vs k) := by
 unfold KV at r
 induction r with
 | nil => exact True.intro
 | @cons p q ps qs h t ih =>
  obtain ⟨h1, h2⟩ := h
  by_cases e : p.1 = k
  ·have e' : q.1 = k := h1.symm.trans e
   have b : valueAt (q :: qs) k = some q.2 := by simp [valueAt, List.find?_cons, e']
   rw [valV_pos e, b]; exact h2
  ·have e' : ¬ q.1 = k := fun z => e (h1.trans z)
   have b : valueAt (q :: qs) k = valueAt qs k := by simp [valueAt, List.find?_cons, e']
   rw [valV_neg e, b]; exact ih
theorem KV.any {kvs : List (κ × V)} {vs : List (κ × Value)} (r : KV kvs vs) (k : κ) : (kvs.any fun kv => decide (kv.1 = k)) = vs.any fun kv => decide (kv.1 = k) := by
 unfold KV at r
 induction r with
 | nil => rfl
 | cons h t ih => rw [List.any_cons, List.any_cons, ih, h.1]
theorem KV.repl {kvs : List (κ × V)} {vs : List (κ × Value)} (r : KV kvs vs) (k : κ) {y : V} {u : Value} (ry : RelV y u) :
  KV (kvs.map fun kv => if kv.1 = k then (kv.1, y) else kv) (vs.map fun kv => if kv.1 = k then (kv.1, u) else kv) := by
 unfold KV at r ⊢
 induction r with
 | nil => exact .nil
 | @cons p q ps qs h t ih =>
  rw [List.map_cons, List.map_cons]
  refine .cons ?_ ih
  obtain ⟨h1, h2⟩ := h
  by_cases e : p.1 = k
  ·rw [if_pos e, if_pos (h1.symm.trans e)]; exact ⟨h1, ry⟩
  ·rw [if_neg e, if_neg (fun z => e (h1.trans z))]; exact ⟨h1, h2⟩
theorem KV.put {kvs : List (κ × V)} {vs : List (κ × Value)} (r : KV kvs vs) (k : κ) {y : V} {u : Value} (ry : RelV y u) : KV (putK kvs k y) (stored vs k u) := by
 unfold putK stored
 rw [r.any k]
 by_cases e : (vs.any fun kv => decide (kv.1 = k)) = true
 ·rw [if_pos e, if_pos e]; exact r.repl k ry
 ·rw [if_neg e, if_neg e]; exact Paired.snoc r ⟨rfl, ry⟩
theorem KV.length {kvs : List (κ × V)} {vs : List (κ × Value)} (r : KV kvs vs) : kvs.length = vs.length := Paired.length r
end
theorem kV_is {P : Program} {w : World} {k : Key} {u : Value} (r : RelV (kV k) u) : (mixKind P w).is k u = true := by
 cases k with
 | inl i => obtain ⟨t, e⟩ := (show ∃ t, u = Value.int i t from r); subst e; exact mixKind_int P w i t
 | inr x => obtain ⟨t, e⟩ := (show ∃ t, u = Value.str x t from r); subst e; exact mixKind_str P w x t
noncomputable abbrev KT (H : Hp) : List (TKey × V) → List (TKey × Addr × Value) → Prop := Paired fun p q => p.1 = q.1 ∧ TKeyAt H p.1 q.2.1 ∧ RelV p.2 q.2.2
theorem KT.val {H : Hp} {kvs : List (TKey × V)} {xs : List (TKey × Addr × Value)} (r : KT H kvs xs) (k : TKey) : RelO (valV kvs k) ((atKey xs k).map (·.2)) := by
 induction r with
 | nil => exact True.intro
 | @cons p q ps qs h t ih =>
  obtain ⟨h1, _, h2⟩ := h
  by_cases e : p.1 = k
  ·have e' : q.1 = k := h1.symm.trans e
   have b : atKey (q :: qs) k = some q.2 := by simp [atKey, List.find?_cons, e']
   rw [valV_pos e, b]; exact h2
  ·have e' : ¬ q.1 = k := fun z => e (h1.trans z)
   have b : atKey (q :: qs) k = atKey qs k := by simp [atKey, List.find?_cons, e']
   rw [valV_neg e, b]; exact ih
theorem KT.repl {H : Hp} {kvs : List (TKey × V)} {xs : List (TKey × Addr × Value)} (r : KT H kvs xs) (k : TKey) {y : V} {u : Value} (ry : RelV y u) :
  KT H (kvs.map fun kv => if kv.1 = k then (kv.1, y) else kv) (xs.map (putAt k u)) := by
 induction r with
 | nil => exact .nil
 | @cons p q ps qs h t ih =>
  rw [List.map_cons, List.map_cons]
  refine .cons ?_ ih
  obtain ⟨h1, h2, h3⟩ := h
  unfold putAt
  by_cases e : p.1 = k
  ·rw [if_pos e, if_pos (h1.symm.trans e)]; exact ⟨h1, h2, ry⟩
  ·rw [if_neg e, if_neg (fun z => e (h1.trans z))]; exact ⟨h1, h2, h3⟩
theorem KT.put {H : Hp} {kvs : List (TKey × V)} {xs : List (TKey × Addr × Value)} (r : KT H kvs xs) (k : TKey) {b : Addr} {y : V} {u : Value} (hb : TKeyAt H k b) (ry : RelV y u) :
  KT H (putK kvs k y) (storedH xs k b u) := by
 have e : (kvs.any fun kv => decide (kv.1 = k)) = (atKey xs k).isSome := by
  rw [valV_any, (r.val k).isSome_eq, Option.isSome_map]
 unfold putK storedH
 rw [e]
 by_cases q : (atKey xs k).isSome = true
 ·rw [if_pos q, if_pos q]; exact r.repl k ry
 ·rw [if_neg q, if_neg q]; exact Paired.snoc r ⟨rfl, hb, ry⟩
theorem KT.keeps {H H' : Hp} {kvs : List (TKey × V)} {xs : List (TKey × Addr × Value)} (r : KT H kvs xs) (ht : ∀ b ys, H b = some (.tup ys) → H' b = some (.tup ys)) : KT H' kvs xs :=
 Paired.mapP r fun _ _ z => ⟨z.1, z.2.1.mono ht, z.2.2⟩
section
variable {P : Program} {w : World} {H : Hp} {h : Heap} {a : Addr}
theorem rd_of {u : HO} (ok : HOk P w H h) (e : Rd H a u) : ObjOk P w H h a u := e.ok ok
theorem dk_rd {kvs : List (Key × V)} (ok : HOk P w H h) (e : Rd H a (.dK kvs)) : kvs.length ≤ sizeLine ∧ (a == sysModules) = false ∧ ∃ vs, KV kvs vs ∧ h.DictOf (mixKind P w) a vs :=
 show ObjOk P w H h a (.dK kvs) from rd_of ok e
theorem dk_of {kvs : List (Key × V)} (ok : HOk P w H h) (e : H a = some (.dK kvs)) : kvs.length ≤ sizeLine ∧ (a == sysModules) = false ∧ ∃ vs, KV kvs vs ∧ h.DictOf (mixKind P w) a vs := dk_rd ok (.inl e)
theorem items_of {K : Type} [DecidableEq K] {c : Nat} {T : KeyV P w K c} {R : K → V → Prop} (hR : ∀ k x u, R k x → RelV x u → T.is h k u) : ∀ {ks : List K} {xs : List V} {us : List Value}, Paired R ks xs → Vals xs us → ItemsV T h ks us
 | _, _, _, .nil, .nil => .nil
 | _, _, _, .cons r t, .cons q z => .cons (hR _ _ _ r q) (items_of hR t z)
theorem tupV_of {K : Type} [DecidableEq K] {c : Nat} {T : KeyV P w K c} {R : K → V → Prop} {ks : List K} {xs : List V} {p : Addr} (ok : HOk P w H h) (hR : ∀ k x u, R k x → RelV x u → T.is h k u) (e : H p = some (.tup xs)) (r : Paired R ks xs) : IsTupV T h ks (.ref p) := by
 obtain ⟨_, its, q, o, h1, h2, n, h3, _⟩ := (show ObjOk P w H h p (.tup xs) from ok p _ e)
 exact ⟨p, o, its.toArray, n, rfl, h1, h2, h3, by simpa using items_of hR r q⟩
theorem r1_of (ok : HOk P w H h) (k : K1) (x : V) (u : Value) (r : Rk1 H k x) (q : RelV x u) : (vk1 P w).is h k u := by
 cases k with
 | inl k => cases (show x = kV k from r); exact kV_is (P := P) (w := w) q
 | inr ks =>
  obtain ⟨p, vs, rfl, e, t⟩ := (show ∃ p vs, x = .ref p ∧ H p = some (.tup vs) ∧ Paired (fun k v => v = kV k) ks vs from r)
  cases (show u = Value.ref p from q)
  exact tupV_of (T := atomVK P w) ok (fun k x u r q => by subst r; exact kV_is (P := P) (w := w) q) e t
theorem r2_of (ok : HOk P w H h) (k : K2) (x : V) (u : Value) (r : Rk2 H k x) (q : RelV x u) : (vk2 P w).is h k u := by
 cases k with
 | inl k => cases (show x = kV k from r); exact kV_is (P := P) (w := w) q
 | inr ks =>
  obtain ⟨p, vs, rfl, e, t⟩ := (show ∃ p vs, x = .ref p ∧ H p = some (.tup vs) ∧ Paired (Rk1 H) ks vs from r)
  cases (show u = Value.ref p from q)
  exact tupV_of (T := vk1 P w) ok (r1_of ok) e t
theorem key_of {ks : TKey} (ok : HOk P w H h) (e : TKeyAt H ks a) : (treeKind P w).is h ks a := by
 obtain ⟨vs, h1, t⟩ := e
 exact tupV_of (T := vk2 P w) ok (r2_of ok) h1 t
theorem dt_rd {kvs : List (TKey × V)} (ok : HOk P w H h) (e : Rd H a (.dT kvs)) : kvs.length ≤ sizeLine ∧ (a == sysModules) = false ∧
  ∃ xs, KT H kvs xs ∧ h.DictOfH (treeKind P w) a xs := by
 obtain ⟨z, y, xs, r, o, es, ep, h1, h2, h3, h4, h5⟩ := (show ObjOk P w H h a (.dT kvs) from rd_of ok e)
 refine ⟨z, y, xs, r, o, es, ep, h1, h2, h3, h4, fun x hx => ?_, h5⟩
 have all : ∀ {l : List (TKey × V)} {m : List (TKey × Addr × Value)}, KT H l m → ∀ x ∈ m, (treeKind P w).is h x.1 x.2.1 := by
  intro l m q
  induction q with
  | nil => intro x hx; exact nomatch hx
  | @cons p q ps qs hq t ih =>
   intro x hx
   rcases (List.mem_cons.mp hx) with e | hx
   ·subst e
    exact key_of ok (by rw [← hq.1]; exact hq.2.1)
   ·exact ih x hx
 exact all r x hx
theorem dt_of {kvs : List (TKey × V)} (ok : HOk P w H h) (e : H a = some (.dT kvs)) : kvs.length ≤ sizeLine ∧ (a == sysModules) = false ∧
  ∃ xs, KT H kvs xs ∧ h.DictOfH (treeKind P w) a xs := dt_rd ok (.inl e)
end
noncomputable def DGet (H : Hp) (a : Addr) (y : V) (r : Option V) : Prop :=
 (∃ kvs k, Rd H a (.dK kvs) ∧ y = kV k ∧ r = valV kvs k) ∨ ∃ kvs k b, Rd H a (.dT kvs) ∧ y = .ref b ∧ TKeyAt H k b ∧ r = valV kvs k
noncomputable def DPut (H : Hp) (a : Addr) (y v : V) (H' : Hp) : Prop :=
 (∃ kvs k, H a = some (.dK kvs) ∧ y = kV k ∧ kvs.length < sizeLine ∧ H' = upd H a (.dK (putK kvs k v))) ∨
 ∃ kvs k b, H a = some (.dT kvs) ∧ y = .ref b ∧ TKeyAt H k b ∧ kvs.length < sizeLine ∧ H' = upd H a (.dT (putK kvs k v))
theorem DGet.k {H : Hp} {a : Addr} {kvs : List (Key × V)} {k : Key} (e : H a = some (.dK kvs)) : DGet H a (kV k) (valV kvs k) := .inl ⟨kvs, k, .inl e, rfl, rfl⟩
theorem DGet.t {H : Hp} {a b : Addr} {kvs : List (TKey × V)} {k : TKey} (e : H a = some (.dT kvs)) (eb : TKeyAt H k b) : DGet H a (.ref b) (valV kvs k) := .inr ⟨kvs, k, b, .inl e, rfl, eb, rfl⟩
theorem DPut.k {H : Hp} {a : Addr} {kvs : List (Key × V)} {k : Key} {v : V} (e : H a = some (.dK kvs)) (hl : kvs.length < sizeLine) : DPut H a (kV k) v (upd H a (.dK (putK kvs k v))) := .inl ⟨kvs, k, e, rfl, hl, rfl⟩
theorem DPut.t {H : Hp} {a b : Addr} {kvs : List (TKey × V)} {k : TKey} {v : V} (e : H a = some (.dT kvs)) (eb : TKeyAt H k b) (hl : kvs.length < sizeLine) :
  DPut H a (.ref b) v (upd H a (.dT (putK kvs k v))) := .inr ⟨kvs, k, b, e, rfl, eb, hl, rfl⟩
section
variable {X : Cx} {pins : List (Addr × Obj)} {σ : St} {H : Hp} {s : Shared} {a : Addr} {y v : V} {u r : Value} {o : Option V} {A : Around} {E : Value → Shared → Prop}
theorem Inv.big (I : Inv X pins σ H s) : sysModules < s.heap.objs.size := by
 have h : mainGlobals < s.heap.objs.size := (I.mod.glob.keeps I.bk).lt
 exact Nat.lt_trans (by decide) h
theorem d_getItem {Q : Value → Shared → Prop} (hu : A.units + 20 < cLine) (I : Inv X pins σ H s) (g : DGet H a y (some v)) (ry : RelV y u) (h : ∀ w' s', Inv X pins σ H s' → RelV v w' → Q w' s') :
  wpAny (model X.prog X.w) A (getItem (.ref a) u) Q E s := by
 rcases g with ⟨kvs, k, e, ey, l⟩ | ⟨kvs, k, b, e, ey, eb, l⟩
 ·subst ey
  obtain ⟨z, hd, vs, rel, dd⟩ := dk_rd I.hok e
  obtain ⟨w', hw, rw'⟩ := RelO.some_of (v := v) (o := valueAt vs k) (by rw [l]; exact rel.val k)
  exact wpAny_getItem_of (kV_is ry) dd.mapOf hw (h w' _ (I.tok _) rw')
 ·subst ey
  cases (show u = Value.ref b from ry)
  obtain ⟨z, hd, xs, rel, dd⟩ := dt_rd I.hok e
  obtain ⟨w', hw, rw'⟩ := RelO.some_of (v := v) (o := (atKey xs k).map (·.2)) (by rw [l]; exact rel.val k)
  obtain ⟨p, hp, hp2⟩ := Option.map_eq_some_iff.mp hw
  refine wpAny_getItem_heap (treeKind_room_in1 hu) (key_of I.hok eb) dd hp ?_
  rw [hp2]
  exact h w' _ (I.tok _) rw'
theorem d_write {h' : Heap} {t' : Nat} {ob : HO} (I : Inv X pins σ H s) (mu : Mut (H a)) (hs : Heap.SameBut a s.heap h') (he : ∃ q, h'.get? a = some q) (new : ObjOk X.prog X.w (upd H a ob) h' a ob) :
  Inv X pins σ (upd H a ob) { s with heap := h', toks := t' } :=
 I.write (x := a) (e := a) mu (.inl rfl) (fun b q hb z => (hs.2 b hb).trans z) he new
theorem dk_new {P : Program} {w : World} {H' : Hp} {h' : Heap} {kvs : List (Key × V)} {vs : List (Key × Value)} (z : kvs.length ≤ sizeLine) (hd : (a == sysModules) = false) (rel : KV kvs vs) (dd : h'.DictOf (mixKind P w) a vs) :
  ObjOk P w H' h' a (.dK kvs) := ⟨z, hd, vs, rel, dd⟩
theorem d_setItem {H' : Hp} {Q : Unit → Shared → Prop} (hu : A.units + 20 < cLine) (I : Inv X pins σ H s) (g : DPut H a y v H') (ry : RelV y u) (rv : RelV v r) (h : ∀ s', Inv X pins σ H' s' → Q () s') :
  wpAny (model X.prog X.w) A (setItem (.ref a) u r) Q E s := by
 rcases g with ⟨kvs, k, e, ey, l, eH⟩ | ⟨kvs, k, b, e, ey, eb, l, eH⟩
 ·subst ey eH
  obtain ⟨z, hd, vs, rel, dd⟩ := dk_of I.hok e
  have hz : vs.length ≤ sizeLine := by rw [← rel.length]; exact z
  have hl : (putK kvs k v).length ≤ sizeLine := by have := length_putK kvs k v; omega
  refine wpAny_setItem_pairs (hsz := hz) (kV_is ry) dd fun h' dd' hs => h _ ?_
  have he : ∃ q, h'.get? a = some q := let ⟨q, _, _, hq, _⟩ := dd'; ⟨q, hq⟩
  exact d_write I (by rw [e]; exact True.intro) hs he (dk_new hl hd (rel.put k rv) dd')
 ·subst ey eH
  cases (show u = Value.ref b from ry)
  obtain ⟨z, hd, xs, rel, dd⟩ := dt_of I.hok e
  have hz : xs.length ≤ sizeLine := by rw [← Paired.length rel]; exact z
  have hl : (putK kvs k v).length ≤ sizeLine := by have := length_putK kvs k v; omega
  refine wpAny_setItem_heap (hsz := hz) (treeKind_room_in1 hu) (key_of I.hok eb) dd fun h' dd' hs => h _ ?_
  obtain ⟨q, es, ep, hq, h2, h3, h4, _, h5⟩ := dd'
  refine d_write I (by rw [e]; exact True.intro) hs ⟨q, hq⟩ ⟨hl, hd, _, (rel.put k eb rv).keeps fun c ys ec => ?_, q, es, ep, hq, h2, h3, h4, h5⟩
  rw [upd_ne (ne_of ec e (fun z => nomatch z))]
  exact ec
end
section
variable {X : Cx} {pins : List (Addr × Obj)} {σ : St} {H : Hp} {s : Shared} {a : Addr} {kvs : List (Key × V)} {k : Key} {u : Value} {A : Around} {E : Value → Shared → Prop}
end
theorem dict_typeIs {X : Cx} {pins : List (Addr × Obj)} {σ : St} {H : Hp} {s : Shared} {a : Addr} {y : V} {o : Option V} (I : Inv X pins σ H s) (g : DGet H a y o) : s.TypeIs (.ref a) "dict" := by
 rcases g with ⟨kvs, k, e, _, _⟩ | ⟨kvs, k, b, e, _, _, _⟩
 ·obtain ⟨_, _, vs, _, dd⟩ := dk_rd I.hok e
  exact dd.typeIs
 ·obtain ⟨_, _, xs, _, dd⟩ := dt_rd I.hok e
  exact dd.typeIs
section
variable {X : Cx} {o i e value : Expr} {pos pos' tpos : Pos} {td ty tv : TE}
end
theorem dk_empty {P : Program} {w : World} {H : Hp} (h : Heap) (hb : sysModules < h.objs.size) : ObjOk P w H (h.push { cls := .type "dict", data := .dict #[] }) h.objs.size (.dK []) :=
 ⟨Nat.zero_le _, beq_eq_false_iff_ne.mpr (Ne.symm (Nat.ne_of_lt hb)), [], .nil, Heap.DictOf.new h⟩
theorem dt_empty {P : Program} {w : World} {H : Hp} (h : Heap) (hb : sysModules < h.objs.size) : ObjOk P w H (h.push { cls := .type "dict", data := .dict #[] }) h.objs.size (.dT []) :=
 ⟨Nat.zero_le _, beq_eq_false_iff_ne.mpr (Ne.symm (Nat.ne_of_lt hb)), [], .nil, _, #[], 0, Heap.get?_push_size _ rfl, ⟨rfl, rfl, rfl⟩, rfl, rfl, List.nodup_nil⟩
noncomputable def tDNewK : TE := fun _ H Q => ∀ p, H p = none → Q (.ref p) (upd H p (.dK []))
noncomputable def tDNewT : TE := fun _ H Q => ∀ p, H p = none → Q (.ref p) (upd H p (.dT []))
section
variable {X : Cx} {pos : Pos}
theorem pe_dnewK : PE X (.Dict [] [] pos) tDNewK := fun pins s σ H Q I h =>
 wpAny_Dict_empty ⟨.ref s.heap.objs.size, _, I.laid (a := s.heap.objs.size) (o := .dK []) (t' := s.toks) (fun _ _ q => Heap.get?_push_of_some _ q) (Nat.le_refl _) (dk_empty s.heap I.big), rfl, h _ (I.hok.fresh (Nat.le_refl _))⟩
theorem pe_dnewT : PE X (.Dict [] [] pos) tDNewT := fun pins s σ H Q I h =>
 wpAny_Dict_empty ⟨.ref s.heap.objs.size, _, I.laid (a := s.heap.objs.size) (o := .dT []) (t' := s.toks) (fun _ _ q => Heap.get?_push_of_some _ q) (Nat.le_refl _) (dt_empty s.heap I.big), rfl, h _ (I.hok.fresh (Nat.le_refl _))⟩
end
section
variable {X : Cx} {pins : List (Addr × Obj)} {σ : St} {H : Hp} {s : Shared} {a : Addr} {y d : V} {u r : Value} {o : Option V} {A : Around} {E : Value → Shared → Prop}
end
section
variable {X : Cx} {o e f : Expr} {apos cpos : Pos} {td ty tx : TE}
end
section
variable {X : Cx} {pins : List (Addr × Obj)} {σ : St} {H : Hp} {s : Shared} {a : Addr} {kvs : List (Key × V)} {A : Around} {E : Value → Shared → Prop}
end
section
variable {X : Cx} {pins : List (Addr × Obj)} {σ : St} {H : Hp} {s : Shared} {a : Addr} {y : V} {u : Value} {A : Around} {E : Value → Shared → Prop}
end
end L2
namespace Att
open PySem PySem.W PySem.Calls PyProof.Rows
theorem ints_of_wellAll {P : Params} {h : Heap} : ∀ (ns : List Int) (vs : List Value), WellAll P h vs (ns.map WData.int) → IntsAre vs ns := by
 intro ns
 induction ns with
 | nil =>
  intro vs w
  rw [List.map_nil] at w
  cases w
  exact .nil
 | cons n ns ih =>
  intro vs w
  rw [List.map_cons] at w
  cases w with
  | cons a b =>
   cases a
   exact .cons _ _ (ih _ b)
theorem script_of {l : OpenLaw} {n : Nat} (hn : l.most = some n) {P : Params} {h : Heap} {args : List WData} {vals : List Value}
  (hpre : l.row.toRowW.claim.pre args = true) (hwl : WellAll P h vals args) :
  ∃ a vs ns, vals = [Value.ref a] ∧ args = [WData.list (ns.map WData.int)] ∧ h.get? a = some { cls := .type "list", data := .seq vs.toArray } ∧ IntsAre vs ns ∧ ns.length ≤ n := by
 have hsh : WShape.hasAll [] args [.list .int] = true := (pre_splitW hpre).1
 have hc : l.pre.holds [] { args := args } = true := (pre_splitW hpre).2
 obtain ⟨d, r, rfl, h1, h2⟩ := hasAllW_cons hsh
 obtain rfl := hasAllW_nil h2
 obtain ⟨xs, rfl, h3⟩ := hasW_list h1
 obtain ⟨ns, rfl⟩ := items_int h3
 have hlen : ns.length ≤ n := by
  unfold OpenLaw.pre at hc
  have h4 : (WTm.not (.lt (.lit (.int (n : Int))) (.len (.arg 0)))).holds [] { args := [.list (ns.map .int)] } = true := by
   have h4 := (holds_andW hc).1
   rw [hn] at h4
   exact h4
  have h5 := condW_of h4 (w_not (w_lt w_lit (w_len_list (w_arg rfl))))
  rw [List.length_map] at h5
  refine Nat.le_of_not_lt fun q => ?_
  have q' : (n : Int) < ((ns.length : Nat) : Int) := by omega
  first
   | (rw [decide_eq_true q'] at h5; exact absurd h5 (by decide))
   | (simp at h5; omega)
 cases hwl with
 | cons w1 w2 =>
  cases w2
  cases w1 with
  | list ho hall => exact ⟨_, _, ns, rfl, rfl, ho, ints_of_wellAll ns _ hall, hlen⟩
theorem post_true (l : OpenLaw) (args : List WData) : l.row.toRowW.claim.post args (.bool true) args = true :=
 postW_of (r := l.row.toRowW) (X := (true == true))
  (show WShape.has [] (.bool true) .bool = true by first | rfl | decide | simp [WShape.has, WShape.arms, WShape.armsAll])
  (show (WTm.eq .res (.lit (.bool true))).value [] { args := args, res := some (.bool true), after := args } = some (.bool (true == true)) from w_eq_bool (w_res rfl) w_lit) rfl
theorem attach_call {l : OpenLaw} {n : Nat} {q : Program} {loose : List Str} {XP : (Str → Option Value) → Heap → Prop} {YP : World → Heap → Prop} {d : DefRec}
  (hn : l.most = some n) (hdf : d.params.defaults = [])
  (call : ∀ (w : World) (s₀ s₁ : Shared) (mg mb : Str → Option Value) (fa : Addr) (o : Obj) (pm cd doc : Value) (a : Addr) (vs : List Value) (ns : List Int),
   Ground q loose [] XP w s₀ mg mb s₁.heap → YP w s₁.heap →
   s₁.heap.get? fa = some o → o.data = .func (docDef d.name d.params d.body d.scope pm cd doc) → s₁.heap.CodeRec cd d.name → mg d.name = some (.ref fa) →
   s₁.heap.get? a = some { cls := .type "list", data := .seq vs.toArray } → IntsAre vs ns → ns.length ≤ n → s₁.gens = #[] →
   codeAny (model l.prog w) callerA (.call (.ref fa) ⟨[.ref a], []⟩) (fun r s' => r = .ok (.ret (.bool true)) ∧ OldK s₁.heap s'.heap ∧ s'.os = s₁.os ∧ AllBare s'.gens) s₁) :
  WalkO q loose XP YP l.row.toRowW d [] (fun f vs => PySem.call f vs) := by
 intro w s₀ s₁ mg mb G Y fa o pm cd doc dV kV ho hd hcd hD hmg hg args vals as hpre hlay hrd hwl hlo
 obtain rfl : dV = .none := Dflts.none hD hdf
 obtain rfl : kV = .none := Dflts.noKw hD
 obtain ⟨a, vs, ns, rfl, rfl, hobj, hints, hlen⟩ := script_of hn hpre hwl
 refine enter_call (codeAny_mono (call w s₀ s₁ mg mb fa o pm cd doc a vs ns G Y ho (fd_plain hd) hcd hmg hobj hints hlen hg) fun r s' hq => ?_)
 obtain ⟨rfl, h2, h3, h4⟩ := hq
 exact ⟨.inl ⟨.bool true, .bool true, [], rfl, fun _ => rfl, .bool true, post_true l _, fun _ => ⟨List.Pairwise.nil, fun _ hm => (nomatch hm)⟩⟩, h2, h3, h4⟩
section
variable {prog : Program} {w : World} {A : Around} {E : Value → Shared → Prop} {s : Shared} {K : Frag}
end
end Att
namespace L2
open PySem PySem.Spec PyProof.Rows
theorem vals_ints : ∀ {vs : List Value} {ns : List Int}, IntsAre vs ns → Vals (ns.map V.int) vs
 | _, _, .nil => .nil
 | _, _, .cons n t h => .cons ⟨t, rfl⟩ (vals_ints h)
noncomputable def Only (H : Hp) : Prop := ∀ b, H b = none ∨ ∃ o xs, H b = some (.frz o (.lst xs))
theorem law_call {P : Program} {w : World} {K : PySem.W.Frag} {mg mb : Str → Option Value} {CX : CXT} {k : Nat} {fa a : Addr} {fd : FuncData} {x : Str} {sp : Sp} {s₁ : Shared} {vs : List Value} {ns : List Int}
  (KX : K.In s₁.heap) (hns : s₁.heap.Ns mainGlobals mg) (hb : s₁.heap.Ns builtinsNs mb) (hbb : ∀ x : Str, x ≠ "__name__" → mb x = bootBuiltins x) (hlim : s₁.heap.NoLimit) (hg : s₁.gens = #[])
  (ha : s₁.heap.get? a = some { cls := .type "list", data := .seq vs.toArray }) (hi : IntsAre vs ns) (hl : ns.length ≤ sizeLine) (hr : Room k callerA)
  (F : ∀ base : Heap, K.In base → base.Ns mainGlobals mg → FnOk P w K mg base CX k fa fd [x] sp) (hbind : ∀ (s : Shared) (u : Value), BindsTo s fd ⟨[u], []⟩ [(x, u)])
  (hsp : ∀ H : Hp, Only H → SqL K H a (ns.map V.int) → sp [.ref a] H (fun v _ => v = .bl true) fun _ _ _ => False)
  (hCX : ∀ H e s', CX [] H s₁ (fun _ _ _ => False) e s' → False) :
  codeAny (model P w) callerA (.call (.ref fa) ⟨[.ref a], []⟩) (fun r s' => r = .ok (.ret (.bool true)) ∧ OldK s₁.heap s'.heap ∧ s'.os = s₁.os ∧ AllBare s'.gens) s₁ := by
 have rv := vals_ints hi
 have lenV := hi.length
 have core : ∀ H : Hp, Only H → SqL K H a (ns.map V.int) → HOk P w H s₁.heap → (∀ b, H b ≠ none → b = a) → (H a ≠ none → K.lookup a = none) →
   codeAny (model P w) callerA (.call (.ref fa) ⟨[.ref a], []⟩) (fun r s' => r = .ok (.ret (.bool true)) ∧ OldK s₁.heap s'.heap ∧ s'.os = s₁.os ∧ AllBare s'.gens) s₁ := by
  intro H hO hS hok hA hK
  have base_of : ∀ {b : Addr} {o : Obj}, s₁.heap.get? b = some o → H b = none → (hidT s₁.heap H).get? b = some o := fun e n => hidT_get e n
  have noA : ∀ {b : Addr} {o : Obj} {es : Array DictEntry} {ep : Nat}, s₁.heap.get? b = some o → o.data = .dict es ep → H b = none := fun {b o es ep} e d => by
   cases q : H b with
   | none => rfl
   | some u =>
    have e' : b = a := hA b (by rw [q]; simp)
    subst e'
    rw [ha] at e; cases e
    have d' : Data.seq vs.toArray _ = Data.dict es ep := d
    cases d'
  have nsK : ∀ {b : Addr} {m : Str → Option Value}, s₁.heap.Ns b m → (hidT s₁.heap H).Ns b m := fun {b m} ⟨o, es, ep, e, d, r⟩ => ⟨o, es, ep, base_of e (noA e d), d, r⟩
  have hKb : K.In (hidT s₁.heap H) := fun b o e => base_of (KX b o e) (by
   cases q : H b with
   | none => rfl
   | some u =>
    have e' : b = a := hA b (by rw [q]; simp)
    subst e'
    rw [hK (by rw [q]; simp)] at e; cases e)
  have hM : Mod K mg (hidT s₁.heap H) := ⟨hKb, nsK hns, ⟨mb, nsK hb, hbb⟩, let ⟨mc, h1, h2⟩ := hlim; ⟨mc, nsK h1, h2⟩⟩
  have e0 : Env0 P w K mg (hidT s₁.heap H) callerA [] s₁ H := ⟨rfl, hM, fun b o e => of_hidT e, Nat.le_of_eq (hidT_size _ _), trivial, fun b hb => absurd (show b ∈ ([] : List Addr) from hb) (by simp), hok, .of_eq hg⟩
  refine codeAny_mono ((F _ hKb (nsK hns)).run callerA [] s₁ H ⟨[.ref a], []⟩ [.ref a] [.ref a] _ _ hr e0 (hbind s₁ (.ref a)) (.cons rfl .nil) (hsp H hO hS)) fun r s' h => ?_
  cases r with
  | error e => exact (hCX H e s' h).elim
  | ok fl =>
   cases fl with
   | next => exact False.elim h
   | brk => exact False.elim h
   | cont => exact False.elim h
   | ret u =>
    obtain ⟨v, H', os, bare, un, hok', r', q⟩ := h
    have q' : v = .bl true := q
    subst q'
    obtain rfl : u = Value.bool true := r'
    refine ⟨rfl, OldK.of_keep fun b o e => ?_, os, bare⟩
    cases q : H b with
    | none => exact un.keep b o e q (by intro z; exact absurd (show b ∈ ([] : List Addr) from z) (by simp)) (by simp)
    | some u =>
     rcases hO b with z | ⟨ob, xs, z⟩
     ·rw [q] at z; cases z
     ·have z2 := un.frzs b ob _ z
      obtain ⟨e1, _⟩ := hok b _ z
      obtain ⟨e2, _⟩ := hok' b _ z2
      rw [e] at e1; cases e1
      exact e2
 cases hk : K.lookup a with
 | some o =>
  have e := KX a o hk
  rw [ha] at e
  cases e
  refine core (fun _ => none) (fun _ => .inl rfl) (.inr ⟨_, vs.toArray, _, hk, rfl, rfl, rfl, by rw [List.size_toArray, lenV]; exact hl, by simpa using rv⟩) (fun b u z => by have z' : (none : Option HO) = some u := z; cases z') (fun b z => absurd rfl z) fun z => absurd rfl z
 | none =>
  refine core (fun b => if b = a then some (.frz { cls := .type "list", data := .seq vs.toArray } (.lst (ns.map V.int))) else none) (fun b => ?_) (.inl (.inr ⟨{ cls := .type "list", data := .seq vs.toArray }, if_pos rfl⟩)) (fun b u z => ?_) (fun b z => ?_) fun _ => hk
  ·by_cases hb : b = a
   ·exact .inr ⟨_, _, if_pos hb⟩
   ·exact .inl (if_neg hb)
  ·by_cases hb : b = a
   ·have z' := (if_pos hb).symm.trans z
    cases z'
    subst hb
    exact ⟨ha, by rw [List.length_map]; exact hl, vs, _, rv, ha⟩
   ·have z' := (if_neg hb).symm.trans z
    cases z'
  ·by_cases hb : b = a
   ·exact hb
   ·exact absurd (if_neg hb) z
end L2
namespace L2
open PySem PySem.Spec PyProof.Rows
theorem walk_of {l : PySem.W.OpenLaw} {n k : Nat} {q : Program} {loose : List Str} {XP : (Str → Option Value) → Heap → Prop} {YP : World → Heap → Prop} {d : DefRec} {K : Params → PySem.W.Frag} {CX : World → CXT} {sp : World → Sp} {x : Str}
  (hn : l.most = some n) (hn2 : n ≤ sizeLine) (hdf : d.params.defaults = []) (hr : Room k callerA)
  (hY : ∀ (w : World) (h : Heap), YP w h → (K w.params).In h)
  (F : ∀ (w : World) (mg : Str → Option Value) (fa : Addr) (h : Heap), (K w.params).In h → h.Ns mainGlobals mg → mg d.name = some (.ref fa) →
   ∃ fd : FuncData, (∀ (s : Shared) (u : Value), BindsTo s fd ⟨[u], []⟩ [(x, u)]) ∧
    ∀ base : Heap, (K w.params).In base → base.Ns mainGlobals mg → FnOk l.prog w (K w.params) mg base (CX w) k fa fd [x] (sp w))
  (hsp : ∀ (w : World) (H : Hp) (a : Addr) (ns : List Int), ns.length ≤ n → Only H → SqL (K w.params) H a (ns.map V.int) → sp w [.ref a] H (fun v _ => v = .bl true) fun _ _ _ => False)
  (hCX : ∀ (w : World) (H : Hp) (s : Shared) (e : Value) (s' : Shared), CX w [] H s (fun _ _ _ => False) e s' → False) :
  PySem.W.WalkO q loose XP YP l.row.toRowW d [] (fun f vs => PySem.call f vs) := by
 refine Att.attach_call hn hdf fun w s₀ s₁ mg mb fa o pm cd doc a vs ns G Y ho hd hcd hmg hobj hints hlen hg => ?_
 have KX := hY w _ Y
 obtain ⟨fd, hb, hF⟩ := F w mg fa _ KX G.T.g hmg
 exact law_call KX G.T.g G.T.b G.T.builtins G.T.nolimit hg hobj hints (Nat.le_trans hlen hn2) hr hF hb (fun H hO hS => hsp w H a ns hlen hO hS) fun H e s' => hCX w H s₁ e s'
end L2
namespace L2
open PySem PySem.Spec PyProof.Rows
noncomputable def defArgs (s : Stmt) : Arguments := match s with
 | .FunctionDef _ a _ _ _ _ _ _ _ _ => a
 | _ => { posonlyargs := [], args := [], vararg := none, kwonlyargs := [], kw_defaults := [], kwarg := none, defaults := [] }
noncomputable def defBody (s : Stmt) : List Stmt := match s with
 | .FunctionDef _ _ b _ _ _ _ _ _ _ => b
 | _ => []
noncomputable def defScope (s : Stmt) : Scope := match s with
 | .FunctionDef _ _ _ _ _ _ sc _ _ _ => sc
 | _ => { kind := .function, names := [], isGenerator := false, isCoroutine := false }
noncomputable abbrev CX0 : CXT := fun _ _ _ _ _ _ => False
noncomputable abbrev E0 : XK := fun _ _ _ => False
theorem pass0 {X : Cx} : Passes CX0 X E0 := fun _ _ _ _ _ _ _ h => h.elim
structure Fun (K : PySem.W.Frag) (x qual : Str) (st : Stmt) (f : Addr) (fd : FuncData) : Prop where
 ex : ∃ (oc : Value) (od : Option Addr) (kV doc pm : Value) (an : Option Addr) (cdv ct : Value) (osl : Array (Option Value)),
  fd = PySem.W.fnOf x qual (defArgs st) (defBody st) (defScope st) .none kV doc pm an cdv ct ∧ K.lookup f = some ⟨oc, od, .func fd, osl⟩ ∧ PySem.W.codeIn K cdv qual = true
 kp : PySem.W.keepIn K (.ref f) = true
section
variable {P : Program} {w : World} {K : PySem.W.Frag} {mg : Str → Option Value} {base : Heap}
theorem Fun.ok {x qual : Str} {st : Stmt} {f : Addr} {fd : FuncData} {N ps : List Str} {k : Nat} {sp : Sp} (F : Fun K x qual st f fd) (S : FnScope N ps (defScope st)) (len : ∀ vs H Q E, sp vs H Q E → vs.length = ps.length)
  (hbody : ∀ (cdv : Value) (A : Around) (outer : List Env) (s : Shared) (H : Hp) (vs : List V) (Q : VK) (E : XK), Room k (A.deeper (envOfC qual (defScope st) s.heap.objs.size f cdv)) → sp vs H Q E →
   ∃ t, PSs (cxOf CX0 P w K mg base N qual (defScope st) f cdv A outer s H E).nox (defBody st) t ∧ t { nx := fun _ H' => Q .non H', rt := Q } (start N vs) H) : FnOk P w K mg base CX0 (k + 1) f fd ps sp := by
 obtain ⟨oc, od, kV, doc, pm, an, cdv, ct, osl, rfl, lk, hcd⟩ := F.ex
 refine fn_of lk hcd S len fun A outer s H vs Q E hr hsp => ?_
 obtain ⟨t, h, q⟩ := hbody cdv A outer s H vs Q E hr hsp
 exact ⟨t, h.nox, q⟩
theorem Fun.binds {x qual : Str} {st : Stmt} {f : Addr} {fd : FuncData} {ps : List Str} (F : Fun K x qual st f fd)
  (h : ∀ (kV doc pm : Value) (an : Option Addr) (cdv ct : Value) (us : List Value), us.length = ps.length → bindArgs (PySem.W.fnOf x qual (defArgs st) (defBody st) (defScope st) .none kV doc pm an cdv ct) ⟨us, []⟩ = pure (ps.zip us)) : Binds K fd ps [] := by
 obtain ⟨oc, od, kV, doc, pm, an, cdv, ct, osl, rfl, lk, hcd⟩ := F.ex
 exact .all (h kV doc pm an cdv ct)
theorem fun_mk {x qual : Str} {st : Stmt} {f : Addr} {oc : Value} {od an : Option Addr} {osl : Array (Option Value)} {kV doc pm cdv ct : Value} (l : K.lookup f = some ⟨oc, od, .func (PySem.W.fnOf x qual (defArgs st) (defBody st) (defScope st) .none kV doc pm an cdv ct), osl⟩)
  (c : PySem.W.codeIn K cdv qual = true) (k : PySem.W.keepIn K (.ref f) = true) : Fun K x qual st f (PySem.W.fnOf x qual (defArgs st) (defBody st) (defScope st) .none kV doc pm an cdv ct) := ⟨⟨oc, od, kV, doc, pm, an, cdv, ct, osl, rfl, l, c⟩, k⟩
end
theorem hu_of {A : Around} {k : Nat} (hr : Room k A) : A.units + 20 < cLine := Nat.lt_of_le_of_lt (Nat.add_le_add_left (by decide : 20 ≤ 64) _) hr.units
section
variable {X : Cx}
end
end L2
set_option Elab.async false
set_option linter.all false
set_option maxRecDepth 100000
set_option maxHeartbeats 5000000
namespace L3
open PySem PySem.Spec PyProof.Rows L2
inductive T where
 | non | bl (b : Bool) | int (i : Int) | str (x : Str) | tup (xs : List T) | scr (xs : List T) | ref (a : Addr) | ty (n : String)
structure Ext (H H' : Hp) : Prop where
 tup : ∀ b xs, H b = some (.tup xs) → H' b = some (.tup xs)
 frz : ∀ b ob u, H b = some (.frz ob u) → H' b = some (.frz ob u)
theorem Ext.refl (H : Hp) : Ext H H := ⟨fun _ _ h => h, fun _ _ _ h => h⟩
theorem Ext.trans {H H1 H2 : Hp} (a : Ext H H1) (b : Ext H1 H2) : Ext H H2 := ⟨fun c o h => b.tup c o (a.tup c o h), fun c o u h => b.frz c o u (a.frz c o u h)⟩
noncomputable def FrL (K : PySem.W.Frag) (H : Hp) (a : Addr) (xs : List V) : Prop :=
 (∃ ob, H a = some (.frz ob (.lst xs))) ∨
  ∃ (o : Obj) (its : Array Value) (n : Nat), K.lookup a = some o ∧ o.cls = .type "list" ∧ o.dict = none ∧ o.data = .seq its n ∧ its.size ≤ sizeLine ∧ Vals xs its.toList
theorem FrL.sq {K : PySem.W.Frag} {H : Hp} {a : Addr} {xs : List V} (h : FrL K H a xs) : SqL K H a xs := by
 rcases h with ⟨ob, h⟩ | h
 ·exact .inl (.inr ⟨ob, h⟩)
 ·exact .inr h
theorem FrL.mono {K : PySem.W.Frag} {H H' : Hp} {a : Addr} {xs : List V} (e : Ext H H') (h : FrL K H a xs) : FrL K H' a xs := by
 rcases h with ⟨ob, h⟩ | h
 ·exact .inl ⟨ob, e.frz _ _ _ h⟩
 ·exact .inr h
mutual
noncomputable def Rep (K : PySem.W.Frag) (H : Hp) : T → V → Prop
 | .non, v => v = .non
 | .bl b, v => v = .bl b
 | .int i, v => v = .int i
 | .str x, v => v = .str x
 | .ref a, v => v = .ref a
 | .ty n, v => v = .ty n
 | .tup xs, v => ∃ a vs, v = .ref a ∧ H a = some (.tup vs) ∧ Reps K H xs vs
 | .scr xs, v => ∃ a vs, v = .ref a ∧ FrL K H a vs ∧ Reps K H xs vs
noncomputable def Reps (K : PySem.W.Frag) (H : Hp) : List T → List V → Prop
 | [], vs => vs = []
 | x :: xs, vs => ∃ v ws, vs = v :: ws ∧ Rep K H x v ∧ Reps K H xs ws
end
mutual
theorem Rep.mono {K : PySem.W.Frag} {H H' : Hp} (e : Ext H H') : ∀ (x : T) {v : V}, Rep K H x v → Rep K H' x v
 | .non, _, h => h
 | .bl _, _, h => h
 | .int _, _, h => h
 | .str _, _, h => h
 | .ref _, _, h => h
 | .ty _, _, h => h
 | .tup xs, _, ⟨a, vs, r1, r2, r3⟩ => ⟨a, vs, r1, e.tup _ _ r2, Reps.mono e xs r3⟩
 | .scr xs, _, ⟨a, vs, r1, r2, r3⟩ => ⟨a, vs, r1, r2.mono e, Reps.mono e xs r3⟩
theorem Reps.mono {K : PySem.W.Frag} {H H' : Hp} (e : Ext H H') : ∀ (xs : List T) {vs : List V}, Reps K H xs vs → Reps K H' xs vs
 | [], _, h => h
 | x :: xs, _, ⟨v, ws, r1, r2, r3⟩ => ⟨v, ws, r1, Rep.mono e x r2, Reps.mono e xs r3⟩
end
section
variable {K : PySem.W.Frag} {H : Hp}
theorem Reps.length : ∀ {xs : List T} {vs : List V}, Reps K H xs vs → xs.length = vs.length
 | [], _, h => by cases h; rfl
 | _ :: _, _, ⟨_, _, r1, _, r3⟩ => by subst r1; simp [Reps.length r3]
theorem Reps.get : ∀ {xs : List T} {vs : List V} {i : Nat} {x : T}, Reps K H xs vs → xs[i]? = some x → ∃ v, vs[i]? = some v ∧ Rep K H x v
 | [], _, _, _, _, e => by simp at e
 | y :: ys, _, 0, x, ⟨v, ws, r1, r2, r3⟩, e => by subst r1; simp at e; subst e; exact ⟨v, rfl, r2⟩
 | y :: ys, _, i + 1, x, ⟨v, ws, r1, r2, r3⟩, e => by subst r1; simpa using Reps.get r3 (by simpa using e)
theorem Reps.get' : ∀ {xs : List T} {vs : List V} {i : Nat} {v : V}, Reps K H xs vs → vs[i]? = some v → ∃ x, xs[i]? = some x ∧ Rep K H x v
 | [], _, _, _, h, e => by cases h; simp at e
 | y :: ys, _, 0, x, ⟨v, ws, r1, r2, r3⟩, e => by subst r1; simp at e; subst e; exact ⟨y, rfl, r2⟩
 | y :: ys, _, i + 1, x, ⟨v, ws, r1, r2, r3⟩, e => by subst r1; simpa using Reps.get' r3 (by simpa using e)
theorem Reps.append : ∀ {xs ys : List T} {vs ws : List V}, Reps K H xs vs → Reps K H ys ws → Reps K H (xs ++ ys) (vs ++ ws)
 | [], _, _, _, h, h2 => by cases h; exact h2
 | _ :: _, _, _, _, ⟨v, ws, r1, r2, r3⟩, h2 => by subst r1; exact ⟨v, _, rfl, r2, Reps.append r3 h2⟩
theorem Reps.one {x : T} {v : V} (r : Rep K H x v) : Reps K H [x] [v] := ⟨v, [], rfl, r, rfl⟩
theorem Reps.set {x : T} {v : V} (r : Rep K H x v) : ∀ {xs : List T} {vs : List V} (i : Nat), Reps K H xs vs → Reps K H (xs.set i x) (vs.set i v)
 | [], _, _, e => by cases e; rfl
 | _ :: _, _, 0, ⟨_, ws, r1, r2, r3⟩ => by subst r1; exact ⟨v, ws, rfl, r, r3⟩
 | _ :: _, _, i + 1, ⟨u, ws, r1, r2, r3⟩ => by subst r1; exact ⟨u, _, rfl, r2, Reps.set r i r3⟩
theorem Reps.take : ∀ {xs : List T} {vs : List V} (n : Nat), Reps K H xs vs → Reps K H (xs.take n) (vs.take n)
 | _, _, 0, _ => by simp [Reps]
 | [], _, _ + 1, h => by cases h; simp [Reps]
 | _ :: _, _, n + 1, ⟨u, ws, r1, r2, r3⟩ => by subst r1; exact ⟨u, _, rfl, r2, Reps.take n r3⟩
theorem Reps.drop : ∀ {xs : List T} {vs : List V} (n : Nat), Reps K H xs vs → Reps K H (xs.drop n) (vs.drop n)
 | _, _, 0, h => h
 | [], _, _ + 1, h => by cases h; simp [Reps]
 | _ :: _, _, n + 1, ⟨u, ws, r1, r2, r3⟩ => by subst r1; exact Reps.drop n r3
theorem Reps.rep {xs : List T} {vs : List V} (r : Reps K H xs vs) : ∀ n : Nat, Reps K H (List.replicate n xs).flatten (List.replicate n vs).flatten
 | 0 => by simp [Reps]
 | n + 1 => by simpa [List.replicate_succ] using r.append (Reps.rep r n)
theorem Reps.atI {xs : List T} {vs : List V} {i : Int} {x : T} (r : Reps K H xs vs) (h : atI xs i = some x) : ∃ v, atI vs i = some v ∧ Rep K H x v := by
 unfold L2.atI at h ⊢
 rw [← r.length]
 cases e : ixN xs.length i with
 | none => rw [e] at h; cases h
 | some j => rw [e] at h; exact r.get h
end
inductive GO where
 | lst (xs : List T) | dct (kvs : List (TKey × T)) | dck (kvs : List (Key × T))
noncomputable abbrev Gp := Addr → Option GO
noncomputable def gup (G : Gp) (a : Addr) (o : GO) : Gp := fun b => if b = a then some o else G b
theorem gup_same {G : Gp} {a : Addr} {o : GO} : gup G a o a = some o := by simp [gup]
theorem gup_ne {G : Gp} {a b : Addr} {o : GO} (h : b ≠ a) : gup G a o b = G b := by simp [gup, h]
theorem gup_gup {G : Gp} {a : Addr} {o o' : GO} : gup (gup G a o) a o' = gup G a o' := by funext b; by_cases h : b = a <;> simp [gup, h]
noncomputable def asL : Option GO → Option (List T)
 | some (.lst xs) => some xs
 | _ => none
noncomputable def seqT (G : Gp) : T → Option (List T)
 | .tup xs => some xs
 | .scr xs => some xs
 | .ref a => asL (G a)
 | _ => none
noncomputable def PKV {κ : Type} (K : PySem.W.Frag) (H : Hp) : List (κ × T) → List (κ × V) → Prop := Paired fun p q => p.1 = q.1 ∧ Rep K H p.2 q.2
noncomputable def GOk (K : PySem.W.Frag) (H : Hp) (a : Addr) : GO → Prop
 | .lst xs => ∃ vs, H a = some (.lst vs) ∧ Reps K H xs vs
 | .dct kvs => ∃ ws, H a = some (.dT ws) ∧ PKV K H kvs ws
 | .dck kvs => ∃ ws, H a = some (.dK ws) ∧ PKV K H kvs ws
noncomputable def GRel (K : PySem.W.Frag) (H : Hp) (G : Gp) : Prop := ∀ a o, G a = some o → GOk K H a o
section
variable {K : PySem.W.Frag} {H H' : Hp} {G : Gp} {a : Addr}
theorem PKV.mono {κ : Type} {kvs : List (κ × T)} {ws : List (κ × V)} (e : Ext H H') (h : PKV K H kvs ws) : PKV K H' kvs ws := Paired.mapP h fun _ _ z => ⟨z.1, Rep.mono e _ z.2⟩
theorem GOk.move {o : GO} (h : GOk K H a o) (e : Ext H H') (ha : H' a = H a) : GOk K H' a o := by
 cases o with
 | lst xs => obtain ⟨vs, h1, h2⟩ := h; exact ⟨vs, ha.trans h1, Reps.mono e _ h2⟩
 | dct kvs => obtain ⟨vs, h1, h2⟩ := h; exact ⟨vs, ha.trans h1, h2.mono e⟩
 | dck kvs => obtain ⟨vs, h1, h2⟩ := h; exact ⟨vs, ha.trans h1, h2.mono e⟩
theorem GOk.some {o : GO} (h : GOk K H a o) : H a ≠ none := by
 cases o with
 | lst xs => obtain ⟨vs, h1, h2⟩ := h; rw [h1]; simp
 | dct kvs => obtain ⟨vs, h1, h2⟩ := h; rw [h1]; simp
 | dck kvs => obtain ⟨vs, h1, h2⟩ := h; rw [h1]; simp
theorem GRel.fresh (g : GRel K H G) (h : H a = none) : G a = none := by
 cases e : G a with
 | none => rfl
 | some o => exact absurd h (g a o e).some
noncomputable def Soft (o : Option HO) : Prop := o = none ∨ (∃ xs, o = some (.lst xs)) ∨ (∃ kvs, o = some (.dK kvs)) ∨ ∃ kvs, o = some (.dT kvs)
theorem Ext.upd {o : HO} (h : Soft (H a)) : Ext H (L2.upd H a o) := by
 refine ⟨fun b xs e => ?_, fun b ob u e => ?_⟩
 ·rw [upd_ne]; exact e
  rintro rfl; rw [e] at h; rcases h with h | ⟨_, h⟩ | ⟨_, h⟩ | ⟨_, h⟩ <;> cases h
 ·rw [upd_ne]; exact e
  rintro rfl; rw [e] at h; rcases h with h | ⟨_, h⟩ | ⟨_, h⟩ | ⟨_, h⟩ <;> cases h
theorem GRel.upd {o : HO} {go : GO} (g : GRel K H G) (h : Soft (H a)) (n : GOk K (L2.upd H a o) a go) : GRel K (L2.upd H a o) (gup G a go) := by
 intro b u e
 by_cases hb : b = a
 ·subst hb; rw [gup_same] at e; cases e; exact n
 ·rw [gup_ne hb] at e; exact (g b u e).move (Ext.upd h) (upd_ne hb)
theorem Soft.none (h : H a = none) : Soft (H a) := .inl h
theorem Soft.lst {xs : List V} (h : H a = some (.lst xs)) : Soft (H a) := .inr (.inl ⟨xs, h⟩)
theorem Soft.dT {xs : List (TKey × V)} (h : H a = some (.dT xs)) : Soft (H a) := .inr (.inr (.inr ⟨xs, h⟩))
theorem Soft.dK {xs : List (Key × V)} (h : H a = some (.dK xs)) : Soft (H a) := .inr (.inr (.inl ⟨xs, h⟩))
theorem GRel.tupNew {vs : List V} (g : GRel K H G) (h : H a = Option.none) : GRel K (L2.upd H a (.tup vs)) G := by
 intro b u e
 have hb : b ≠ a := by rintro rfl; exact (g b u e).some h
 exact (g b u e).move (Ext.upd (.none h)) (upd_ne hb)
theorem Rep.tupNew {xs : List T} {vs : List V} (r : Reps K H xs vs) (h : H a = Option.none) : Rep K (L2.upd H a (.tup vs)) (.tup xs) (.ref a) :=
 ⟨a, vs, rfl, upd_same, Reps.mono (Ext.upd (.none h)) _ r⟩
theorem GRel.lstNew {xs : List T} {vs : List V} (g : GRel K H G) (r : Reps K H xs vs) (h : Soft (H a)) : GRel K (L2.upd H a (.lst vs)) (gup G a (.lst xs)) :=
 g.upd h ⟨vs, upd_same, Reps.mono (Ext.upd h) _ r⟩
theorem GRel.lst {xs : List T} (g : GRel K H G) (h : G a = some (.lst xs)) : ∃ vs, H a = some (.lst vs) ∧ Reps K H xs vs := g a _ h
end
noncomputable abbrev St3 := List (Option T)
noncomputable def SRel (K : PySem.W.Frag) (H : Hp) (σ : L2.St) (τ : St3) : Prop := σ.length = τ.length ∧ ∀ (i : Nat) (t : T), τ[i]? = some (some t) → ∃ v, σ[i]? = some (some v) ∧ Rep K H t v
theorem SRel.mono {K : PySem.W.Frag} {H H' : Hp} {σ : L2.St} {τ : St3} (e : Ext H H') (h : SRel K H σ τ) : SRel K H' σ τ :=
 ⟨h.1, fun i t q => let ⟨v, h1, h2⟩ := h.2 i t q; ⟨v, h1, Rep.mono e _ h2⟩⟩
theorem SRel.set {K : PySem.W.Frag} {H : Hp} {σ : L2.St} {τ : St3} {t : T} {v : V} (h : SRel K H σ τ) (i : Nat) (r : Rep K H t v) : SRel K H (σ.set i (some v)) (τ.set i (some t)) := by
 refine ⟨by simp [h.1], fun j u q => ?_⟩
 by_cases hj : i = j
 ·subst hj
  have hl : i < τ.length := by
   rcases Nat.lt_or_ge i τ.length with z | z
   ·exact z
   ·rw [List.getElem?_eq_none (by simpa using z)] at q; cases q
  rw [List.getElem?_set_self hl] at q
  cases q
  exact ⟨v, by rw [List.getElem?_set_self (by rw [h.1]; exact hl)], r⟩
 ·rw [List.getElem?_set_ne hj] at q ⊢
  exact h.2 j u q
noncomputable def Inv3 (X : Cx) (pins : List (Addr × Obj)) (τ : St3) (G : Gp) (H : Hp) (s : Shared) : Prop := ∃ σ, Inv X pins σ H s ∧ SRel X.K H σ τ ∧ GRel X.K H G
noncomputable abbrev VK3 := T → Gp → Prop
noncomputable abbrev TE3 := St3 → Gp → VK3 → Prop
noncomputable abbrev TT3 := St3 → Gp → (Bool → Gp → Prop) → Prop
noncomputable abbrev TA3 := St3 → Gp → (List T → Gp → Prop) → Prop
structure Ends3 where
 nx : St3 → Gp → Prop
 rt : VK3
 bk : St3 → Gp → Prop := fun _ _ => False
 ct : St3 → Gp → Prop := fun _ _ => False
noncomputable abbrev TS3 := Ends3 → St3 → Gp → Prop
noncomputable def RU (K : PySem.W.Frag) (H : Hp) (t : T) (u : Value) : Prop := ∃ v, Rep K H t v ∧ RelV v u
noncomputable def RUs (K : PySem.W.Frag) (H : Hp) (ts : List T) (us : List Value) : Prop := ∃ vs, Reps K H ts vs ∧ Vals vs us
theorem RU.mono {K : PySem.W.Frag} {H H' : Hp} {t : T} {u : Value} (e : Ext H H') (h : RU K H t u) : RU K H' t u := let ⟨v, h1, h2⟩ := h; ⟨v, Rep.mono e _ h1, h2⟩
noncomputable def EP3 (X : Cx) (pins : List (Addr × Obj)) (τ : St3) (H : Hp) (Q : VK3) (u : Value) (s' : Shared) : Prop := ∃ t G' H', Ext H H' ∧ Inv3 X pins τ G' H' s' ∧ RU X.K H' t u ∧ Q t G'
noncomputable def TP3 (X : Cx) (pins : List (Addr × Obj)) (τ : St3) (H : Hp) (Q : Bool → Gp → Prop) (b : Bool) (s' : Shared) : Prop := ∃ G' H', Ext H H' ∧ Inv3 X pins τ G' H' s' ∧ Q b G'
noncomputable def AP3 (X : Cx) (pins : List (Addr × Obj)) (τ : St3) (H : Hp) (Q : List T → Gp → Prop) (us : List Value) (s' : Shared) : Prop := ∃ ts G' H', Ext H H' ∧ Inv3 X pins τ G' H' s' ∧ RUs X.K H' ts us ∧ Q ts G'
noncomputable def SP3 (X : Cx) (pins : List (Addr × Obj)) (H : Hp) (D : Ends3) (f : Flow) (s' : Shared) : Prop :=
 match f with
 | .next => ∃ τ' G' H', Ext H H' ∧ Inv3 X pins τ' G' H' s' ∧ D.nx τ' G'
 | .brk => ∃ τ' G' H', Ext H H' ∧ Inv3 X pins τ' G' H' s' ∧ D.bk τ' G'
 | .cont => ∃ τ' G' H', Ext H H' ∧ Inv3 X pins τ' G' H' s' ∧ D.ct τ' G'
 | .ret u => ∃ t τ' G' H', Ext H H' ∧ Inv3 X pins τ' G' H' s' ∧ RU X.K H' t u ∧ D.rt t G'
noncomputable def PE3 (X : Cx) (e : Expr) (t : TE3) : Prop := ∀ (pins : List (Addr × Obj)) (s : Shared) (τ : St3) (G : Gp) (H : Hp) (Q : VK3), Inv3 X pins τ G H s → t τ G Q → wpAny (model X.prog X.w) X.A (eval e X.env) (EP3 X pins τ H Q) X.xe s
noncomputable def PT3 (X : Cx) (e : Expr) (t : TT3) : Prop := ∀ (pins : List (Addr × Obj)) (s : Shared) (τ : St3) (G : Gp) (H : Hp) (Q : Bool → Gp → Prop), Inv3 X pins τ G H s → t τ G Q → wpAny (model X.prog X.w) X.A (isTrue e X.env (eval e X.env)) (TP3 X pins τ H Q) X.xe s
noncomputable def PW3 (X : Cx) (e : Expr) (t : TT3) : Prop := ∀ (whole : Sem Value) (pins : List (Addr × Obj)) (s : Shared) (τ : St3) (G : Gp) (H : Hp) (Q : Bool → Gp → Prop), Inv3 X pins τ G H s → t τ G Q → wpAny (model X.prog X.w) X.A (isTrue e X.env whole) (TP3 X pins τ H Q) X.xe s
theorem PW3.pt {X : Cx} {e : Expr} {t : TT3} (h : PW3 X e t) : PT3 X e t := h _
noncomputable def PA3 (X : Cx) (es : List Expr) (t : TA3) : Prop := ∀ (pos : Pos) (pins : List (Addr × Obj)) (s : Shared) (τ : St3) (G : Gp) (H : Hp) (Q : List T → Gp → Prop), Inv3 X pins τ G H s → t τ G Q → wpAny (model X.prog X.w) X.A (spliced (backTo pos (starEach es X.env))) (AP3 X pins τ H Q) X.xe s
noncomputable def PS3 (X : Cx) (st : Stmt) (t : TS3) : Prop := ∀ (pins : List (Addr × Obj)) (s : Shared) (τ : St3) (G : Gp) (H : Hp) (D : Ends3), Inv3 X pins τ G H s → t D τ G → wpAny (model X.prog X.w) X.A (exec st X.env) (SP3 X pins H D) X.xe s
noncomputable def PSs3 (X : Cx) (st : List Stmt) (t : TS3) : Prop := ∀ (pins : List (Addr × Obj)) (s : Shared) (τ : St3) (G : Gp) (H : Hp) (D : Ends3), Inv3 X pins τ G H s → t D τ G → wpAny (model X.prog X.w) X.A (execs st X.env) (SP3 X pins H D) X.xe s
section
variable {X : Cx} {pins : List (Addr × Obj)} {τ : St3} {G : Gp} {H H1 : Hp} {s : Shared} {C : Prop}
theorem EP3.el {Q : VK3} {u : Value} (h : EP3 X pins τ H Q u s) (k : ∀ t G' H', Ext H H' → Inv3 X pins τ G' H' s → RU X.K H' t u → Q t G' → C) : C := let ⟨t, G', H', a, b, c, d⟩ := h; k t G' H' a b c d
theorem AP3.el {Q : List T → Gp → Prop} {u : List Value} (h : AP3 X pins τ H Q u s) (k : ∀ t G' H', Ext H H' → Inv3 X pins τ G' H' s → RUs X.K H' t u → Q t G' → C) : C := let ⟨t, G', H', a, b, c, d⟩ := h; k t G' H' a b c d
theorem TP3.el {Q : Bool → Gp → Prop} {u : Bool} (h : TP3 X pins τ H Q u s) (k : ∀ G' H', Ext H H' → Inv3 X pins τ G' H' s → Q u G' → C) : C := let ⟨G', H', a, b, c⟩ := h; k G' H' a b c
theorem Inv3.el (h : Inv3 X pins τ G H s) (k : ∀ σ, Inv X pins σ H s → SRel X.K H σ τ → GRel X.K H G → C) : C := let ⟨σ, a, b, c⟩ := h; k σ a b c
theorem RU.el {K : PySem.W.Frag} {t : T} {u : Value} (h : RU K H t u) (k : ∀ v, Rep K H t v → RelV v u → C) : C := let ⟨v, a, b⟩ := h; k v a b
theorem RUs.el {K : PySem.W.Frag} {t : List T} {u : List Value} (h : RUs K H t u) (k : ∀ v, Reps K H t v → Vals v u → C) : C := let ⟨v, a, b⟩ := h; k v a b
end
section
variable {X : Cx} {pins : List (Addr × Obj)} {τ : St3} {G : Gp} {H H1 : Hp} {s : Shared}
theorem EP3.ext {Q : VK3} {u : Value} (e : Ext H H1) (h : EP3 X pins τ H1 Q u s) : EP3 X pins τ H Q u s := let ⟨t, G', H', a, b⟩ := h; ⟨t, G', H', e.trans a, b⟩
theorem TP3.ext {Q : Bool → Gp → Prop} {u : Bool} (e : Ext H H1) (h : TP3 X pins τ H1 Q u s) : TP3 X pins τ H Q u s := let ⟨G', H', a, b⟩ := h; ⟨G', H', e.trans a, b⟩
theorem SP3.ext {D : Ends3} {f : Flow} (e : Ext H H1) (h : SP3 X pins H1 D f s) : SP3 X pins H D f s := by
 cases f with
 | next => obtain ⟨τ', G', H', a, b⟩ := h; exact ⟨τ', G', H', e.trans a, b⟩
 | brk => obtain ⟨τ', G', H', a, b⟩ := h; exact ⟨τ', G', H', e.trans a, b⟩
 | cont => obtain ⟨τ', G', H', a, b⟩ := h; exact ⟨τ', G', H', e.trans a, b⟩
 | ret u => obtain ⟨t, τ', G', H', a, b⟩ := h; exact ⟨t, τ', G', H', e.trans a, b⟩
theorem bin3 {a b : Expr} {ta tb : TE3} (ha : PE3 X a ta) (hb : PE3 X b tb) {R : T → T → Gp → Prop} (I : Inv3 X pins τ G H s) (h : ta τ G fun x G1 => tb τ G1 fun y G2 => R x y G2)
  {α : Type} {Q : α → Shared → Prop} {f : Value → Value → Sem α}
  (hf : ∀ v u s2 x y G2 H2, Ext H H2 → Inv3 X pins τ G2 H2 s2 → RU X.K H2 x v → RU X.K H2 y u → R x y G2 → wpAny (model X.prog X.w) X.A (f v u) Q X.xe s2) :
  wpAny (model X.prog X.w) X.A (eval a X.env) (fun v s₁ => wpAny (model X.prog X.w) X.A (eval b X.env) (fun u s₂ => wpAny (model X.prog X.w) X.A (f v u) Q X.xe s₂) X.xe s₁) X.xe s := by
 refine thn (ha pins s τ G H _ I h) fun v s1 w_ => w_.el fun x G1 H1 e1 I1 r1 q1 => ?_
 refine thn (hb pins s1 τ G1 H1 _ I1 q1) fun u s2 w_ => w_.el fun y G2 H2 e2 I2 r2 q2 => ?_
 exact hf v u s2 x y G2 H2 (e1.trans e2) I2 (r1.mono e2) r2 q2
noncomputable def up (K : PySem.W.Frag) (H : Hp) (Q : VK3) : VK := fun v H' => ∃ t G', Ext H H' ∧ GRel K H' G' ∧ Rep K H' t v ∧ Q t G'
theorem of_EP {σ : L2.St} {Q : VK3} {u : Value} (hs : SRel X.K H σ τ) (h : EP X pins σ (up X.K H Q) u s) : EP3 X pins τ H Q u s :=
 let ⟨v, H', I', r', t, G', e, g', rt, q⟩ := h
 ⟨t, G', H', e, ⟨σ, I', hs.mono e, g'⟩, ⟨v, rt, r'⟩, q⟩
end
end L3
namespace L3
open PySem PySem.Spec PyProof.Rows L2
section
variable {X : Cx} {pos : Pos}
noncomputable def tVar (i : Nat) : TE3 := fun τ G Q => ∃ t, τ[i]? = some (some t) ∧ Q t G
noncomputable def tC (t : T) : TE3 := fun _ G Q => Q t G
theorem e_var (i : Nat) {x : Str} (hN : X.N[i]? = some x := by rfl) (hv : Vis X.env.scope x := by first | exact Or.inl rfl | exact Or.inr (Or.inl rfl) | exact Or.inr (Or.inr rfl))
  (hd : (x == ("__debug__" : Str)) = false := by decide) (hcd : (x == ("__classdict__" : Str)) = false := by decide) : PE3 X (.Name x pos) (tVar i) := by
 intro pins s τ G H Q ⟨σ, I, hs, hg⟩ ⟨t, e, q⟩
 obtain ⟨v, ev, rv⟩ := hs.2 i t e
 exact thn (pe_var hN hv hd hcd pins s σ H (up X.K H Q) I ⟨v, ev, t, G, .refl H, hg, rv, q⟩) fun u s' h => of_EP hs h
theorem e_int {i j} : PE3 X (.Constant (.int i) j pos) (tC (.int i)) := fun pins s τ G H Q ⟨σ, I, hs, hg⟩ q =>
 thn (pe_int pins s σ H (up X.K H Q) I ⟨.int i, G, .refl H, hg, rfl, q⟩) fun u s' h => of_EP hs h
theorem e_bl {b j} : PE3 X (.Constant (.bool b) j pos) (tC (.bl b)) := fun pins s τ G H Q ⟨σ, I, hs, hg⟩ q =>
 thn (pe_bl pins s σ H (up X.K H Q) I ⟨.bl b, G, .refl H, hg, rfl, q⟩) fun u s' h => of_EP hs h
theorem e_non {j} : PE3 X (.Constant .none j pos) (tC .non) := fun pins s τ G H Q ⟨σ, I, hs, hg⟩ q =>
 thn (pe_non pins s σ H (up X.K H Q) I ⟨.non, G, .refl H, hg, rfl, q⟩) fun u s' h => of_EP hs h
end
noncomputable abbrev R3 := T → T → Gp → VK3 → Prop
noncomputable def Op3 (X : Cx) (f : Value → Value → Sem Value) (r : R3) : Prop :=
 ∀ (pins : List (Addr × Obj)) (s : Shared) (τ : St3) (G : Gp) (H : Hp) (x y : T) (v u : Value) (Q : VK3), Inv3 X pins τ G H s → RU X.K H x v → RU X.K H y u → r x y G Q → wpAny (model X.prog X.w) X.A (f v u) (EP3 X pins τ H Q) X.xe s
noncomputable def Un3 (X : Cx) (f : Value → Sem Value) (r : T → Gp → VK3 → Prop) : Prop :=
 ∀ (pins : List (Addr × Obj)) (s : Shared) (τ : St3) (G : Gp) (H : Hp) (x : T) (v : Value) (Q : VK3), Inv3 X pins τ G H s → RU X.K H x v → r x G Q → wpAny (model X.prog X.w) X.A (f v) (EP3 X pins τ H Q) X.xe s
noncomputable def Call3 (X : Cx) (f : Value) (r : List T → Gp → VK3 → Prop) : Prop :=
 ∀ (pins : List (Addr × Obj)) (s : Shared) (τ : St3) (G : Gp) (H : Hp) (xs : List T) (us : List Value) (Q : VK3), Inv3 X pins τ G H s → RUs X.K H xs us → r xs G Q → wpAny (model X.prog X.w) X.A (call f us) (EP3 X pins τ H Q) X.xe s
noncomputable def Mt3 (X : Cx) (id : String) (r : T → List T → Gp → VK3 → Prop) : Prop :=
 ∀ (pins : List (Addr × Obj)) (s : Shared) (τ : St3) (G : Gp) (H : Hp) (x : T) (xs : List T) (v : Value) (us : List Value) (Q : VK3), Inv3 X pins τ G H s → RU X.K H x v → RUs X.K H xs us → r x xs G Q →
  wpAny (model X.prog X.w) X.A (call (.builtin id) (v :: us)) (EP3 X pins τ H Q) X.xe s
noncomputable def Ix3 (X : Cx) (r : R3) : Prop :=
 ∀ (value slice : Expr) (pins : List (Addr × Obj)) (s : Shared) (τ : St3) (G : Gp) (H : Hp) (x y : T) (v u : Value) (Q : VK3), Inv3 X pins τ G H s → RU X.K H x v → RU X.K H y u → r x y G Q →
  subscripted slice false v u = operate [v, u] (getItem v u) → wpAny (model X.prog X.w) X.A (subscriptTail value slice v u) (EP3 X pins τ H Q) X.xe s
noncomputable def Set3 (X : Cx) (r : T → T → T → Gp → (Gp → Prop) → Prop) : Prop :=
 ∀ (pins : List (Addr × Obj)) (s : Shared) (τ : St3) (G : Gp) (H : Hp) (o i v : T) (ov iv u : Value) (Q : Gp → Prop), Inv3 X pins τ G H s → RU X.K H o ov → RU X.K H i iv → RU X.K H v u → r o i v G Q →
  wpAny (model X.prog X.w) X.A (setItem ov iv u) (fun _ s' => ∃ G' H', Ext H H' ∧ Inv3 X pins τ G' H' s' ∧ Q G') X.xe s
noncomputable def Tru3 (X : Cx) (r : T → Gp → (Bool → Gp → Prop) → Prop) : Prop :=
 ∀ (pins : List (Addr × Obj)) (s : Shared) (τ : St3) (G : Gp) (H : Hp) (x : T) (v : Value) (Q : Bool → Gp → Prop), Inv3 X pins τ G H s → RU X.K H x v → r x G Q → wpAny (model X.prog X.w) X.A (truthy v) (TP3 X pins τ H Q) X.xe s
section
variable {X : Cx}
theorem Op3.of {f : Value → Value → Sem Value} {r : R2} {r3 : R3} (h : OpR X f r)
  (hr : ∀ H G x y a b Q, GRel X.K H G → Rep X.K H x a → Rep X.K H y b → r3 x y G Q → r a b H (up X.K H Q)) : Op3 X f r3 := by
 intro pins s τ G H x y v u Q ⟨σ, I, hs, hg⟩ ⟨a, ra, rv⟩ ⟨b, rb, ru⟩ q
 exact thn (h pins s σ H a b v u _ I rv ru (hr H G x y a b Q hg ra rb q)) fun u s' h => of_EP hs h
theorem Un3.of {f : Value → Sem Value} {r : V → Hp → VK → Prop} {r3 : T → Gp → VK3 → Prop} (h : UnR X f r)
  (hr : ∀ H G x a Q, GRel X.K H G → Rep X.K H x a → r3 x G Q → r a H (up X.K H Q)) : Un3 X f r3 := by
 intro pins s τ G H x v Q ⟨σ, I, hs, hg⟩ ⟨a, ra, rv⟩ q
 exact thn (h pins s σ H a v _ I rv (hr H G x a Q hg ra q)) fun u s' h => of_EP hs h
theorem Call3.of {f : Value} {r : List V → Hp → VK → Prop} {r3 : List T → Gp → VK3 → Prop} (h : CallR X f r)
  (hr : ∀ H G xs as Q, GRel X.K H G → Reps X.K H xs as → r3 xs G Q → r as H (up X.K H Q)) : Call3 X f r3 := by
 intro pins s τ G H xs us Q ⟨σ, I, hs, hg⟩ ⟨as, ra, rv⟩ q
 exact thn (h pins s σ H as us _ I rv (hr H G xs as Q hg ra q)) fun u s' h => of_EP hs h
theorem Mt3.of {id : String} {r : V → List V → Hp → VK → Prop} {r3 : T → List T → Gp → VK3 → Prop} (h : MtR X id r)
  (hr : ∀ H G x xs a as Q, GRel X.K H G → Rep X.K H x a → Reps X.K H xs as → r3 x xs G Q → r a as H (up X.K H Q)) : Mt3 X id r3 := by
 intro pins s τ G H x xs v us Q ⟨σ, I, hs, hg⟩ ⟨a, ra, rv⟩ ⟨as, ras, rvs⟩ q
 exact thn (h pins s σ H a as v us _ I rv rvs (hr H G x xs a as Q hg ra ras q)) fun u s' h => of_EP hs h
theorem Ix3.of {r : R2} {r3 : R3} (h : IxR X r)
  (hr : ∀ H G x y a b Q, GRel X.K H G → Rep X.K H x a → Rep X.K H y b → r3 x y G Q → r a b H (up X.K H Q)) : Ix3 X r3 := by
 intro value slice pins s τ G H x y v u Q ⟨σ, I, hs, hg⟩ ⟨a, ra, rv⟩ ⟨b, rb, ru⟩ q hh
 exact thn (h value slice pins s σ H a b v u _ I rv ru (hr H G x y a b Q hg ra rb q) hh) fun u s' h => of_EP hs h
theorem Set3.of {t : TSet} {r3 : T → T → T → Gp → (Gp → Prop) → Prop} (h : PSet X t)
  (hr : ∀ H G o i v a b c Q, GRel X.K H G → Rep X.K H o a → Rep X.K H i b → Rep X.K H v c → r3 o i v G Q → t a b c H (fun H' => ∃ G', Ext H H' ∧ GRel X.K H' G' ∧ Q G')) : Set3 X r3 := by
 intro pins s τ G H o i v ov iv u Q ⟨σ, I, hs, hg⟩ ⟨a, ra, rv⟩ ⟨b, rb, ru⟩ ⟨c, rc, rw'⟩ q
 exact thn (h pins s σ H a b c ov iv u _ I rv ru rw' (hr H G o i v a b c Q hg ra rb rc q)) fun _ s' ⟨H', I', G', e, g', q'⟩ => ⟨G', H', e, ⟨σ, I', hs.mono e, g'⟩, q'⟩
theorem Tru3.of {r : V → Hp → (Bool → Hp → Prop) → Prop} {r3 : T → Gp → (Bool → Gp → Prop) → Prop} (h : TruR X r)
  (hr : ∀ H G x a Q, GRel X.K H G → Rep X.K H x a → r3 x G Q → r a H (fun b H' => H' = H ∧ Q b G)) : Tru3 X r3 := by
 intro pins s τ G H x v Q ⟨σ, I, hs, hg⟩ ⟨a, ra, rv⟩ q
 exact thn (h pins s σ H a v _ I rv (hr H G x a Q hg ra q)) fun b s' ⟨H', I', e, q'⟩ => by
  subst e; exact ⟨G, H', .refl _, ⟨σ, I', hs, hg⟩, q'⟩
theorem Op3.or {f : Value → Value → Sem Value} {r r' : R3} (h : Op3 X f r) (h' : Op3 X f r') : Op3 X f (fun x y G Q => r x y G Q ∨ r' x y G Q) := by
 intro pins s τ G H x y v u Q I rx ry q
 rcases q with q | q
 ·exact h pins s τ G H x y v u Q I rx ry q
 ·exact h' pins s τ G H x y v u Q I rx ry q
noncomputable def rI (C : Int → Int → Prop) (g : Int → Int → T) : R3 := fun x y G Q => ∃ i j, x = .int i ∧ y = .int j ∧ C i j ∧ Q (g i j) G
noncomputable def rI0 (g : Int → Int → T) : R3 := fun x y G Q => ∃ i j, x = .int i ∧ y = .int j ∧ Q (g i j) G
theorem o_I {f : Value → Value → Sem Value} {C : Int → Int → Prop} {g : Int → Int → V} {g' : Int → Int → T} (h : OpR X f (L2.rI C g)) (hg' : ∀ K H i j, Rep K H (g' i j) (g i j)) : Op3 X f (rI C g') :=
 Op3.of h fun H G x y a b Q hg ra rb ⟨i, j, ex, ey, c, q⟩ => by
  subst ex; subst ey
  cases (show a = .int i from ra); cases (show b = .int j from rb)
  exact ⟨i, j, rfl, rfl, c, g' i j, G, .refl H, hg, hg' _ _ i j, q⟩
theorem o_I0 {f : Value → Value → Sem Value} {g : Int → Int → V} {g' : Int → Int → T} (h : OpR X f (L2.rI0 g)) (hg' : ∀ K H i j, Rep K H (g' i j) (g i j)) : Op3 X f (rI0 g') :=
 Op3.of h fun H G x y a b Q hg ra rb ⟨i, j, ex, ey, q⟩ => by
  subst ex; subst ey
  cases (show a = .int i from ra); cases (show b = .int j from rb)
  exact ⟨i, j, rfl, rfl, g' i j, G, .refl H, hg, hg' _ _ i j, q⟩
theorem o_add : Op3 X (binaryOp .Add) (rI0 fun i j => .int (i + j)) := o_I0 op_add fun _ _ _ _ => rfl
theorem o_sub : Op3 X (binaryOp .Sub) (rI0 fun i j => .int (i - j)) := o_I0 op_sub fun _ _ _ _ => rfl
theorem o_mul : Op3 X (binaryOp .Mult) (rI CMul fun i j => .int (i * j)) := o_I op_mul fun _ _ _ _ => rfl
theorem o_fdiv : Op3 X (binaryOp .FloorDiv) (rI CDiv fun i j => .int (i / j)) := o_I op_fdiv fun _ _ _ _ => rfl
theorem o_mod : Op3 X (binaryOp .Mod) (rI (fun _ j => 0 < j) fun i j => .int (i % j)) := o_I op_mod fun _ _ _ _ => rfl
theorem o_pow : Op3 X (binaryOp .Pow) (rI CPow fun i j => .int (i ^ j.toNat)) := o_I op_pow fun _ _ _ _ => rfl
theorem o_lt : Op3 X (compareOp .Lt) (rI0 fun i j => .bl (decide (i < j))) := o_I0 op_lt fun _ _ _ _ => rfl
theorem o_le : Op3 X (compareOp .LtE) (rI0 fun i j => .bl (decide (i ≤ j))) := o_I0 op_le fun _ _ _ _ => rfl
theorem o_gt : Op3 X (compareOp .Gt) (rI0 fun i j => .bl (decide (j < i))) := o_I0 op_gt fun _ _ _ _ => rfl
theorem o_ge : Op3 X (compareOp .GtE) (rI0 fun i j => .bl (decide (j ≤ i))) := o_I0 op_ge fun _ _ _ _ => rfl
noncomputable def isNon : T → Bool
 | .non => true
 | _ => false
theorem Rep.non_iff {K : PySem.W.Frag} {H : Hp} {x : T} {a : V} (r : Rep K H x a) : decide (a = .non) = isNon x := by
 cases x with
 | non => cases (show a = .non from r); rfl
 | bl b => cases (show a = .bl b from r); rfl
 | int b => cases (show a = .int b from r); rfl
 | str b => cases (show a = .str b from r); rfl
 | ref b => cases (show a = .ref b from r); rfl
 | ty b => cases (show a = .ty b from r); rfl
 | tup b => obtain ⟨_, _, e, _⟩ := (show ∃ c vs, a = .ref c ∧ _ from r); subst e; rfl
 | scr b => obtain ⟨_, _, e, _⟩ := (show ∃ c vs, a = .ref c ∧ _ from r); subst e; rfl
theorem o_isN : Op3 X (compareOp .Is) (fun x y G Q => y = .non ∧ Q (.bl (isNon x)) G) :=
 Op3.of op_isN fun H G x y a b Q hg ra rb ⟨ey, q⟩ => by
  subst ey; cases (show b = .non from rb)
  exact ⟨rfl, .bl (isNon x), G, .refl H, hg, by rw [ra.non_iff]; rfl, q⟩
theorem o_notN : Op3 X (compareOp .IsNot) (fun x y G Q => y = .non ∧ Q (.bl (!isNon x)) G) :=
 Op3.of op_notN fun H G x y a b Q hg ra rb ⟨ey, q⟩ => by
  subst ey; cases (show b = .non from rb)
  exact ⟨rfl, .bl (!isNon x), G, .refl H, hg, by rw [ra.non_iff]; rfl, q⟩
end
noncomputable def tOp (r : R3) (ta tb : TE3) : TE3 := fun τ G Q => ta τ G fun x G1 => tb τ G1 fun y G2 => r x y G2 Q
noncomputable def tUn (r : T → Gp → VK3 → Prop) (ta : TE3) : TE3 := fun τ G Q => ta τ G fun x G1 => r x G1 Q
noncomputable def tTest (t : TE3) : TT3 := fun τ G Q => t τ G fun x G1 => ∃ c, x = .bl c ∧ Q c G1
noncomputable def tAnd (t u : TT3) : TT3 := fun τ G Q => t τ G fun c G1 => if c = true then u τ G1 Q else Q false G1
noncomputable def tOr (t u : TT3) : TT3 := fun τ G Q => t τ G fun c G1 => if c = true then Q true G1 else u τ G1 Q
noncomputable def tNot (t : TT3) : TT3 := fun τ G Q => t τ G fun c G1 => Q (!c) G1
noncomputable def tAndV (ta tb : TE3) : TE3 := fun τ G Q => ta τ G fun x G1 => ∃ c, x = .bl c ∧ if c = true then tb τ G1 Q else Q (.bl false) G1
noncomputable def tOrV (ta tb : TE3) : TE3 := fun τ G Q => ta τ G fun x G1 => ∃ c, x = .bl c ∧ if c = true then Q (.bl true) G1 else tb τ G1 Q
noncomputable def tNotV (ta : TE3) : TE3 := fun τ G Q => ta τ G fun x G1 => ∃ c, x = .bl c ∧ Q (.bl (!c)) G1
noncomputable def tIf (t : TT3) (ta tb : TE3) : TE3 := fun τ G Q => t τ G fun c G1 => if c = true then ta τ G1 Q else tb τ G1 Q
noncomputable def tChain (r r' : R3) (ta tb tc : TE3) : TE3 := fun τ G Q => ta τ G fun x G1 => tb τ G1 fun y G2 => r x y G2 fun z G3 => ∃ k, z = .bl k ∧ if k = true then tc τ G3 (fun w G4 => r' y w G4 Q) else Q (.bl false) G3
noncomputable def tNil : TA3 := fun _ G Q => Q [] G
noncomputable def tCons (ta : TE3) (tr : TA3) : TA3 := fun τ G Q => ta τ G fun x G1 => tr τ G1 fun xs G2 => Q (x :: xs) G2
noncomputable def tTup (t : TA3) : TE3 := fun τ G Q => t τ G fun xs G1 => xs.length ≤ sizeLine ∧ Q (.tup xs) G1
noncomputable def tLst (t : TA3) : TE3 := fun τ G Q => t τ G fun xs G1 => xs.length ≤ sizeLine ∧ ∀ p, G1 p = none → Q (.ref p) (gup G1 p (.lst xs))
noncomputable def tCB (r : List T → Gp → VK3 → Prop) (t : TA3) : TE3 := fun τ G Q => t τ G fun xs G1 => r xs G1 Q
section
variable {X : Cx} {a b c : Expr} {ta tb tc : TE3} {tA tB : TT3} {pos : Pos} {rest es : List Expr} {t : TA3}
theorem e_op {op : Operator} {r : R3} (ho : Op3 X (binaryOp op) r) (ha : PE3 X a ta) (hb : PE3 X b tb) : PE3 X (.BinOp a op b pos) (tOp r ta tb) := by
 intro pins s τ G H Q I h
 exact wpAny_BinOp (bin3 ha hb I h fun v u s2 x y G2 H2 e I2 rx ry q => thn (ho pins s2 τ G2 H2 x y v u Q I2 rx ry q) fun _ _ z => z.ext e)
theorem e_un {op : UnaryOp} {r : T → Gp → VK3 → Prop} (ho : Un3 X (unaryOp op) r) (ha : PE3 X a ta) : PE3 X (.UnaryOp op a pos) (tUn r ta) := by
 intro pins s τ G H Q I h
 exact UnaryOp_ (thn (ha pins s τ G H _ I h) fun v s1 w_ => w_.el fun x G1 H1 e I1 r1 q1 => thn (ho pins s1 τ G1 H1 x v Q I1 r1 q1) fun _ _ z => z.ext e)
theorem e_cmp {op : CmpOp} {r : R3} (ho : Op3 X (compareOp op) r) (ha : PE3 X a ta) (hb : PE3 X b tb) (hm : behindInMarks op b = false) : PE3 X (.Compare a [op] [b] pos) (tOp r ta tb) := by
 intro pins s τ G H Q I h
 exact wpAny_Compare1 (bin3 ha hb I h fun v u s2 x y G2 H2 e I2 rx ry q => thn (ho pins s2 τ G2 H2 x y v u Q I2 rx ry q) fun _ _ z => z.ext e) hm
theorem t_cmp {op : CmpOp} {r : R3} (ho : Op3 X (compareOp op) r) (ha : PE3 X a ta) (hb : PE3 X b tb) (hm : behindInMarks op b = false) : PT3 X (.Compare a [op] [b] pos) (tTest (tOp r ta tb)) := by
 intro pins s τ G H Q I h
 refine wpAny_isTrue_Compare1 (bin3 ha hb I h fun v u s2 x y G2 H2 e I2 rx ry q => thn (ho pins s2 τ G2 H2 x y v u _ I2 rx ry q) fun w' s3 w_ => w_.el fun z G3 H3 e3 I3 r3 ⟨k, ez, q3⟩ => ?_) hm
 subst ez
 obtain ⟨v', rv', ru'⟩ := r3
 cases (show v' = .bl k from rv'); cases ru'
 exact wpAny_truthy_bool ⟨G3, H3, e.trans e3, I3, q3⟩
theorem t_val {e : Expr} {t : TE3} (h : PE3 X e t) (he : ∀ whole, isTrue e X.env whole = (do let v ← whole; standAt e.pos; holding [v] (truthy v)) := by intro _; rfl) : PT3 X e (tTest t) := by
 intro pins s τ G H Q I hw
 refine isTrue_plain (thn (h pins s τ G H _ I hw) fun v s1 w_ => w_.el fun x G1 H1 e1 I1 r1 ⟨k, ez, q1⟩ => ?_) (he _)
 subst ez
 obtain ⟨v', rv', ru'⟩ := r1
 cases (show v' = .bl k from rv'); cases ru'
 exact wpAny_truthy_bool ⟨G1, H1, e1, I1, q1⟩
noncomputable def tTru (r : T → Gp → (Bool → Gp → Prop) → Prop) (t : TE3) : TT3 := fun τ G Q => t τ G fun x G1 => r x G1 Q
theorem t_tru {e : Expr} {t : TE3} {r : T → Gp → (Bool → Gp → Prop) → Prop} (hr : Tru3 X r) (h : PE3 X e t) (he : ∀ whole, isTrue e X.env whole = (do let v ← whole; standAt e.pos; holding [v] (truthy v)) := by intro _; rfl) : PT3 X e (tTru r t) := by
 intro pins s τ G H Q I hw
 exact isTrue_plain (thn (h pins s τ G H _ I hw) fun v s1 w_ => w_.el fun x G1 H1 e1 I1 r1 q1 => thn (hr pins s1 τ G1 H1 x v Q I1 r1 q1) fun _ _ z => z.ext e1) (he _)
theorem w_or1 (ha : PT3 X a tA) : PW3 X (.BoolOp .Or [a] pos) tA := by
 intro wh pins s τ G H Q I h
 refine isTrue_or (thn (ha pins s τ G H Q I h) fun c s1 e => ?_)
 cases c with
 | false => exact isTrue_or_nil e
 | true => exact e
theorem w_or (ha : PT3 X a tA) (hb : PW3 X (.BoolOp .Or (b :: rest) pos) tB) : PW3 X (.BoolOp .Or (a :: b :: rest) pos) (tOr tA tB) := by
 intro wh pins s τ G H Q I h
 refine isTrue_or (thn (ha pins s τ G H _ I h) fun c s1 w_ => w_.el fun G1 H1 e1 I1 q1 => ?_)
 cases c with
 | true => exact ⟨G1, H1, e1, I1, q1⟩
 | false => exact thn (hb wh pins s1 τ G1 H1 Q I1 q1) fun _ _ z => z.ext e1
theorem t_not (ha : PT3 X a tA) : PT3 X (.UnaryOp .Not a pos) (tNot tA) := by
 intro pins s τ G H Q I h
 exact isTrue_not (thn (ha pins s τ G H (fun c G1 => Q (!c) G1) I h) fun c s1 w_ => w_.el fun G1 H1 e1 I1 q1 => ⟨G1, H1, e1, I1, q1⟩)
theorem e_one {op} {t : TE3} (h : PE3 X a t) : PE3 X (.BoolOp op [a] pos) t := fun pins s τ G H Q I hw => BoolOp_one (h pins s τ G H Q I hw)
theorem e_and (ha : PE3 X a ta) (hb : PE3 X (.BoolOp .And (b :: rest) pos) tb) : PE3 X (.BoolOp .And (a :: b :: rest) pos) (tAndV ta tb) := by
 intro pins s τ G H Q I h
 refine BoolOp_and (thn (ha pins s τ G H _ I h) fun v s1 w_ => w_.el fun x G1 H1 e1 I1 r1 ⟨k, ez, q1⟩ => ?_)
 subst ez
 obtain ⟨v', rv', ru'⟩ := r1
 cases (show v' = .bl k from rv'); cases ru'
 refine wpAny_truthy_bool ?_
 cases k with
 | true => exact thn (hb pins s1 τ G1 H1 Q I1 q1) fun _ _ z => z.ext e1
 | false => exact ⟨.bl false, G1, H1, e1, I1, ⟨.bl false, rfl, rfl⟩, q1⟩
theorem e_ifExp (hc : PT3 X c tA) (ha : PE3 X a ta) (hb : PE3 X b tb) : PE3 X (.IfExp c a b pos) (tIf tA ta tb) := by
 intro pins s τ G H Q I h
 refine IfExp_ (thn (hc pins s τ G H _ I h) fun k s1 w_ => w_.el fun G1 H1 e1 I1 q1 => ?_)
 cases k with
 | true => exact thn (ha pins s1 τ G1 H1 Q I1 q1) fun _ _ z => z.ext e1
 | false => exact thn (hb pins s1 τ G1 H1 Q I1 q1) fun _ _ z => z.ext e1
theorem a_nil : PA3 X [] tNil := fun _ _ _ _ G H Q I h => Calls.spliced_nil ⟨[], G, H, .refl H, I, ⟨[], rfl, .nil⟩, h⟩
theorem a_cons {e : Expr} {te : TE3} (ha : PE3 X e te) (hr : PA3 X es t) (hs : starEach (e :: es) X.env = (false, eval e X.env) :: starEach es X.env := by rfl) : PA3 X (e :: es) (tCons te t) := by
 intro pos pins s τ G H Q I h
 rw [hs]
 show wpAny _ _ (spliced ((false, eval e X.env) :: backTo pos (starEach es X.env))) _ _ s
 refine Calls.spliced_cons (thn (ha pins s τ G H _ I h) fun u s1 w_ => w_.el fun x G1 H1 e1 I1 r1 q1 => ?_)
 refine thn (hr pos pins s1 τ G1 H1 _ I1 q1) fun us s2 w_ => w_.el fun xs G2 H2 e2 I2 r_ q2 => r_.el fun vs rs rv => ?_
 obtain ⟨v, rr, rvv⟩ := r1.mono e2
 exact ⟨x :: xs, G2, H2, e1.trans e2, I2, ⟨v :: vs, ⟨v, vs, rfl, rr, rs⟩, .cons rvv rv⟩, q2⟩
theorem e_tup {x1} (h : PA3 X es t) : PE3 X (.Tuple es x1 pos) (tTup t) := by
 intro pins s τ G H Q I hq
 refine wpAny_Tuple_spliced (thn (h pos pins s τ G H _ I hq) fun us s1 w_ => w_.el fun xs G1 H1 e1 i_ r_ ⟨z, q⟩ => i_.el fun σ I1 hs1 hg1 => r_.el fun vs rs rv => ⟨by rw [← rv.length, ← rs.length]; exact z, ?_⟩)
 have hf : H1 s1.heap.objs.size = none := I1.hok.fresh (Nat.le_refl _)
 have e2 : Ext H1 (upd H1 s1.heap.objs.size (.tup vs)) := .upd (.none hf)
 refine ⟨.tup xs, G1, upd H1 s1.heap.objs.size (.tup vs), e1.trans e2, ⟨σ, I1.laid (t' := s1.toks) (fun b u e => Heap.get?_push_of_some _ e) (Nat.le_refl _) ?_, hs1.mono e2, hg1.tupNew hf⟩, ⟨.ref s1.heap.objs.size, Rep.tupNew rs hf, rfl⟩, q⟩
 exact ⟨by rw [← rs.length]; exact z, us, rv, ⟨_, Heap.get?_push_size _ rfl, rfl, _, rfl, rfl⟩⟩
theorem e_lst (h : PA3 X es t) : PE3 X (.List es pos) (tLst t) := by
 intro pins s τ G H Q I hq
 refine wpAny_List_spliced (thn (h pos pins s τ G H _ I hq) fun us s1 w_ => w_.el fun xs G1 H1 e1 i_ r_ ⟨z, q⟩ => i_.el fun σ I1 hs1 hg1 => r_.el fun vs rs rv => ⟨by rw [← rv.length, ← rs.length]; exact z, ?_⟩)
 have hf : H1 s1.heap.objs.size = none := I1.hok.fresh (Nat.le_refl _)
 have e2 : Ext H1 (upd H1 s1.heap.objs.size (.lst vs)) := .upd (.none hf)
 refine ⟨.ref s1.heap.objs.size, gup G1 s1.heap.objs.size (.lst xs), upd H1 s1.heap.objs.size (.lst vs), e1.trans e2, ⟨σ, I1.laid (t' := s1.toks) (fun b u e => Heap.get?_push_of_some _ e) (Nat.le_refl _) ?_, hs1.mono e2, hg1.lstNew rs (.none hf)⟩, ⟨.ref s1.heap.objs.size, rfl, rfl⟩, q _ (hg1.fresh hf)⟩
 exact ⟨by rw [← rs.length]; exact z, us, 0, rv, Heap.get?_push_size _ rfl⟩
theorem e_ix {r : R3} (hr : Ix3 X r) (ha : PE3 X a ta) (hb : PE3 X b tb) (hs : PlainIx b) : PE3 X (.Subscript a b pos) (tOp r ta tb) := by
 intro pins s τ G H Q I h
 exact Subscript_ (bin3 ha hb I h fun v u s2 x y G2 H2 e I2 rx ry q => thn (hr a b pins s2 τ G2 H2 x y v u Q I2 rx ry q (hs _ _)) fun _ _ z => z.ext e)
noncomputable def rIx : R3 := fun x y G Q => ∃ xs i t, seqT G x = some xs ∧ y = .int i ∧ atI xs i = some t ∧ Q t G
theorem asL_some {o : Option GO} {xs : List T} (h : asL o = some xs) : o = some (.lst xs) := by
 cases o with
 | none => cases h
 | some g => cases g with
  | lst ys => cases h; rfl
  | dct _ => cases h
  | dck _ => cases h
theorem seq_cases {K : PySem.W.Frag} {H : Hp} {G : Gp} {x : T} {a : V} {xs : List T} (hg : GRel K H G) (r : Rep K H x a) (h : seqT G x = some xs) :
  ∃ p vs, a = .ref p ∧ (SqL K H p vs ∨ SqT K H p vs) ∧ Reps K H xs vs := by
 cases x with
 | tup ys => cases h; obtain ⟨p, vs, e, h1, h2⟩ := (show ∃ p vs, a = .ref p ∧ H p = some (.tup vs) ∧ Reps K H xs vs from r); exact ⟨p, vs, e, .inr (.of h1), h2⟩
 | scr ys => cases h; obtain ⟨p, vs, e, h1, h2⟩ := (show ∃ p vs, a = .ref p ∧ FrL K H p vs ∧ Reps K H xs vs from r); exact ⟨p, vs, e, .inl h1.sq, h2⟩
 | ref p =>
  obtain ⟨vs, h1, h2⟩ := hg.lst (asL_some h)
  exact ⟨p, vs, r, .inl (.of h1), h2⟩
 | non => cases h
 | bl _ => cases h
 | int _ => cases h
 | str _ => cases h
 | ty _ => cases h
theorem ix_any : Ix3 X rIx :=
 Ix3.of (ix_list.or ix_tup) fun H G x y a b Q hg ra rb ⟨xs, i, t, hx, ey, ht, q⟩ => by
  subst ey; cases (show b = .int i from rb)
  obtain ⟨p, vs, e, hq, r⟩ := seq_cases hg ra hx
  subst e
  obtain ⟨v, hv, rv⟩ := r.atI ht
  rcases hq with hq | hq
  ·exact .inl ⟨p, vs, i, v, rfl, rfl, hq, hv, t, G, .refl H, hg, rv, q⟩
  ·exact .inr ⟨p, vs, i, v, rfl, rfl, hq, hv, t, G, .refl H, hg, rv, q⟩
theorem e_callB {id : String} {r : List T → Gp → VK3 → Prop} {x : Str} {p : Pos} {e : Expr} (hc : Call3 X (.builtin id) r) (hg : Gl X x) (hm : X.mg x = none) (hv : bootBuiltins x = some (.builtin id)) (ha : PA3 X (e :: es) t) (hn : x ≠ "__name__" := by decide) (hdb : (x == ("__debug__" : Str)) = false := by decide)
  (he : starEach (e :: es) X.env = (false, eval e X.env) :: starEach es X.env := by rfl) (hpl : (backTo pos (starEach es X.env)).any (·.1) = false := by rfl) : PE3 X (.Call (.Name x p) (e :: es) [] pos) (tCB r t) := by
 intro pins s τ G H Q I h
 obtain ⟨σ, I0, hs0, hg0⟩ := _root_.id I
 refine wpAny_Call_Name_kw (ld_blt I0 hg hm hv ?_ hn hdb)
 exact PyProof.Rows.callWith_builtin1 (thn (ha pos pins s τ G H _ I h) fun us s1 w_ => w_.el fun xs G1 H1 e1 I1 r1 q1 => thn (hc pins s1 τ G1 H1 xs us Q I1 r1 q1) fun _ _ z => z.ext e1) he hpl
theorem e_callTy {T0 : String} {r : List T → Gp → VK3 → Prop} {x : Str} {p : Pos} {e : Expr} (hc : Call3 X (.type T0) r) (hg : Gl X x) (hm : X.mg x = none) (hv : bootBuiltins x = some (.type T0)) (ha : PA3 X (e :: es) t) (hn : x ≠ "__name__" := by decide) (hdb : (x == ("__debug__" : Str)) = false := by decide)
  (he : starEach (e :: es) X.env = (false, eval e X.env) :: starEach es X.env := by rfl) (hpl : (backTo pos (starEach es X.env)).any (·.1) = false := by rfl) : PE3 X (.Call (.Name x p) (e :: es) [] pos) (tCB r t) := by
 intro pins s τ G H Q I h
 obtain ⟨σ, I0, hs0, hg0⟩ := _root_.id I
 refine wpAny_Call_Name_kw (ld_blt I0 hg hm hv ?_ hn hdb)
 exact PyProof.Rows.callWith_type1 (thn (ha pos pins s τ G H _ I h) fun us s1 w_ => w_.el fun xs G1 H1 e1 I1 r1 q1 => thn (hc pins s1 τ G1 H1 xs us Q I1 r1 q1) fun _ _ z => z.ext e1) he hpl
theorem reps1 {K : PySem.W.Frag} {H : Hp} {x : T} {vs : List V} (h : Reps K H [x] vs) : ∃ v, vs = [v] ∧ Rep K H x v := by
 obtain ⟨v, ws, rfl, r, e⟩ := h; cases e; exact ⟨v, rfl, r⟩
theorem reps2 {K : PySem.W.Frag} {H : Hp} {x y : T} {vs : List V} (h : Reps K H [x, y] vs) : ∃ v w, vs = [v, w] ∧ Rep K H x v ∧ Rep K H y w := by
 obtain ⟨v, ws, rfl, r, w, ws2, rfl, r2, e⟩ := h; cases e; exact ⟨v, w, rfl, r, r2⟩
noncomputable def rLen : List T → Gp → VK3 → Prop := fun xs G Q => ∃ x ys, xs = [x] ∧ seqT G x = some ys ∧ Q (.int ys.length) G
theorem c_len : Call3 X (.builtin "len") rLen :=
 Call3.of call_len_seq fun H G xs as Q hg ra ⟨x, ys, e, hx, q⟩ => by
  subst e
  obtain ⟨v, rfl, rv⟩ := reps1 ra
  obtain ⟨p, vs, rfl, hq, r⟩ := seq_cases hg rv hx
  exact ⟨p, vs, rfl, hq, .int ys.length, G, .refl H, hg, by rw [r.length]; rfl, q⟩
noncomputable def rAbs : List T → Gp → VK3 → Prop := fun xs G Q => ∃ i, xs = [.int i] ∧ Q (.int (if i < 0 then -i else i)) G
theorem c_abs : Call3 X (.builtin "abs") rAbs :=
 Call3.of call_abs fun H G xs as Q hg ra ⟨i, e, q⟩ => by
  subst e
  obtain ⟨v, rfl, rv⟩ := reps1 ra
  cases (show v = .int i from rv)
  exact ⟨i, rfl, .int _, G, .refl H, hg, rfl, q⟩
noncomputable def rMax : List T → Gp → VK3 → Prop := fun xs G Q => ∃ i j, xs = [.int i, .int j] ∧ Q (.int (if j > i then j else i)) G
theorem c_max (hc : X.calm = true) : Call3 X (.builtin "max") rMax :=
 Call3.of (call_max2 hc) fun H G xs as Q hg ra ⟨i, j, e, q⟩ => by
  subst e
  obtain ⟨v, w, rfl, rv, rw'⟩ := reps2 ra
  cases (show v = .int i from rv); cases (show w = .int j from rw')
  exact ⟨i, j, rfl, .int _, G, .refl H, hg, rfl, q⟩
noncomputable def rIntOf : List T → Gp → VK3 → Prop := fun xs G Q => ∃ k, xs = [.bl k] ∧ Q (.int (if k then 1 else 0)) G
theorem c_int : Call3 X (.type "int") rIntOf :=
 Call3.of call_int1 fun H G xs as Q hg ra ⟨k, e, q⟩ => by
  subst e
  obtain ⟨v, rfl, rv⟩ := reps1 ra
  cases (show v = .bl k from rv)
  exact .inr ⟨k, rfl, .int _, G, .refl H, hg, rfl, q⟩
noncomputable def rDivmod : List T → Gp → VK3 → Prop := fun xs G Q => ∃ i j, xs = [.int i, .int j] ∧ CDiv i j ∧ Q (.tup [.int (i / j), .int (i % j)]) G
noncomputable def rListOf : List T → Gp → VK3 → Prop := fun xs G Q => ∃ x ys, xs = [x] ∧ seqT G x = some ys ∧ ∀ p, G p = none → Q (.ref p) (gup G p (.lst ys))
theorem c_list : Call3 X (.type "list") rListOf :=
 Call3.of call_list_of fun H G xs as Q hg ra ⟨x, ys, e, hx, q⟩ => by
  subst e
  obtain ⟨v, rfl, rv⟩ := reps1 ra
  obtain ⟨p, vs, rfl, hq, r⟩ := seq_cases hg rv hx
  exact ⟨p, vs, rfl, hq, fun l hl => ⟨.ref l, _, .upd (.none hl), hg.lstNew r (.none hl), rfl, q l (hg.fresh hl)⟩⟩
noncomputable def rTupleOf : List T → Gp → VK3 → Prop := fun xs G Q => ∃ x ys, xs = [x] ∧ seqT G x = some ys ∧ Q (.tup ys) G
theorem c_tuple : Call3 X (.type "tuple") rTupleOf :=
 Call3.of call_tuple_of fun H G xs as Q hg ra ⟨x, ys, e, hx, q⟩ => by
  subst e
  obtain ⟨v, rfl, rv⟩ := reps1 ra
  obtain ⟨p, vs, rfl, hq, r⟩ := seq_cases hg rv hx
  cases x with
  | tup zs =>
   cases hx
   obtain ⟨p', vs', e', h1, h2⟩ := (show ∃ p' vs', V.ref p = .ref p' ∧ H p' = some (.tup vs') ∧ Reps X.K H ys vs' from rv)
   cases e'
   exact ⟨p, vs', rfl, .inr ⟨.of h1, .tup ys, G, .refl H, hg, ⟨p, vs', rfl, h1, h2⟩, q⟩⟩
  | scr zs =>
   cases hx
   obtain ⟨p', vs', e', h1, h2⟩ := (show ∃ p' vs', V.ref p = .ref p' ∧ FrL X.K H p' vs' ∧ Reps X.K H ys vs' from rv)
   cases e'
   exact ⟨p, vs', rfl, .inl ⟨h1.sq, fun l hl => ⟨.tup ys, G, .upd (.none hl), hg.tupNew hl, Rep.tupNew h2 hl, q⟩⟩⟩
  | ref p' =>
   cases (show V.ref p = .ref p' from rv)
   obtain ⟨vs', h1, h2⟩ := hg.lst (asL_some hx)
   exact ⟨p, vs', rfl, .inl ⟨.of h1, fun l hl => ⟨.tup ys, G, .upd (.none hl), hg.tupNew hl, Rep.tupNew h2 hl, q⟩⟩⟩
  | non => cases hx
  | bl _ => cases hx
  | int _ => cases hx
  | str _ => cases hx
  | ty _ => cases hx
noncomputable def rCat : R3 := fun x y G Q => ∃ p q xs ys, x = .ref p ∧ y = .ref q ∧ G p = some (.lst xs) ∧ G q = some (.lst ys) ∧ xs.length + ys.length ≤ sizeLine ∧ ∀ l, G l = none → Q (.ref l) (gup G l (.lst (xs ++ ys)))
noncomputable def rRep : R3 := fun x y G Q => ∃ p xs n, x = .ref p ∧ y = .int n ∧ G p = some (.lst xs) ∧ n.toNat * xs.length ≤ sizeLine ∧ n < 2 ^ 62 ∧ -(2 ^ 62) < n ∧ ∀ l, G l = none → Q (.ref l) (gup G l (.lst (List.replicate n.toNat xs).flatten))
noncomputable def tyT (G : Gp) (T0 : String) (x : T) : Prop := match x with
 | .str _ => T0 = "str"
 | .int _ => T0 = "int"
 | .ref p => (T0 = "list" ∧ ∃ xs, G p = some (.lst xs)) ∨ (T0 = "dict" ∧ ((∃ kvs, G p = some (.dck kvs)) ∨ ∃ kvs, G p = some (.dct kvs)))
 | _ => False
theorem tyT.of {K : PySem.W.Frag} {H : Hp} {G : Gp} {T0 : String} {x : T} {a : V} (hg : GRel K H G) (r : Rep K H x a) (h : tyT G T0 x) : tyV K T0 a H := by
 cases x with
 | str z => cases (show a = .str z from r); exact h
 | int z => cases (show a = .int z from r); exact h
 | ref p =>
  cases (show a = .ref p from r)
  rcases h with ⟨e, xs, h⟩ | ⟨e, h⟩
  ·obtain ⟨vs, h1, _⟩ := hg.lst h; exact .inl ⟨e, vs, .of h1⟩
  ·refine .inr (.inr (.inl ⟨e, ?_⟩))
   rcases h with ⟨kvs, h⟩ | ⟨kvs, h⟩
   ·obtain ⟨ws, h1, _⟩ := hg p _ h; exact .inl ⟨ws, h1⟩
   ·obtain ⟨ws, h1, _⟩ := hg p _ h; exact .inr ⟨ws, h1⟩
 | non => exact False.elim h
 | bl _ => exact False.elim h
 | ty _ => exact False.elim h
 | tup _ => exact False.elim h
 | scr _ => exact False.elim h
noncomputable def tBM (T0 : String) (r : T → List T → Gp → VK3 → Prop) (to : TE3) (t : TA3) : TE3 := fun τ G Q => to τ G fun x G1 => tyT G1 T0 x ∧ t τ G1 fun xs G2 => r x xs G2 Q
theorem e_bm {T0 id : String} {r : T → List T → Gp → VK3 → Prop} {o e : Expr} {name : Str} {apos cpos : Pos} {to : TE3} (pa : PlainAttrs T0) (slot : Slot T0 name id) (hty : typeOf (.builtin id) = pure (.type "method_descriptor")) (hm : Mt3 X id r) (ho : PE3 X o to) (ha : PA3 X (e :: es) t)
  (hbase : attributeBase o name X.env (eval o X.env) = eval o X.env := by rfl)
  (hfew : ((backTo cpos (starEach (e :: es) X.env)).all (fun x => !x.1) && (backToKw cpos (keywordEach [] X.env)).all (fun x => x.1.isSome)
   && decide ((e :: es).length + ([] : List Keyword).length + (if ([] : List Keyword).isEmpty then 0 else 1) < 30)) = true := by rfl)
  (hline : (apos.endLine == cpos.line) = true := by rfl) (hs : starEach (e :: es) X.env = (false, eval e X.env) :: starEach es X.env := by rfl) (hplain : (backTo cpos (starEach es X.env)).any (·.1) = false := by rfl) :
  PE3 X (.Call (.Attribute o name apos) (e :: es) [] cpos) (tBM T0 r to t) := by
 intro pins s τ G H Q I h
 refine wpAny_Call_method_late hbase hfew hline rfl (thn (ho pins s τ G H _ I h) fun v s1 w_ => w_.el fun x G1 H1 e1 I1 r1 ⟨ty, q1⟩ => ?_)
 obtain ⟨σ, I0, hs0, hg0⟩ := _root_.id I1
 obtain ⟨a0, ra0, rv0⟩ := _root_.id r1
 obtain ⟨h1, h2⟩ := tyV_is I0 rv0 (tyT.of hg0 ra0 ty)
 refine ⟨T0, id, pa, slot, hty, h1, h2, ?_⟩
 have hA := ha cpos pins s1 τ G1 H1 _ I1 q1
 rw [hs] at hA ⊢
 refine Calls.callWith_builtin (by show (false || (backTo cpos (starEach es X.env)).any (·.1)) = false; rw [hplain] <;> rfl) (Calls.evalArgs_plain ?_)
 exact thn hA fun us s2 w_ => w_.el fun vs G2 H2 e2 I2 r2 q2 => thn (hm pins s2 τ G2 H2 x vs v us Q I2 (r1.mono e2) r2 q2) fun _ _ z => (z.ext e2).ext e1
noncomputable def rAppend : T → List T → Gp → VK3 → Prop := fun x xs G Q => ∃ p ys y, x = .ref p ∧ xs = [y] ∧ G p = some (.lst ys) ∧ ys.length < sizeLine ∧ Q .non (gup G p (.lst (ys ++ [y])))
noncomputable def rSetL : T → T → T → Gp → (Gp → Prop) → Prop := fun o i v G Q => ∃ p xs k j, o = .ref p ∧ i = .int k ∧ G p = some (.lst xs) ∧ ixN xs.length k = some j ∧ Q (gup G p (.lst (xs.set j v)))
theorem s_list : Set3 X rSetL :=
 Set3.of set_list fun H G o i v a b c Q hg ra rb rc ⟨p, xs, k, j, eo, ei, hp, hj, q⟩ => by
  subst eo; subst ei
  cases (show a = .ref p from ra); cases (show b = .int k from rb)
  obtain ⟨vs, h1, h2⟩ := hg.lst hp
  exact ⟨p, vs, k, j, rfl, rfl, h1, by rw [← h2.length]; exact hj, _, .upd (.lst h1), hg.lstNew (h2.set rc j) (.lst h1), q⟩
end
end L3
namespace L3
open PySem PySem.Spec PyProof.Rows L2
section
variable {X : Cx}
theorem o_cat : Op3 X (binaryOp .Add) rCat :=
 Op3.of op_cat fun H G x y a b Q hg ra rb ⟨p, q, xs, ys, ex, ey, hp, hq, hz, h⟩ => by
  subst ex; subst ey
  cases (show a = .ref p from ra); cases (show b = .ref q from rb)
  obtain ⟨vs, h1, h2⟩ := hg.lst hp
  obtain ⟨ws, h3, h4⟩ := hg.lst hq
  exact ⟨p, q, vs, ws, rfl, rfl, h1, h3, by rw [← h2.length, ← h4.length]; exact hz, fun l hl => ⟨.ref l, _, .upd (.none hl), hg.lstNew (h2.append h4) (.none hl), rfl, h l (hg.fresh hl)⟩⟩
theorem o_rep : Op3 X (binaryOp .Mult) rRep :=
 Op3.of op_rep fun H G x y a b Q hg ra rb ⟨p, xs, n, ex, ey, hp, hz, h1, h2, h⟩ => by
  subst ex; subst ey
  cases (show a = .ref p from ra); cases (show b = .int n from rb)
  obtain ⟨vs, h3, h4⟩ := hg.lst hp
  refine ⟨p, n, vs, rfl, rfl, h3, by omega, by omega, by rw [← h4.length, Nat.mul_comm]; exact hz, fun l hl => ⟨.ref l, _, .upd (.none hl), hg.lstNew (h4.rep _) (.none hl), rfl, h l (hg.fresh hl)⟩⟩
theorem m_append : Mt3 X "list.append" rAppend :=
 Mt3.of mt_append fun H G x xs a as Q hg ra ras ⟨p, ys, y, ex, exs, hp, hz, q⟩ => by
  subst ex; subst exs
  cases (show a = .ref p from ra)
  obtain ⟨v, rfl, rv⟩ := reps1 ras
  obtain ⟨vs, h1, h2⟩ := hg.lst hp
  exact ⟨p, vs, v, rfl, rfl, h1, by rw [← h2.length]; exact hz, .non, _, .upd (.lst h1), hg.lstNew (h2.append (.one rv)) (.lst h1), rfl, q⟩
end
noncomputable def tNext : TS3 := fun D τ G => D.nx τ G
noncomputable def tSeq (t u : TS3) : TS3 := fun D τ G => t { D with nx := u D } τ G
noncomputable def tDrop (te : TE3) : TS3 := fun D τ G => te τ G fun _ G1 => D.nx τ G1
noncomputable def tRet (te : TE3) : TS3 := fun D τ G => te τ G D.rt
noncomputable def tRetN : TS3 := fun D _ G => D.rt .non G
noncomputable def tIfS (c : TT3) (t u : TS3) : TS3 := fun D τ G => c τ G fun b G1 => if b = true then t D τ G1 else u D τ G1
noncomputable def tCont : TS3 := fun D τ G => D.ct τ G
section
variable {X : Cx} {st : Stmt} {rest : List Stmt} {t u : TS3} {e : Expr} {te : TE3} {pos : Pos}
theorem ss_nil : PSs3 X [] tNext := fun _ _ τ G H _ I h => wpAny_execs_nil ⟨τ, G, H, .refl H, I, h⟩
theorem ss_cons (h1 : PS3 X st t) (h2 : PSs3 X rest u) : PSs3 X (st :: rest) (tSeq t u) := by
 intro pins s τ G H D I h
 refine wpAny_execs_cons (thn (h1 pins s τ G H { D with nx := u D } I h) fun f s1 q => ?_)
 cases f with
 | next =>
  obtain ⟨τ', G', H', e', I', q⟩ := q
  exact thn (h2 pins s1 τ' G' H' D I' q) fun _ _ z => z.ext e'
 | ret v => exact q
 | brk => exact q
 | cont => exact q
theorem ss_one (h1 : PS3 X st t) : PSs3 X [st] t := by
 intro pins s τ G H D I h
 refine wpAny_execs_cons (thn (h1 pins s τ G H D I h) fun f s1 q => ?_)
 cases f with
 | next => exact wpAny_execs_nil q
 | ret v => exact q
 | brk => exact q
 | cont => exact q
theorem s_cont : PS3 X (.Continue pos) tCont := fun _ _ τ G H _ I h => wpAny_Continue ⟨τ, G, H, .refl H, I, h⟩
theorem s_expr (he : PE3 X e te) (hs : swapsWith e none pos.line X.env = pure false := by rfl) : PS3 X (.Expr e pos) (tDrop te) := by
 intro pins s τ G H D I h
 obtain ⟨σ, I0, hs0, hg0⟩ := id I
 exact wpAny_Expr_any (thn (he pins s τ G H _ I h) fun v s1 w_ => w_.el fun x G1 H1 e1 I1 r1 q1 => ⟨τ, G1, H1, e1, I1, q1⟩) I0.quiet hs
theorem s_ret (he : PE3 X e te) : PS3 X (.Return (some e) pos) (tRet te) := by
 intro pins s τ G H D I h
 exact wpAny_Return_some (thn (he pins s τ G H _ I h) fun v s1 w_ => w_.el fun x G1 H1 e1 I1 r1 q1 => ⟨x, τ, G1, H1, e1, I1, r1, q1⟩)
theorem s_if {c : Expr} {a b : List Stmt} {tc : TT3} (hc : PT3 X c tc) (ha : PSs3 X a t) (hb : PSs3 X b u) : PS3 X (.If c a b pos) (tIfS tc t u) := by
 intro pins s τ G H D I h
 refine wpAny_If (thn (hc pins s τ G H _ I h) fun d s1 w_ => w_.el fun G1 H1 e1 I1 q1 => ?_)
 cases d with
 | true => exact thn (ha pins s1 τ G1 H1 D I1 q1) fun _ _ z => z.ext e1
 | false => exact thn (hb pins s1 τ G1 H1 D I1 q1) fun _ _ z => z.ext e1
end
noncomputable abbrev TG3 := T → St3 → Gp → (St3 → Gp → Prop) → Prop
noncomputable abbrev TGs3 := List T → St3 → Gp → (St3 → Gp → Prop) → Prop
noncomputable def GP3 (X : Cx) (pins : List (Addr × Obj)) (H : Hp) (Q : St3 → Gp → Prop) (s' : Shared) : Prop := ∃ τ' G' H', Ext H H' ∧ Inv3 X pins τ' G' H' s' ∧ Q τ' G'
noncomputable def PG3 (X : Cx) (target : Expr) (t : TG3) : Prop :=
 ∀ (pins : List (Addr × Obj)) (s : Shared) (τ : St3) (G : Gp) (H : Hp) (v : T) (u : Value) (Q : St3 → Gp → Prop), Inv3 X pins τ G H s → RU X.K H v u → t v τ G Q →
  wpAny (model X.prog X.w) X.A (assign target X.env u) (fun _ s' => GP3 X pins H Q s') X.xe s
noncomputable def PGs3 (X : Cx) (ts : List Expr) (t : TGs3) : Prop :=
 ∀ (pins : List (Addr × Obj)) (s : Shared) (τ : St3) (G : Gp) (H : Hp) (vs : List T) (us : List Value) (Q : St3 → Gp → Prop), Inv3 X pins τ G H s → RUs X.K H vs us → t vs τ G Q →
  wpAny (model X.prog X.w) X.A (assignInOrder ((assignEach ts X.env).map (·.2)) us) (fun _ s' => GP3 X pins H Q s') X.xe s
noncomputable def gName (i : Nat) : TG3 := fun v τ G Q => Q (τ.set i (some v)) G
noncomputable def gNil : TGs3 := fun vs τ G Q => vs = [] ∧ Q τ G
noncomputable def gCons (t : TG3) (u : TGs3) : TGs3 := fun vs τ G Q => ∃ v r, vs = v :: r ∧ t v τ G fun τ' G' => u r τ' G' Q
noncomputable def gTup (n : Nat) (t : TGs3) : TG3 := fun v τ G Q => ∃ xs, v = .tup xs ∧ xs.length = n ∧ t xs τ G Q
noncomputable def gSub (to ti : TE3) (t : T → T → T → Gp → (Gp → Prop) → Prop) : TG3 := fun v τ G Q => to τ G fun o G1 => ti τ G1 fun i G2 => t o i v G2 fun G3 => Q τ G3
noncomputable def tAsg (te : TE3) (g : TG3) : TS3 := fun D τ G => te τ G fun x G1 => g x τ G1 D.nx
section
variable {X : Cx} {pos : Pos}
theorem g_name {i : Nat} {x : Str} (hN : X.N.Nodup) (hi : X.N[i]? = some x := by rfl) (hx : Loc X.env.scope x := by first | exact Or.inl rfl | exact Or.inr rfl) (hf : X.fn x = true ∨ X.env.scope.names.lookup x = some .local := by first | exact .inl rfl | exact .inr rfl) : PG3 X (.Name x pos) (gName i) := by
 intro pins s τ G H v u Q ⟨σ, I, hs, hg⟩ ⟨a, ra, rv⟩ h
 exact wpAny_assign_Name (store_ok I hN hi hx rv (fun s' I' => ⟨_, G, H, .refl H, ⟨_, I', hs.set i ra, hg⟩, h⟩) hf)
theorem gs_nil : PGs3 X [] gNil := by
 intro pins s τ G H vs us Q I ⟨as, r, rv⟩ ⟨e, h⟩
 subst e
 cases (show as = [] from r)
 cases rv
 exact assignInOrder_nil ⟨τ, G, H, .refl H, I, h⟩
theorem gs_cons {e : Expr} {es : List Expr} {t : TG3} {u : TGs3} (h1 : PG3 X e t) (h2 : PGs3 X es u)
  (hs : (assignEach (e :: es) X.env).map (·.2) = assign e X.env :: (assignEach es X.env).map (·.2) := by rfl) : PGs3 X (e :: es) (gCons t u) := by
 intro pins s τ G H vs us Q I ⟨as, r, rv⟩ ⟨v, vr, e1, h⟩
 subst e1
 obtain ⟨a, ar, rfl, ra, rar⟩ := r
 cases rv with
 | cons q qq =>
  rw [hs]
  refine assignInOrder_cons (thn (h1 pins s τ G H v _ _ I ⟨a, ra, q⟩ h) fun _ s1 ⟨τ1, G1, H1, e1, I1, q1⟩ => ?_)
  exact thn (h2 pins s1 τ1 G1 H1 vr _ Q I1 ⟨ar, Reps.mono e1 _ rar, qq⟩ q1) fun _ s2 ⟨τ2, G2, H2, e2, z⟩ => ⟨τ2, G2, H2, e1.trans e2, z⟩
theorem g_tup {es : List Expr} {k : Nat} {t : TGs3} {n : Nat} (hc : X.calm = true) (h : PGs3 X es t)
  (hn : (assignEach es X.env).length = n := by rfl) (hst : (assignEach es X.env).findIdx? (·.1) = none := by rfl) : PG3 X (.Tuple es k pos) (gTup n t) := by
 intro pins s τ G H v u Q ⟨σ, I, hs, hg⟩ ⟨a, ra, rv⟩ ⟨xs, ev, hl, hw⟩
 subst ev
 obtain ⟨p, vs, e1, h1, r1⟩ := (show ∃ p vs, a = .ref p ∧ H p = some (.tup vs) ∧ Reps X.K H xs vs from ra)
 subst e1
 cases rv
 obtain ⟨its, rv, ht, hz⟩ := I.tuple (.of h1)
 refine assign_Tuple_tuple (I.ok.hd hc) ht (by simp [hn, ← hl, r1.length, rv.length]) hst fun h' hx => ?_
 have I1 : Inv X pins σ H { s with heap := h' } := I.kept (t' := s.toks) fun b o e => hx b o (Nat.ne_of_lt (Heap.lt_size e)) e
 exact h pins _ τ G H xs _ Q ⟨σ, I1, hs, hg⟩ ⟨vs, r1, by simpa using rv⟩ hw
theorem g_sub {o i : Expr} {to ti : TE3} {t : T → T → T → Gp → (Gp → Prop) → Prop} (ho : PE3 X o to) (hi : PE3 X i ti) (hs : Set3 X t)
  (ha : ∀ v, assign (.Subscript o i pos) X.env v = (do
   let ov ← holding [v] (eval o X.env)
   let iv ← holding [v, ov] (eval i X.env)
   standAt pos
   holding [v, ov, iv] (setItem ov iv v)
   release [v, ov, iv] []) := by intro _; rfl) : PG3 X (.Subscript o i pos) (gSub to ti t) := by
 intro pins s τ G H v u Q I r h
 rw [ha]
 refine wpAny_bind (wpAny_holding (thn (ho pins s τ G H _ I h) fun ov s1 w_ => w_.el fun x G1 H1 e1 I1 r1 q1 => ?_))
 refine wpAny_bind (wpAny_holding (thn (hi pins s1 τ G1 H1 _ I1 q1) fun iv s2 w_ => w_.el fun y G2 H2 e2 I2 r2 q2 => ?_))
 refine wpAny_bind (wpAny_standAt (wpAny_bind (wpAny_holding (thn (hs pins s2 τ G2 H2 x y v ov iv u _ I2 (r1.mono e2) r2 (r.mono (e1.trans e2)) q2) fun _ s3 ⟨G3, H3, e3, I3, q3⟩ => ?_))))
 exact wpAny_release ⟨τ, G3, H3, (e1.trans e2).trans e3, I3, q3⟩
theorem s_asg {tg e : Expr} {te : TE3} {g : TG3} (he : PE3 X e te) (hg : PG3 X tg g) (hs : swapsWithSole [tg] e pos.line X.env = pure false := by rfl) (hw : swappedStores [tg] e X.env = pure none := by rfl)
  (h1 : (assignEach [tg] X.env).map (·.2) = [assign tg X.env] := by rfl) : PS3 X (.Assign [tg] e pos) (tAsg te g) := by
 intro pins s τ G H D I h
 refine wpAny_Assign_stores (thn (he pins s τ G H _ I h) fun v s1 w_ => w_.el fun x G1 H1 e1 I1 r1 q1 => ?_) hs hw
 rw [h1]
 exact thn (hg pins s1 τ G1 H1 x v _ I1 r1 q1) fun _ s2 ⟨τ2, G2, H2, e2, q⟩ => ⟨τ2, G2, H2, e1.trans e2, q⟩
theorem s_set {i : Nat} {x : Str} {e : Expr} {te : TE3} {pos' : Pos} (hN : X.N.Nodup) (he : PE3 X e te) (hi : X.N[i]? = some x := by rfl) (hx : Loc X.env.scope x := by first | exact Or.inl rfl | exact Or.inr rfl)
  (hs : swapsWith e (some (.Name x pos')) pos.line X.env = pure false := by rfl) (hf : X.fn x = true ∨ X.env.scope.names.lookup x = some .local := by first | exact .inl rfl | exact .inr rfl) :
  PS3 X (.Assign [.Name x pos'] e pos) (tAsg te (gName i)) := by
 intro pins s τ G H D I h
 refine wpAny_Assign_Name (thn (he pins s τ G H _ I h) fun v s1 w_ => w_.el fun y G1 H1 e1 i_ r_ q1 => i_.el fun σ I1 hs1 hg1 => r_.el fun a ra rv => ?_) hs
 exact store_ok I1 hN hi hx rv (fun s2 I2 => ⟨_, G1, H1, e1, ⟨_, I2, hs1.set i ra, hg1⟩, q1⟩) hf
noncomputable def tPar (i j : Nat) (ta : TA3) : TS3 := fun D τ G => ta τ G fun vs G1 => ∃ v w, vs = [v, w] ∧ D.nx ((τ.set i (some v)).set j (some w)) G1
end
noncomputable def Items (K : PySem.W.Frag) (H0 : Hp) (J : It) (xs : List T) (stay : Gp → Prop) : Prop :=
 ∀ i H G, Ext H0 H → GRel K H G → stay G → (i < xs.length → J.go i H) ∧ (xs.length ≤ i → J.stop i H) ∧ (i < xs.length → ∀ x H', J.yld i H x H' → Ext H H' ∧ GRel K H' G ∧ ∃ t, xs[i]? = some t ∧ Rep K H' t x)
noncomputable abbrev TI3 := St3 → Gp → (List T → (Gp → Prop) → Gp → Prop) → Prop
noncomputable def PIE3 (X : Cx) (pins : List (Addr × Obj)) (τ : St3) (H : Hp) (tg : Expr) (R : List T → (Gp → Prop) → Gp → Prop) (itv : Value) (s2 : Shared) : Prop :=
 ∃ (it : Addr) (fp : List Addr) (tn : Nat → Heap → Prop) (J : It) (xs : List T) (stay : Gp → Prop) (G' : Gp) (H' : Hp), itv = .ref it ∧ Ext H H' ∧ Inv3 X pins τ G' H' s2 ∧ Turn X.prog X.w X.K tg J fp it tn ∧ tn 0 s2.heap ∧ (∀ b ∈ fp, FpOk X pins H' b) ∧
  Items X.K H' J xs stay ∧ R xs stay G'
noncomputable def PI3 (X : Cx) (tg iter : Expr) (wi : TI3) : Prop :=
 ∀ (pins : List (Addr × Obj)) (s : Shared) (τ : St3) (G : Gp) (H : Hp) (R : List T → (Gp → Prop) → Gp → Prop), Inv3 X pins τ G H s → wi τ G R →
  wpAny (model X.prog X.w) X.A (eval iter X.env) (fun v s1 => wpAny (model X.prog X.w) X.A (pyIter v) (PIE3 X pins τ H tg R) X.xe s1) X.xe s
noncomputable def tFor (wi : TI3) (g : TG3) (tb : TS3) : TS3 := fun D τ G => wi τ G fun xs stay G1 => ∃ P : Nat → St3 → Gp → Prop, P 0 τ G1 ∧ (∀ i τ G, i ≤ xs.length → P i τ G → stay G) ∧
 (∀ i x τ G, xs[i]? = some x → P i τ G → g x τ G fun τ2 G2 => tb { D with nx := P (i + 1), ct := P (i + 1), bk := D.nx } τ2 G2) ∧ ∀ τ G, P xs.length τ G → D.nx τ G
section
variable {X : Cx} {tg : Expr} {pos : Pos}
theorem s_for {iter : Expr} {body : List Stmt} {wi : TI3} {g : TG3} {tb : TS3} (hp : PassesOwn (model X.prog X.w) X.A X.env X.xe) (hc : X.calm = true) (hi : PI3 X tg iter wi) (hg : PG3 X tg g) (hb : PSs3 X body tb)
  (hs : ∀ x, foldedSetIterable iter X.env x = pure x := by intro _; rfl) : PS3 X (.For tg iter body [] pos) (tFor wi g tb) := by
 intro pins s τ G H D I h
 refine wpAny_For (thn (hi pins s τ G H _ I h) fun v s1 h1 => thn h1 fun itv s2 h2 => ?_) hs
 obtain ⟨it, fp, tn, J, xs, stay, G2, H2, e, eH, I2, T0, st2, f2, IT, P, p0, hstay, turn, fin⟩ := h2
 subst e
 have stat : ∀ {H' : Hp}, (∀ b ∈ fp, H' b = none) → ∀ b ∈ fp, FpOk X pins H' b := fun hn b hb => ⟨hn b hb, (f2 b hb).2⟩
 refine codeAny_forLoop_any (fun n s' => ∃ i τ' G' H', n = xs.length - i ∧ i ≤ xs.length ∧ Ext H2 H' ∧ Inv3 X pins τ' G' H' s' ∧ tn i s'.heap ∧ (∀ b ∈ fp, H' b = none) ∧ P i τ' G') ?_ xs.length ⟨0, τ, G2, H2, rfl, Nat.zero_le _, .refl _, I2, st2, fun b hb => (f2 b hb).1, p0⟩
 rintro n s3 ⟨i, τ3, G3, H3, en, hi3, e3, ⟨σ3, I3, hs3, hg3⟩, st3, fr3, p3⟩
 obtain ⟨go, stop, yl⟩ := IT i H3 G3 e3 hg3 (hstay i τ3 G3 hi3 p3)
 by_cases hlt : i < xs.length
 ·refine wpAny_passesOwn hp (thn (T0.item X rfl rfl rfl hc i pins s3 σ3 H3 X.xe I3 (stat fr3) st3 (go hlt)) fun r s4 ⟨u, hr, h4⟩ => ?_)
  subst hr
  refine wpAny_passesOwn hp (thn h4 fun _ s5 ⟨x, H5, I5, r5, y5, st5, fr5⟩ => ?_)
  obtain ⟨e5, g5, t, ht, rt⟩ := yl hlt x H5 y5
  have I5' := I5.pinned (stat fr5) (T0.obj _ _ st5)
  refine wpAny_passesOwn hp (thn (hg _ s5 τ3 G3 H5 t u _ ⟨σ3, I5', hs3.mono e5, g5⟩ ⟨x, rt, r5⟩ (turn i t τ3 G3 ht p3)) fun _ s6 ⟨τ6, G6, H6, e6, I6, q6⟩ => ?_)
  refine wpAny_passesOwn hp (thn (hb _ s6 τ6 G6 H6 _ I6 q6) fun f s7 q7 => ?_)
  have e36 : Ext H2 H6 := (e3.trans e5).trans e6
  have again : ∀ {τ7 : St3} {G7 : Gp} {H7 : Hp}, Ext H6 H7 → Inv3 X (pins ++ pinsAt fp s5.heap) τ7 G7 H7 s7 → P (i + 1) τ7 G7 →
    ∃ m, m < n ∧ ∃ i τ' G' H', m = xs.length - i ∧ i ≤ xs.length ∧ Ext H2 H' ∧ Inv3 X pins τ' G' H' s7 ∧ tn i s7.heap ∧ (∀ b ∈ fp, H' b = none) ∧ P i τ' G' := fun {τ7 G7 H7} e7 ⟨σ7, I7, hs7, hg7⟩ p7 => by
   refine ⟨xs.length - (i + 1), by omega, i + 1, τ7, G7, H7, rfl, hlt, e36.trans e7, ⟨σ7, I7.unpinned, hs7, hg7⟩, T0.keep _ _ _ st5 fun b hb o e => (I7.pin (b, o) (List.mem_append_right _ (List.mem_append_right _ (mem_pinsAt hb e)))).1, fun b hb => ?_, p7⟩
   obtain ⟨o, e, d⟩ := T0.obj _ _ st5 b hb
   exact (I7.pin (b, o) (List.mem_append_right _ (List.mem_append_right _ (mem_pinsAt hb e)))).2.1
  have un : ∀ {τ7 : St3} {G7 : Gp} {H7 : Hp}, Inv3 X (pins ++ pinsAt fp s5.heap) τ7 G7 H7 s7 → Inv3 X pins τ7 G7 H7 s7 := fun ⟨σ7, I7, a, b⟩ => ⟨σ7, I7.unpinned, a, b⟩
  cases f with
  | next => obtain ⟨τ7, G7, H7, e7, I7, n7⟩ := q7; exact again e7 I7 n7
  | cont => obtain ⟨τ7, G7, H7, e7, I7, n7⟩ := q7; exact again e7 I7 n7
  | brk => obtain ⟨τ7, G7, H7, e7, I7, q7⟩ := q7; exact ⟨τ7, G7, H7, (eH.trans e36).trans e7, un I7, q7⟩
  | ret v => obtain ⟨x7, τ7, G7, H7, e7, I7, r7, q7⟩ := q7; exact ⟨x7, τ7, G7, H7, (eH.trans e36).trans e7, un I7, r7, q7⟩
 ·have ei : i = xs.length := by omega
  refine wpAny_passesOwn hp (thn (T0.done X rfl rfl rfl hc i pins s3 σ3 H3 X.xe I3 (stat fr3) st3 (stop (by omega))) fun r s4 ⟨hr, I4⟩ => ?_)
  subst hr; subst ei
  exact wpAny_execs_nil ⟨τ3, G3, H3, eH.trans e3, ⟨σ3, I4, hs3, hg3⟩, fin τ3 G3 p3⟩
noncomputable def iSeq (tl : TE3) : TI3 := fun τ G R => tl τ G fun x G1 => ∃ xs, seqT G1 x = some xs ∧ R xs (fun G' => seqT G' x = some xs) G1
theorem i_seq {l : Expr} {tl : TE3} (hl : PE3 X l tl) : PI3 X tg l (iSeq tl) := by
 intro pins s τ G H R I h
 refine thn (hl pins s τ G H _ I h) fun v s1 w_ => w_.el fun x G1 H1 e1 i_ r_ ⟨xs, hx, q⟩ => i_.el fun σ I1 hs1 hg1 => r_.el fun a ra rv => ?_
 obtain ⟨p, vs, e, hq, r⟩ := seq_cases hg1 ra hx
 subst e
 cases rv
 have fpk : ∀ b ∈ [s1.heap.objs.size], FpOk X pins H1 b := fun b hb => by
  have e : b = s1.heap.objs.size := by simpa using hb
  subst e
  exact I1.fpOk (Nat.le_refl _) (I1.hok.fresh (Nat.le_refl _))
 rcases hq with hq | hq
 ·obtain ⟨its, rv, pl, hz⟩ := I1.list hq
  refine wpAny_pyIter_list pl.isList ?_
  refine ⟨s1.heap.objs.size, [s1.heap.objs.size], _, _, xs, fun G' => seqT G' x = some xs, G1, H1, rfl, e1, ⟨σ, I1.kept (t' := s1.toks) fun b o e => Heap.get?_push_of_some _ e, hs1, hg1⟩, turn_list p _, ⟨_, Heap.get?_push_size _ rfl, rfl, rfl⟩, fpk, ?_, q⟩
  intro i H2 G2 e2 g2 st
  have ra2 := Rep.mono e2 _ ra
  have now : ∃ ws, SqL X.K H2 p ws ∧ Reps X.K H2 xs ws := by
   cases x with
   | scr ys => cases hx; obtain ⟨p', ws, ep, h1, h2⟩ := (show ∃ p' ws, V.ref p = .ref p' ∧ FrL X.K H2 p' ws ∧ Reps X.K H2 xs ws from ra2); cases ep; exact ⟨ws, h1.sq, h2⟩
   | ref p' => cases (show V.ref p = .ref p' from ra); obtain ⟨ws, h1, h2⟩ := g2.lst (asL_some st); exact ⟨ws, .of h1, h2⟩
   | tup ys =>
    obtain ⟨p', ws, ep, h1, h2⟩ := (show ∃ p' ws, V.ref p = .ref p' ∧ H1 p' = some (.tup ws) ∧ Reps X.K H1 ys ws from ra)
    cases ep
    exfalso
    obtain ⟨its', _, pl', _⟩ := I1.tuple (.of h1)
    obtain ⟨o, n, ho, hc, _⟩ := pl
    obtain ⟨o', ho', hc', _⟩ := pl'
    rw [ho] at ho'; cases ho'
    rw [hc] at hc'; exact absurd hc' (by decide)
   | non => cases hx
   | bl _ => cases hx
   | int _ => cases hx
   | str _ => cases hx
   | ty _ => cases hx
  obtain ⟨ws, h1, h2⟩ := now
  have hlen := h2.length
  refine ⟨fun hi => ?_, fun hi => ⟨ws, h1, by omega⟩, fun _ y H' ⟨eH, hy⟩ => ?_⟩
  ·exact ⟨ws, ws[i]'(by omega), h1, by simp [hlen ▸ hi]⟩
  ·subst eH
   obtain ⟨t, ht, rt⟩ := h2.get' (hy ws h1)
   exact ⟨.refl _, g2, t, ht, rt⟩
 ·obtain ⟨its, rv, pl, hz⟩ := I1.tuple hq
  refine wpAny_pyIter_tuple (show s1.heap.IsTuple p its.toArray from pl) ?_
  refine ⟨s1.heap.objs.size, [s1.heap.objs.size], _, _, xs, fun G' => seqT G' x = some xs, G1, H1, rfl, e1, ⟨σ, I1.kept (t' := s1.toks) fun b o e => Heap.get?_push_of_some _ e, hs1, hg1⟩, turn_tuple p _, ⟨_, Heap.get?_push_size _ rfl, rfl, rfl⟩, fpk, ?_, q⟩
  intro i H2 G2 e2 g2 st
  have ra2 := Rep.mono e2 _ ra
  have now : ∃ ws, H2 p = some (.tup ws) ∧ Reps X.K H2 xs ws := by
   cases x with
   | tup ys => cases hx; obtain ⟨p', ws, ep, h1, h2⟩ := (show ∃ p' ws, V.ref p = .ref p' ∧ H2 p' = some (.tup ws) ∧ Reps X.K H2 xs ws from ra2); cases ep; exact ⟨ws, h1, h2⟩
   | scr ys =>
    obtain ⟨p', ws, ep, h1, h2⟩ := (show ∃ p' ws, V.ref p = .ref p' ∧ FrL X.K H1 p' ws ∧ Reps X.K H1 ys ws from ra)
    cases ep
    exfalso
    obtain ⟨its', _, pl', _⟩ := I1.list h1.sq
    obtain ⟨o, n, ho, hc, _⟩ := pl'
    obtain ⟨o', ho', hc', _⟩ := pl
    rw [ho] at ho'; cases ho'
    rw [hc] at hc'; exact absurd hc' (by decide)
   | ref p' =>
    cases (show V.ref p = .ref p' from ra)
    obtain ⟨ws, h1, h2⟩ := hg1.lst (asL_some hx)
    exfalso
    obtain ⟨its', _, pl', _⟩ := I1.list (.of h1)
    obtain ⟨o, n, ho, hc, _⟩ := pl'
    obtain ⟨o', ho', hc', _⟩ := pl
    rw [ho] at ho'; cases ho'
    rw [hc] at hc'; exact absurd hc' (by decide)
   | non => cases hx
   | bl _ => cases hx
   | int _ => cases hx
   | str _ => cases hx
   | ty _ => cases hx
  obtain ⟨ws, h1, h2⟩ := now
  have hlen := h2.length
  refine ⟨fun hi => ?_, fun hi => ⟨ws, .of h1, by omega⟩, fun _ y H' ⟨eH, hy⟩ => ?_⟩
  ·exact ⟨ws, ws[i]'(by omega), .of h1, by simp [hlen ▸ hi]⟩
  ·subst eH
   obtain ⟨t, ht, rt⟩ := h2.get' (hy ws (.of h1))
   exact ⟨.refl _, g2, t, ht, rt⟩
noncomputable def rngT (lo : Int) (n : Nat) : List T := (List.range n).map fun (k : Nat) => T.int (lo + k)
noncomputable def iRng1 (ta : TA3) : TI3 := fun τ G R => ta τ G fun vs G1 => ∃ j : Int, vs = [.int j] ∧ -(2 ^ 62) ≤ j ∧ j < 2 ^ 62 ∧ R (rngT 0 j.toNat) (fun _ => True) G1
theorem items_rng {K : PySem.W.Frag} {H : Hp} (lo : Int) (n : Nat) : Items K H (Itr lo n) (rngT lo n) fun _ => True := by
 intro i H' G e g _
 have hl : (rngT lo n).length = n := by simp [rngT]
 refine ⟨fun h => by rw [hl] at h; exact h, fun h => by rw [hl] at h; exact h, fun hi x H2 ⟨eH, ex⟩ => ?_⟩
 rw [hl] at hi
 subst eH; subst ex
 exact ⟨.refl _, g, .int (lo + i), by simp [rngT, hi], rfl⟩
theorem i_range1 {a : Expr} {ta : TA3} {p : Pos} (hg : Gl X "range") (hm : X.mg "range" = none) (ha : PA3 X [a] ta) (hs : starEach [a] X.env = [(false, eval a X.env)] := by rfl) : PI3 X tg (.Call (.Name "range" p) [a] [] pos) (iRng1 ta) := by
 intro pins s τ G H R I h
 obtain ⟨σ, I0, hs0, hg0⟩ := id I
 refine Call_ (ld_blt I0 hg hm boot_range (PyProof.Rows.callWith_type1 (thn (ha pos pins s τ G H _ I h) fun us s1 w_ => w_.el fun xs G1 H1 e1 i_ r_ q1 => i_.el fun σ I1 hs1 hg1 => r_.el fun as ras rvs => ?_) hs rfl))
 obtain ⟨j, e, q1, q2, q⟩ := q1
 subst e
 obtain ⟨v, rfl, rv⟩ := reps1 ras
 cases (show v = .int j from rv)
 obtain ⟨u, rfl, ru⟩ := rvs.one
 obtain ⟨t, rfl⟩ := ru
 refine call_range_1 (thn (range_it (tg := tg) (R := fun J H' => J = Itr 0 j.toNat ∧ H' = H1) I1 (by omega) (by omega) q1 q2 ⟨by simp, rfl⟩) fun itv s2 z => ?_)
 obtain ⟨it, fp, tn, J, H', ei, I2, T0, st, fk, eJ, eH⟩ := z
 subst eJ; subst eH
 exact ⟨it, fp, tn, _, rngT 0 j.toNat, fun _ => True, G1, H', ei, e1, ⟨σ, I2, hs1, hg1⟩, T0, st, fk, items_rng 0 j.toNat, q⟩
end
noncomputable abbrev Sp3 := List T → Gp → VK3 → Prop
noncomputable def dn (K : PySem.W.Frag) (n : Nat) (sp : Sp3) : Sp := fun vs H Q _ => vs.length = n ∧ ∃ xs G, Reps K H xs vs ∧ GRel K H G ∧ sp xs G fun t G' => ∀ v H', Ext H H' → GRel K H' G' → Rep K H' t v → Q v H'
noncomputable def Fn3 (P : Program) (w : World) (K : PySem.W.Frag) (mg : Str → Option Value) (base : Heap) (k : Nat) (f : Addr) (fd : FuncData) (ps : List Str) (sp : Sp3) : Prop := FnOk P w K mg base CX0 k f fd ps (dn K ps.length sp)
noncomputable def tCall (sp : Sp3) (t : TA3) : TE3 := fun τ G Q => t τ G fun xs G1 => sp xs G1 Q
noncomputable def Mono (sp : Sp3) : Prop := ∀ xs G Q Q', (∀ t G', Q t G' → Q' t G') → sp xs G Q → sp xs G Q'
noncomputable def start3 (N : List Str) (xs : List T) : St3 := xs.map some ++ List.replicate (N.length - xs.length) none
theorem start_rel {K : PySem.W.Frag} {H : Hp} {N : List Str} {xs : List T} {vs : List V} (r : Reps K H xs vs) : SRel K H (start N vs) (start3 N xs) := by
 have hl := r.length
 refine ⟨by simp [L2.start, start3, hl], fun i t h => ?_⟩
 unfold start3 at h
 unfold L2.start
 by_cases hi : i < xs.length
 ·rw [List.getElem?_append_left (by simpa using hi), List.getElem?_map] at h
  cases e : xs[i]? with
  | none => rw [e] at h; cases h
  | some x =>
   rw [e] at h; cases h
   obtain ⟨v, hv, rv⟩ := r.get e
   exact ⟨v, by rw [List.getElem?_append_left (by simp; omega), List.getElem?_map, hv]; rfl, rv⟩
 ·rw [List.getElem?_append_right (by simpa using hi), List.getElem?_replicate] at h
  split at h <;> cases h
theorem fn3 {P : Program} {w : World} {K : PySem.W.Frag} {mg : Str → Option Value} {base : Heap} {x qual : Str} {st : Stmt} {f : Addr} {fd : FuncData} {N ps : List Str} {k : Nat} {sp : Sp3} (F : Fun K x qual st f fd) (S : FnScope N ps (defScope st))
  (hbody : ∀ (cdv : Value) (A : Around) (outer : List Env) (s : Shared) (H : Hp) (E : XK), Room k (A.deeper (envOfC qual (defScope st) s.heap.objs.size f cdv)) →
   ∃ t, PSs3 (cxOf CX0 P w K mg base N qual (defScope st) f cdv A outer s H E).nox (defBody st) t ∧ ∀ xs G Q, sp xs G Q → t { nx := fun _ G' => Q .non G', rt := Q } (start3 N xs) G) : Fn3 P w K mg base (k + 1) f fd ps sp := by
 refine Fun.ok (sp := dn K ps.length sp) F S (fun vs H Q E h => h.1) fun cdv A outer s H vs Q E hr hsp => ?_
 obtain ⟨t, ht, hq⟩ := hbody cdv A outer s H E hr
 obtain ⟨hl, xs, G, rs, hg, hsp⟩ := hsp
 refine ⟨fun D σ H1 => D.nx = (fun _ H' => Q .non H') ∧ D.rt = Q ∧ σ = L2.start N vs ∧ H1 = H, ?_, rfl, rfl, rfl, rfl⟩
 intro pins s1 σ1 H1 D I ⟨e1, e2, e3, e4⟩
 subst e3; subst e4
 have I3 : Inv3 (cxOf CX0 P w K mg base N qual (defScope st) f cdv A outer s H1 E).nox pins (start3 N xs) G H1 s1 := ⟨_, I, start_rel rs, hg⟩
 refine thn (ht pins s1 _ G H1 _ I3 (hq xs G _ hsp)) fun fl s2 z => ?_
 cases fl with
 | next => obtain ⟨τ', G', H', e', ⟨σ', I', a, b⟩, q⟩ := z; exact ⟨σ', H', I', by rw [e1]; exact q .non H' e' b rfl⟩
 | brk => obtain ⟨τ', G', H', e', _, q⟩ := z; exact q.elim
 | cont => obtain ⟨τ', G', H', e', _, q⟩ := z; exact q.elim
 | ret u => obtain ⟨x', τ', G', H', e', ⟨σ', I', a, b⟩, ⟨v, rv, ru⟩, q⟩ := z; exact ⟨v, σ', H', I', ru, by rw [e2]; exact q v H' e' b rv⟩
end L3
namespace L3
open PySem PySem.Spec PyProof.Rows L2
mutual
noncomputable def dep : T → Nat
 | .tup xs => deps xs + 1
 | _ => 0
noncomputable def deps : List T → Nat
 | [] => 0
 | x :: xs => max (dep x) (deps xs)
end
mutual
noncomputable def tree : T → Bool
 | .tup xs => trees xs
 | .ref _ => false
 | .scr _ => false
 | .ty _ => false
 | .non => true
 | .bl _ => true
 | .int _ => true
 | .str _ => true
noncomputable def trees : List T → Bool
 | [] => true
 | x :: xs => tree x && trees xs
end
mutual
noncomputable def eqT : T → T → Bool
 | .non, .non => true
 | .bl a, .bl b => a == b
 | .bl a, .int b => (if a then 1 else 0) == b
 | .int a, .bl b => a == (if b then 1 else 0)
 | .int a, .int b => a == b
 | .str a, .str b => a == b
 | .tup xs, .tup ys => eqTs xs ys
 | _, _ => false
noncomputable def eqTs : List T → List T → Bool
 | [], [] => true
 | x :: xs, y :: ys => eqT x y && eqTs xs ys
 | [], _ :: _ => false
 | _ :: _, [] => false
end
mutual
theorem eqT_same {K : PySem.W.Frag} {H : Hp} : ∀ (x y : T) {a : V}, tree x = true → tree y = true → Rep K H x a → Rep K H y a → eqT x y = true
 | .non, y, a, hx, hy, r, q => by
  cases (show a = .non from r)
  cases y <;> first | rfl | (exact absurd (show false = true from hy) Bool.false_ne_true) | (cases (show V.non = _ from q)) | (obtain ⟨_, _, e, _⟩ := (show ∃ c vs, V.non = .ref c ∧ _ from q); cases e)
 | .bl b, y, a, hx, hy, r, q => by
  cases (show a = .bl b from r)
  cases y with
  | bl c => cases (show V.bl b = V.bl c from q); simp [eqT]
  | tup ys => obtain ⟨_, _, e, _⟩ := (show ∃ c vs, V.bl b = .ref c ∧ _ from q); cases e
  | non => cases (show V.bl b = .non from q)
  | int c => cases (show V.bl b = .int c from q)
  | str c => cases (show V.bl b = .str c from q)
  | _ => exact absurd (show false = true from hy) Bool.false_ne_true
 | .int b, y, a, hx, hy, r, q => by
  cases (show a = .int b from r)
  cases y with
  | int c => cases (show V.int b = V.int c from q); simp [eqT]
  | tup ys => obtain ⟨_, _, e, _⟩ := (show ∃ c vs, V.int b = .ref c ∧ _ from q); cases e
  | non => cases (show V.int b = .non from q)
  | bl c => cases (show V.int b = .bl c from q)
  | str c => cases (show V.int b = .str c from q)
  | _ => exact absurd (show false = true from hy) Bool.false_ne_true
 | .str b, y, a, hx, hy, r, q => by
  cases (show a = .str b from r)
  cases y with
  | str c => cases (show V.str b = V.str c from q); simp [eqT]
  | tup ys => obtain ⟨_, _, e, _⟩ := (show ∃ c vs, V.str b = .ref c ∧ _ from q); cases e
  | non => cases (show V.str b = .non from q)
  | bl c => cases (show V.str b = .bl c from q)
  | int c => cases (show V.str b = .int c from q)
  | _ => exact absurd (show false = true from hy) Bool.false_ne_true
 | .tup xs, y, a, hx, hy, r, q => by
  obtain ⟨p, vs, e, h1, h2⟩ := (show ∃ p vs, a = .ref p ∧ H p = some (.tup vs) ∧ Reps K H xs vs from r)
  subst e
  cases y with
  | tup ys =>
   obtain ⟨p', vs', e', h1', h2'⟩ := (show ∃ p' vs', V.ref p = .ref p' ∧ H p' = some (.tup vs') ∧ Reps K H ys vs' from q)
   cases e'
   rw [h1] at h1'; cases h1'
   exact eqTs_same xs ys (show trees xs = true from hx) (show trees ys = true from hy) h2 h2'
  | non => cases (show V.ref p = .non from q)
  | bl c => cases (show V.ref p = .bl c from q)
  | int c => cases (show V.ref p = .int c from q)
  | str c => cases (show V.ref p = .str c from q)
  | _ => exact absurd (show false = true from hy) Bool.false_ne_true
 | .ref _, _, _, hx, _, _, _ => absurd (show false = true from hx) Bool.false_ne_true
 | .scr _, _, _, hx, _, _, _ => absurd (show false = true from hx) Bool.false_ne_true
 | .ty _, _, _, hx, _, _, _ => absurd (show false = true from hx) Bool.false_ne_true
theorem eqTs_same {K : PySem.W.Frag} {H : Hp} : ∀ (xs ys : List T) {vs : List V}, trees xs = true → trees ys = true → Reps K H xs vs → Reps K H ys vs → eqTs xs ys = true
 | [], ys, _, _, _, r, q => by
  cases r
  cases ys with
  | nil => rfl
  | cons y ys => obtain ⟨_, _, e, _⟩ := q; cases e
 | x :: xs, ys, _, hx, hy, ⟨v, ws, e, r1, r2⟩, q => by
  subst e
  cases ys with
  | nil => cases q
  | cons y ys =>
   obtain ⟨v', ws', e', q1, q2⟩ := q
   cases e'
   have hx' : tree x = true ∧ trees xs = true := by simpa [trees] using hx
   have hy' : tree y = true ∧ trees ys = true := by simpa [trees] using hy
   show (eqT x y && eqTs xs ys) = true
   rw [eqT_same x y hx'.1 hy'.1 r1 q1, eqTs_same xs ys hx'.2 hy'.2 r2 q2]
   rfl
end
end L3
namespace L3
open PySem PySem.Spec PyProof.Rows L2
section
variable {X : Cx}
noncomputable def rSub : R3 := rI0 fun i j => .int (i - j)
noncomputable def rMod : R3 := rI (fun _ j => 0 < j) fun i j => .int (i % j)
noncomputable def rFdiv : R3 := rI CDiv fun i j => .int (i / j)
noncomputable def rPow : R3 := rI CPow fun i j => .int (i ^ j.toNat)
noncomputable def rLt : R3 := rI0 fun i j => .bl (decide (i < j))
noncomputable def rGt : R3 := rI0 fun i j => .bl (decide (j < i))
noncomputable def rGe : R3 := rI0 fun i j => .bl (decide (j ≤ i))
noncomputable def rIsN : R3 := fun x y G Q => y = .non ∧ Q (.bl (isNon x)) G
noncomputable def rNotN : R3 := fun x y G Q => y = .non ∧ Q (.bl (!isNon x)) G
noncomputable def rCatT : R3 := fun x y G Q => ∃ xs ys, x = .tup xs ∧ y = .tup ys ∧ xs ≠ [] ∧ xs.length + ys.length ≤ sizeLine ∧ Q (.tup (xs ++ ys)) G
theorem o_catT : Op3 X (binaryOp .Add) rCatT :=
 Op3.of op_catT fun H G x y a b Q hg ra rb ⟨xs, ys, ex, ey, hx, hz, q⟩ => by
  subst ex; subst ey
  obtain ⟨p, vs, e1, h1, h2⟩ := (show ∃ p vs, a = .ref p ∧ H p = some (.tup vs) ∧ Reps X.K H xs vs from ra)
  obtain ⟨p', ws, e2, h3, h4⟩ := (show ∃ p vs, b = .ref p ∧ H p = some (.tup vs) ∧ Reps X.K H ys vs from rb)
  subst e1; subst e2
  have l1 := h2.length
  have l2 := h4.length
  refine ⟨p, p', vs, ws, rfl, rfl, .of h1, .of h3, fun z => hx ?_, by omega, fun z => ?_, fun z l hl => ?_⟩
  ·rw [z] at l1; exact List.length_eq_zero_iff.mp l1
  ·rw [z] at l2
   have : ys = [] := List.length_eq_zero_iff.mp l2
   subst this
   exact ⟨.tup (xs ++ []), G, .refl H, hg, by rw [List.append_nil]; exact ra, q⟩
  ·exact ⟨.tup (xs ++ ys), G, .upd (.none hl), hg.tupNew hl, Rep.tupNew (h2.append h4) hl, q⟩
noncomputable def rAddI : R3 := rI0 fun i j => .int (i + j)
noncomputable def rAddA : R3 := fun x y G Q => rAddI x y G Q ∨ rCat x y G Q ∨ rCatT x y G Q
theorem o_addA : Op3 X (binaryOp .Add) rAddA := o_add.or (o_cat.or o_catT)
noncomputable def rMulI : R3 := rI CMul fun i j => .int (i * j)
noncomputable def rMulA : R3 := fun x y G Q => rMulI x y G Q ∨ rRep x y G Q
theorem o_mulA : Op3 X (binaryOp .Mult) rMulA := o_mul.or o_rep
noncomputable def rNeg : T → Gp → VK3 → Prop := fun x G Q => ∃ i, x = .int i ∧ Q (.int (-i)) G
theorem u_neg : Un3 X (unaryOp .USub) rNeg :=
 Un3.of un_neg fun H G x a Q hg ra ⟨i, e, q⟩ => by
  subst e; cases (show a = .int i from ra)
  exact ⟨i, rfl, .int (-i), G, .refl H, hg, rfl, q⟩
theorem nomark3 (b : Expr) {op : CmpOp} (h : behindInMarks op b = false := by first | exact nomark _ | with_unfolding_all rfl) : behindInMarks op b = false := h
variable {a b c : Expr} {ta tb tc : TE3} {pos : Pos}
theorem t_chain {op op' : CmpOp} {r r' : R3} (ho : Op3 X (compareOp op) r) (ho' : Op3 X (compareOp op') r') (ha : PE3 X a ta) (hb : PE3 X b tb) (hc : PE3 X c tc)
  (hm : lastMarks [op, op'] [b, c] = false := by with_unfolding_all rfl) : PT3 X (.Compare a [op, op'] [b, c] pos) (tTest (tChain r r' ta tb tc)) := by
 intro pins s τ G H Q I h
 refine isTrue_chain (thn (ha pins s τ G H _ I h) fun v s1 w_ => w_.el fun x G1 H1 e1 I1 r1 q1 => test_link (thn (hb pins s1 τ G1 H1 _ I1 q1) fun u s2 ⟨y, G2, H2, e2, I2, r2, q2⟩ =>
  thn (ho pins s2 τ G2 H2 x y v u _ I2 (r1.mono e2) r2 q2) fun d s3 w_ => w_.el fun z G3 H3 e3 I3 r_ ⟨k, e, q3⟩ => r_.el fun v' rv' ru' => ?_)) hm
 subst e
 cases (show v' = .bl k from rv'); cases ru'
 refine wpAny_truthy_bool ?_
 cases k with
 | false =>
  obtain ⟨k', e', q'⟩ := q3
  cases e'
  exact ite_ff ⟨G3, H3, (e1.trans e2).trans e3, I3, q'⟩
 | true =>
  refine ite_tt (test_last (thn (hc pins s3 τ G3 H3 _ I3 q3) fun w' s4 w_ => w_.el fun z' G4 H4 e4 I4 r4 q4 => thn (ho' pins s4 τ G4 H4 y z' u w' _ I4 (r2.mono (e3.trans e4)) r4 q4) fun d' s5 w_ => w_.el fun z2 G5 H5 e5 I5 r_ ⟨k2, e2', q5⟩ => r_.el fun v2 rv2 ru2 => ?_))
  subst e2'
  cases (show v2 = .bl k2 from rv2); cases ru2
  exact wpAny_truthy_bool ⟨G5, H5, (((e1.trans e2).trans e3).trans e4).trans e5, I5, q5⟩
mutual
noncomputable def td : T → PyData
 | .tup xs => .tuple (tds xs)
 | .int i => .int i
 | .bl b => .bool b
 | .str x => .str x
 | .non => .none
 | .ref _ => .none
 | .scr _ => .none
 | .ty _ => .none
noncomputable def tds : List T → List PyData
 | [] => []
 | x :: xs => td x :: tds xs
end
noncomputable def eqOk (x : T) : Bool := tree x && (td x).canLay0 && decide ((td x).depth ≤ 50)
noncomputable def eqOks (xs : List T) : Bool := trees xs && PyData.canLayAll0 (tds xs) && decide ((PyData.list (tds xs)).depth ≤ 50)
noncomputable def eqG (G : Gp) (x y : T) : Option Bool := match x, y with
 | .ref p, .ref q => match G p, G q with
  | some (.lst xs), some (.lst ys) => if eqOks xs = true ∧ eqOks ys = true then some (eqTs xs ys) else none
  | _, _ => none
 | _, _ => if eqOk x = true ∧ eqOk y = true then some (eqT x y) else none
noncomputable def rEqA : R3 := fun x y G Q => ∃ b, eqG G x y = some b ∧ Q (.bl b) G
noncomputable def rNeA : R3 := fun x y G Q => ∃ b, eqG G x y = some b ∧ Q (.bl (!b)) G
noncomputable def truT (G : Gp) : T → Option Bool
 | .non => some false
 | .bl b => some b
 | .int i => some (i != 0)
 | .tup xs => some (!xs.isEmpty)
 | .ref p => match G p with
  | some (.lst xs) => some (!xs.isEmpty)
  | some (.dck kvs) => some (!kvs.isEmpty)
  | _ => none
 | _ => none
noncomputable def rTru : T → Gp → (Bool → Gp → Prop) → Prop := fun x G Q => ∃ b, truT G x = some b ∧ Q b G
theorem isEmpty_reps {K : PySem.W.Frag} {H : Hp} {xs : List T} {vs : List V} (r : Reps K H xs vs) : xs.isEmpty = vs.isEmpty := by
 have := r.length
 cases xs <;> cases vs <;> simp_all
theorem tru_any : Tru3 X rTru :=
 Tru3.of tru_ok fun H G x a Q hg ra ⟨b, hb, q⟩ => by
  refine ⟨b, ?_, rfl, q⟩
  cases x with
  | non => cases (show a = .non from ra); cases hb; rfl
  | bl k => cases (show a = .bl k from ra); cases hb; rfl
  | int k => cases (show a = .int k from ra); cases hb; rfl
  | tup xs =>
   obtain ⟨p, vs, e1, h1, h2⟩ := (show ∃ p vs, a = .ref p ∧ H p = some (.tup vs) ∧ Reps X.K H xs vs from ra)
   subst e1; cases hb
   exact .inr (.inl ⟨vs, .of h1, by rw [isEmpty_reps h2]⟩)
  | ref p =>
   cases (show a = .ref p from ra)
   cases hG : G p with
   | none => simp only [truT, hG] at hb; cases hb
   | some o =>
    simp only [truT, hG] at hb
    cases o with
    | lst xs => cases hb; obtain ⟨vs, h1, h2⟩ := hg.lst hG; exact .inl ⟨vs, .of h1, by rw [isEmpty_reps h2]⟩
    | dct _ => cases hb
    | dck kvs =>
     cases hb
     obtain ⟨ws, h1, h2⟩ := hg p _ hG
     refine .inr (.inr ⟨ws, h1, ?_⟩)
     cases h2 <;> rfl
  | str _ => cases hb
  | scr _ => cases hb
  | ty _ => cases hb
end
end L3
namespace L3
open PySem PySem.Spec PyProof.Rows L2
section
variable {X : Cx} {pins : List (Addr × Obj)} {σ : L2.St} {H : Hp} {s : Shared} {h' : Heap}
theorem turnedL {t' : Nat} {fp : List Addr} (I : Inv X pins σ H s) (k : ∀ b o, b ∉ fp → s.heap.get? b = some o → h'.get? b = some o) (hf : ∀ b ∈ fp, FpOk X pins H b) : Inv X pins σ H { s with heap := h', toks := t' } := by
 have nit : ∀ b u, H b = some u → b ∉ fp := fun b u e z => by rw [(hf b z).1] at e; cases e
 refine I.step (g' := s.gens) (d' := s.drawn) (ch := fp) (fun b hb => ⟨(hf b hb).2.2.2.1, (hf b hb).2.1, (hf b hb).2.2.2.2.1, (hf b hb).2.2.2.2.2⟩) (fun b o _ _ hc e _ => k b o hc e) (fun b o _ _ hc e _ => ⟨o.slots, k b o hc e⟩) (fun _ _ _ _ n => n)
  (fun b o hc e => ⟨o, k b o hc e⟩) (fun _ _ e => e) (fun _ _ _ e => e) (fun b ps e => ⟨#[], by rw [e]; simp⟩) (fun m hm => ?_) (fun b u e => ?_) I.bare
 ·obtain ⟨o, es, ep, ho, r⟩ := hm
  exact ⟨o, es, ep, k _ o (fun z => (hf _ z).2.1 rfl) ho, r⟩
 ·refine (I.hok b u e).stay (fun c v hc q => k c v ?_ q) (fun _ q => q) fun _ _ q => q
  rcases hc with z | z
  ·rw [z]; exact nit b u e
  ·exact nit c _ z
theorem turnedTup {t' : Nat} {fp : List Addr} {p : Addr} {vs : List V} {us : List Value} (I : Inv X pins σ H s) (k : ∀ b o, b ∉ fp → s.heap.get? b = some o → h'.get? b = some o) (hf : ∀ b ∈ fp, FpOk X pins H b)
  (hp : s.heap.objs.size ≤ p) (ht : TupD h' p us.toArray) (r : Vals vs us) (hz : vs.length ≤ sizeLine) : Inv X pins σ (upd H p (.tup vs)) { s with heap := h', toks := t' } := by
 have hn : H p = none := I.hok.fresh hp
 have nit : ∀ b u, H b = some u → b ∉ fp := fun b u e z => by rw [(hf b z).1] at e; cases e
 have old : ∀ b o, s.heap.get? b = some o → b ≠ p := fun b o e => Nat.ne_of_lt (Nat.lt_of_lt_of_le (Heap.lt_size e) hp)
 have tr : ∀ b u, H b = some u → b ≠ p := fun b u e z => by rw [z, hn] at e; cases e
 refine I.step (g' := s.gens) (d' := s.drawn) (ch := fp) (fun b hb => ⟨(hf b hb).2.2.2.1, (hf b hb).2.1, (hf b hb).2.2.2.2.1, (hf b hb).2.2.2.2.2⟩) (fun b o _ _ hc e _ => k b o hc e) (fun b o _ _ hc e _ => ⟨o.slots, k b o hc e⟩) (fun b o _ e n => by rw [upd_ne (old b o e)]; exact n)
  (fun b o hc e => ⟨o, k b o hc e⟩) (fun b _ e => by rw [upd_ne (tr b _ e)]; exact e) (fun b _ _ e => by rw [upd_ne (tr b _ e)]; exact e) (fun b ps e => ⟨#[], by rw [upd_ne (tr b _ e), e]; simp⟩) (fun m hm => ?_) (fun b u e => ?_) I.bare
 ·obtain ⟨o, es, ep, ho, r⟩ := hm
  exact ⟨o, es, ep, k _ o (fun z => (hf _ z).2.1 rfl) ho, r⟩
 ·by_cases hb : b = p
  ·subst hb
   rw [upd_same] at e
   cases e
   exact ⟨hz, us, r, ht⟩
  ·rw [upd_ne hb] at e
   refine (I.hok b u e).stay (fun c v hc q => k c v ?_ q) (fun c q => by rw [upd_ne (tr c _ q)]; exact q) fun c _ q => by rw [upd_ne (tr c _ q)]; exact q
   rcases hc with z | z
   ·rw [z]; exact nit b u e
   ·exact nit c _ z
end
noncomputable def Ite (K : PySem.W.Frag) (a : Addr) : It :=
 ⟨fun i H => ∃ xs x, SqL K H a xs ∧ xs[i]? = some x, fun i H x H' => ∃ p y, H p = none ∧ x = .ref p ∧ (∀ xs, SqL K H a xs → xs[i]? = some y) ∧ H' = upd H p (.tup [.int i, y]), fun i H => ∃ xs, SqL K H a xs ∧ xs.length ≤ i⟩
theorem turn_enum {P : Program} {w : World} {K : PySem.W.Frag} {elts : List Expr} {k : Nat} {pos : Pos} (a e it : Addr) (hei : e ≠ it) :
  Turn P w K (.Tuple elts k pos) (Ite K a) [e, it] e (fun i h => (∃ old, IsEnum h e it i old) ∧ h.IsListIter it a i) where
 mem := by simp
 obj := fun i h ⟨⟨old, h1⟩, h2⟩ b hb => by
  have hb' : b = e ∨ b = it := by simpa using hb
  rcases hb' with z | z
  ·subst z; exact ⟨_, h1, fun v z => nomatch (show Data.fields _ = Data.cell v from z)⟩
  ·subst z
   obtain ⟨o, e2, c, d⟩ := h2
   exact ⟨o, e2, fun v z => by rw [d] at z; cases z⟩
 keep := fun i h h' ⟨⟨old, h1⟩, h2⟩ kp => ⟨⟨old, kp e (by simp) _ h1⟩, h2.at fun o q => kp it (by simp) o q⟩
 item := by
  intro X hP hw hK hc i pins s σ H E I hf ⟨⟨old, he⟩, hit⟩ hg
  subst hP hw hK
  obtain ⟨xs, x, hq, hx⟩ := hg
  obtain ⟨its, rv, p, hz⟩ := I.list hq
  obtain ⟨u, hu, ru⟩ := rv.get hx
  refine wpAny_pyNext_enum_item he hit p.isList (x := u) (by simpa using hu) hei fun h1 ho hit1 hT hsz hk => ?_
  refine ⟨_, rfl, wpAny_letOwnedTupleGo_enum ho fun h2 he2 hs2 => ?_⟩
  have hel : e < s.heap.objs.size := Heap.lt_size he
  have hp2 : ∀ b o, b ∉ [e, it] → s.heap.get? b = some o → h2.get? b = some o := fun b o hb q => by
   have hb1 : b ≠ e := fun z => hb (by simp [z])
   have hb2 : b ≠ it := fun z => hb (by simp [z])
   exact (hs2.2 b hb1).trans (hk b o hb1 hb2 q)
  have hT2 : h2.get? s.heap.objs.size = some { cls := .type "tuple", data := .seq #[.int i s.toks, u] } := (hs2.2 _ (Nat.ne_of_gt hel)).trans hT
  have I2 := turnedTup (t' := s.toks + 1) (h' := h2) (p := s.heap.objs.size) (vs := [.int i, x]) (us := [.int i s.toks, u]) I hp2 hf (Nat.le_refl _) ⟨_, hT2, rfl, _, rfl, rfl⟩ (.cons ⟨_, rfl⟩ (.cons ru .nil)) (by show 2 ≤ sizeLine; decide)
  refine ⟨.ref s.heap.objs.size, _, I2, rfl, ⟨_, x, I.hok.fresh (Nat.le_refl _), rfl, fun ys hy => by rw [I.list_inj hy hq]; exact hx, rfl⟩, ⟨⟨u, by simpa using he2⟩, hit1.at fun o q => (hs2.2 it hei.symm).trans q⟩, fun b hb => ?_⟩
  have hbs : ∃ o, s.heap.get? b = some o := by
   have hb' : b = e ∨ b = it := by simpa using hb
   rcases hb' with z | z
   ·subst z; exact ⟨_, he⟩
   ·subst z; obtain ⟨o, q, _⟩ := hit; exact ⟨o, q⟩
  obtain ⟨o, q⟩ := hbs
  rw [upd_ne (Nat.ne_of_lt (Heap.lt_size q))]
  exact (hf b hb).1
 done := by
  intro X hP hw hK hc i pins s σ H E I hf ⟨⟨old, he⟩, hit⟩ hg
  subst hP hw hK
  obtain ⟨xs, hq, hx⟩ := hg
  obtain ⟨its, rv, p, hz⟩ := I.list hq
  have hl := rv.length
  exact wpAny_pyNext_enum_end (I.ok.hd hc) he hit p.isList (by simp; omega) fun h1 hx1 => ⟨rfl, turnedL (t' := s.toks) I (fun b o hb q => hx1 b o (fun z => hb (by simp [z])) q) hf⟩
 self := fun _ _ _ _ _ ⟨⟨old, he⟩, _⟩ h => wpAny_pyIter_enum he h
noncomputable def numT (xs : List T) : List T := (List.range xs.length).map fun (i : Nat) => T.tup [.int i, xs.getD i .non]
theorem numT_get {xs : List T} {i : Nat} {x : T} (h : xs[i]? = some x) : (numT xs)[i]? = some (.tup [.int i, x]) := by
 have hi : i < xs.length := by
  rcases Nat.lt_or_ge i xs.length with z | z
  ·exact z
  ·rw [List.getElem?_eq_none z] at h; cases h
 have hx : xs[i] = x := (List.getElem?_eq_some_iff.mp h).2
 simp [numT, hi, List.getD, hx]
theorem numT_length {xs : List T} : (numT xs).length = xs.length := by simp [numT]
noncomputable def listT (G : Gp) : T → Option (List T)
 | .ref p => asL (G p)
 | .scr xs => some xs
 | _ => none
theorem list_now {K : PySem.W.Frag} {H : Hp} {G : Gp} {x : T} {a : V} {xs : List T} (hg : GRel K H G) (r : Rep K H x a) (h : listT G x = some xs) : ∃ p vs, a = .ref p ∧ SqL K H p vs ∧ Reps K H xs vs := by
 cases x with
 | scr ys => cases h; obtain ⟨p, vs, e, h1, h2⟩ := (show ∃ p vs, a = .ref p ∧ FrL K H p vs ∧ Reps K H xs vs from r); exact ⟨p, vs, e, h1.sq, h2⟩
 | ref p =>
  obtain ⟨vs, h1, h2⟩ := hg.lst (asL_some h)
  exact ⟨p, vs, r, .of h1, h2⟩
 | tup _ => cases h
 | non => cases h
 | bl _ => cases h
 | int _ => cases h
 | str _ => cases h
 | ty _ => cases h
noncomputable def iEnum (ta : TA3) : TI3 := fun τ G R => ta τ G fun vs G1 => ∃ x xs, vs = [x] ∧ listT G1 x = some xs ∧ R (numT xs) (fun G' => listT G' x = some xs) G1
theorem i_enum {X : Cx} {elts : List Expr} {k : Nat} {tpos pos p : Pos} {a : Expr} {ta : TA3} (hg : Gl X "enumerate") (hm : X.mg "enumerate" = none) (hv : bootBuiltins "enumerate" = some (.type "enumerate")) (ha : PA3 X [a] ta) (hs : starEach [a] X.env = [(false, eval a X.env)] := by rfl) :
  PI3 X (.Tuple elts k tpos) (.Call (.Name "enumerate" p) [a] [] pos) (iEnum ta) := by
 intro pins s τ G H R I h
 obtain ⟨σ0, I0, hs0, hg0⟩ := id I
 refine Call_ (ld_blt I0 hg hm hv (PyProof.Rows.callWith_type1 (thn (ha pos pins s τ G H _ I h) fun us s1 w_ => w_.el fun xs' G1 H1 e1 i_ r_ q1 => i_.el fun σ I1 hs1 hg1 => r_.el fun as ras rvs => ?_) hs rfl))
 obtain ⟨x, xs, e, hx, q⟩ := q1
 subst e
 obtain ⟨v, rfl, rv⟩ := reps1 ras
 obtain ⟨u, rfl, ru⟩ := rvs.one
 obtain ⟨pa, vs, rfl, hq, r⟩ := list_now hg1 rv hx
 cases ru
 obtain ⟨its, rvv, pl, hz⟩ := I1.list hq
 refine call_enumerate_list pl.isList fun h1 he hit hsz hk => ?_
 have I2 : Inv X pins σ H1 { s1 with heap := h1 } := I1.kept (t' := s1.toks) hk
 refine wpAny_pyIter_enum (Q := PIE3 X pins τ H (.Tuple elts k tpos) R) he ?_
 have fr : ∀ b ∈ [s1.heap.objs.size + 1, s1.heap.objs.size], FpOk X pins H1 b := fun b hb => by
  have hb' : b = s1.heap.objs.size + 1 ∨ b = s1.heap.objs.size := by simpa using hb
  have hle : s1.heap.objs.size ≤ b := by omega
  exact I1.fpOk hle (I1.hok.fresh hle)
 refine ⟨s1.heap.objs.size + 1, [s1.heap.objs.size + 1, s1.heap.objs.size], _, _, numT xs, fun G' => listT G' x = some xs, G1, H1, rfl, e1, ⟨σ, I2, hs1, hg1⟩, turn_enum pa _ _ (Nat.succ_ne_self _), ⟨⟨.none, he⟩, hit⟩, fr, ?_, q⟩
 intro i H2 G2 e2 g2 st
 obtain ⟨pb, ws, eb, h1, h2⟩ := list_now g2 (Rep.mono e2 _ rv) st
 cases eb
 have hlen := h2.length
 refine ⟨fun hi => ?_, fun hi => ⟨ws, h1, by rw [numT_length] at hi; omega⟩, fun hi y H' ⟨pp, z, hn, ey, hy, eH⟩ => ?_⟩
 ·rw [numT_length] at hi
  exact ⟨ws, ws[i]'(by omega), h1, by simp [hlen ▸ hi]⟩
 ·subst ey; subst eH
  obtain ⟨t, ht, rt⟩ := h2.get' (hy ws h1)
  exact ⟨.upd (.none hn), g2.tupNew hn, _, numT_get ht, Rep.tupNew ⟨_, _, rfl, rfl, _, _, rfl, rt, rfl⟩ hn⟩
end L3
namespace L3
open PySem PySem.Spec PyProof.Rows L2
noncomputable def clGo (env : Env) : List (Str × NameKind) → List (Str × Addr) → Option (List (Str × Addr))
 | [], cs => some cs
 | (n, k) :: r, cs => if (k == .free) = true then (match env.cells.lookup n with | some c => clGo env r ((n, c) :: cs) | none => none) else clGo env r cs
theorem closure_of {scope : Scope} {env : Env} {cl : List (Str × Addr)} (h : clGo env scope.names [] = some cl) : closureFor scope env = pure cl := by
 unfold closureFor
 have go : ∀ (names : List (Str × NameKind)) (cs : List (Str × Addr)), clGo env names cs = some cl →
   (forIn names cs fun (x : Str × NameKind) (r : List (Str × Addr)) => (match x with | (nm, kd) => if (kd == .free) = true then cellOf env nm >>= fun a => pure (ForInStep.yield ((nm, a) :: r)) else pure (ForInStep.yield r) : Sem (ForInStep (List (Str × Addr))))) = pure cl := by
  intro names
  induction names with
  | nil => intro cs e; cases e; rfl
  | cons x r ih =>
   obtain ⟨n, k⟩ := x
   intro cs e
   unfold clGo at e
   rw [List.forIn_cons]
   by_cases hk : (k == NameKind.free) = true
   ·rw [if_pos hk] at e
    cases hc : env.cells.lookup n with
    | none => rw [hc] at e; cases e
    | some c =>
     rw [hc] at e
     have hco : cellOf env n = pure c := by unfold cellOf; rw [hc]
     simp only [hk, if_true, hco, pure_bind]
     exact ih _ e
   ·rw [if_neg hk] at e
    simp only [hk, pure_bind, if_false, Bool.false_eq_true]
    exact ih _ e
 have := go scope.names [] h
 simpa using this
theorem clGo_sub {env : Env} {cl : List (Str × Addr)} : ∀ {names : List (Str × NameKind)} {cs : List (Str × Addr)}, clGo env names cs = some cl → (∀ n c, cs.lookup n = some c → env.cells.lookup n = some c) → ∀ n c, cl.lookup n = some c → env.cells.lookup n = some c
 | [], cs, e, h => by cases e; exact h
 | (n, k) :: r, cs, e, h => by
  unfold clGo at e
  by_cases hk : (k == NameKind.free) = true
  ·rw [if_pos hk] at e
   cases hc : env.cells.lookup n with
   | none => rw [hc] at e; cases e
   | some c =>
    rw [hc] at e
    refine clGo_sub e fun m d q => ?_
    rw [List.lookup_cons] at q
    by_cases hm : (m == n) = true
    ·rw [hm] at q; cases q; rw [eq_of_beq hm]; exact hc
    ·simp only [hm] at q; exact h m d q
  ·rw [if_neg hk] at e
   exact clGo_sub e h
theorem clGo_keep {env : Env} {cl : List (Str × Addr)} {m : Str} : ∀ {names : List (Str × NameKind)} {cs : List (Str × Addr)}, clGo env names cs = some cl → (∃ c, cs.lookup m = some c) → ∃ c, cl.lookup m = some c
 | [], cs, e, h => by cases e; exact h
 | (n, k) :: r, cs, e, h => by
  unfold clGo at e
  by_cases hk : (k == NameKind.free) = true
  ·rw [if_pos hk] at e
   cases hc : env.cells.lookup n with
   | none => rw [hc] at e; cases e
   | some c =>
    rw [hc] at e
    refine clGo_keep e ?_
    rw [List.lookup_cons]
    by_cases hm : (m == n) = true
    ·rw [hm]; exact ⟨_, rfl⟩
    ·simp only [hm]; exact h
  ·rw [if_neg hk] at e
   exact clGo_keep e h
theorem clGo_has {env : Env} {cl : List (Str × Addr)} {m : Str} : ∀ {names : List (Str × NameKind)} {cs : List (Str × Addr)}, clGo env names cs = some cl → names.lookup m = some .free → ∃ c, cl.lookup m = some c
 | [], cs, e, h => by simp at h
 | (n, k) :: r, cs, e, h => by
  unfold clGo at e
  rw [List.lookup_cons] at h
  by_cases hm : (m == n) = true
  ·rw [hm] at h
   cases h
   rw [if_pos (show (NameKind.free == NameKind.free) = true from rfl)] at e
   cases hc : env.cells.lookup n with
   | none => rw [hc] at e; cases e
   | some c =>
    rw [hc] at e
    refine clGo_keep e ?_
    rw [List.lookup_cons, hm]; exact ⟨_, rfl⟩
  ·simp only [hm] at h
   by_cases hk : (k == NameKind.free) = true
   ·rw [if_pos hk] at e
    cases hc : env.cells.lookup n with
    | none => rw [hc] at e; cases e
    | some c => rw [hc] at e; exact clGo_has e h
   ·rw [if_neg hk] at e
    exact clGo_has e h
theorem relabel_look {env : Env} {x : Str} : ∀ {names : List (Str × NameKind)}, (∀ y ∈ names, y.2 ≠ .cell) →
  ((names.map fun (n, k) => if (k == NameKind.free && env.scope.kind == .function && env.kindOf n == some .cell) then (n, NameKind.cell) else (n, k)).lookup x = some .cell ∨
    (names.map fun (n, k) => if (k == NameKind.free && env.scope.kind == .function && env.kindOf n == some .cell) then (n, NameKind.cell) else (n, k)).lookup x = some .free) → names.lookup x = some .free
 | [], _, h => by simp at h
 | (n, k) :: r, hc, h => by
  have ih := @relabel_look env x r (fun y hy => hc y (List.mem_cons_of_mem _ hy))
  have hk := hc (n, k) List.mem_cons_self
  rw [List.map_cons] at h
  rw [List.lookup_cons]
  by_cases hx : (x == n) = true
  ·rw [hx]
   by_cases hf : (k == NameKind.free && env.scope.kind == .function && env.kindOf n == some .cell) = true
   ·have : (k == NameKind.free) = true := by
     rw [Bool.and_eq_true, Bool.and_eq_true] at hf; exact hf.1.1
    rw [eq_of_beq this]
   ·simp only [hf, if_false, Bool.false_eq_true, List.lookup_cons, hx] at h
    rcases h with h | h
    ·cases h; exact absurd rfl hk
    ·cases h; rfl
  ·simp only [hx]
   refine ih ?_
   by_cases hf : (k == NameKind.free && env.scope.kind == .function && env.kindOf n == some .cell) = true
   ·simpa only [hf, if_true, List.lookup_cons, hx] using h
   ·simpa only [hf, if_false, Bool.false_eq_true, List.lookup_cons, hx] using h
theorem relabel_local {env : Env} {x : Str} : ∀ {names : List (Str × NameKind)},
  (names.map fun (n, k) => if (k == NameKind.free && env.scope.kind == .function && env.kindOf n == some .cell) then (n, NameKind.cell) else (n, k)).lookup x = some .local → names.lookup x = some .local
 | [], h => by simp at h
 | (n, k) :: r, h => by
  have ih := @relabel_local env x r
  rw [List.map_cons] at h
  rw [List.lookup_cons]
  by_cases hx : (x == n) = true
  ·rw [hx]
   by_cases hf : (k == NameKind.free && env.scope.kind == .function && env.kindOf n == some .cell) = true
   ·simp only [hf, if_true, List.lookup_cons, hx] at h; cases h
   ·simp only [hf, if_false, Bool.false_eq_true, List.lookup_cons, hx] at h; exact h
  ·simp only [hx]
   refine ih ?_
   by_cases hf : (k == NameKind.free && env.scope.kind == .function && env.kindOf n == some .cell) = true
   ·simpa only [hf, if_true, List.lookup_cons, hx] using h
   ·simpa only [hf, if_false, Bool.false_eq_true, List.lookup_cons, hx] using h
noncomputable def cmpCx (X : Cx) (scope : Scope) (cl : List (Str × Addr)) (C : Addr) (fp : List Addr) (s : Shared) (H : Hp) : Cx :=
 { X with env := compEnvC scope cl C X.env, s₀ := s, H₀ := H, outer := X.stack, stack := X.stack, ex := fp, fn := fun _ => false, pn := [], xe := fun _ _ => False }
structure CmpOk (X : Cx) (scope : Scope) (cl : List (Str × Addr)) (mask : List Bool) : Prop where
 cl : clGo X.env scope.names [] = some cl
 kind : scope.kind = .function
 nocell : (scope.names.all fun y => y.2 != .cell) = true
 names : (scope.names.all fun y => y.2 != .local || scope.names.lookup y.1 == some .local) = true
 vis : (scope.names.all fun y => y.2 != .free || X.env.kindOf y.1 == some .cell || X.env.kindOf y.1 == some .free) = true
 len : mask.length = X.N.length
 mask : ((X.N.zip mask).all fun p => p.2 || scope.names.lookup p.1 != some .local) = true
noncomputable def msk {α : Type} (mask : List Bool) (τ : List (Option α)) : List (Option α) := List.zipWith (fun b o => if b = true then none else o) mask τ
theorem msk_get {α : Type} {mask : List Bool} {τ : List (Option α)} {i : Nat} {t : α} (h : (msk mask τ)[i]? = some (some t)) : mask[i]? = some false ∧ τ[i]? = some (some t) := by
 unfold msk at h
 rw [List.getElem?_zipWith] at h
 cases hm : mask[i]? with
 | none => exact absurd (hm ▸ h) (by simp)
 | some b =>
  cases ht : τ[i]? with
  | none => rw [hm, ht] at h; cases h
  | some o =>
   rw [hm, ht] at h
   cases b with
   | true => simp at h
   | false => simp at h; exact ⟨rfl, by rw [h]⟩
theorem msk_len {α : Type} {mask : List Bool} {τ : List (Option α)} (h : mask.length = τ.length) : (msk mask τ).length = τ.length := by
 unfold msk; rw [List.length_zipWith, h, Nat.min_self]
theorem msk_rel {K : PySem.W.Frag} {H : Hp} {σ : L2.St} {τ : St3} {mask : List Bool} (h : SRel K H σ τ) (hl : mask.length = τ.length) : SRel K H (msk mask σ) (msk mask τ) := by
 refine ⟨by rw [msk_len hl, msk_len (hl.trans h.1.symm), h.1], fun i t q => ?_⟩
 obtain ⟨h1, h2⟩ := msk_get q
 obtain ⟨v, h3, h4⟩ := h.2 i t h2
 refine ⟨v, ?_, h4⟩
 unfold msk
 rw [List.getElem?_zipWith, h1, h3]
 simp
section
variable {X : Cx} {scope : Scope} {cl : List (Str × Addr)} {mask : List Bool}
theorem CmpOk.local (c : CmpOk X scope cl mask) {i : Nat} {x : Str} (h1 : X.N[i]? = some x) (h2 : mask[i]? = some false) : scope.names.lookup x ≠ some .local := by
 have h := c.mask
 rw [List.all_eq_true] at h
 have hz : (X.N.zip mask)[i]? = some (x, false) := by rw [List.getElem?_zip_eq_some]; exact ⟨h1, h2⟩
 have := h _ (List.mem_of_getElem? hz)
 simpa using this
theorem CmpOk.free (c : CmpOk X scope cl mask) {x : Str} (h : scope.names.lookup x = some .free) : X.env.kindOf x = some .cell ∨ X.env.kindOf x = some .free := by
 have hv := c.vis
 rw [List.all_eq_true] at hv
 have := hv (x, .free) (PySem.mem_of_lookup h)
 simpa using this
theorem CmpOk.nc (c : CmpOk X scope cl mask) : ∀ y ∈ scope.names, y.2 ≠ .cell := by
 have hv := c.nocell
 rw [List.all_eq_true] at hv
 intro y hy
 simpa using hv y hy
theorem CmpOk.nm (c : CmpOk X scope cl mask) : ∀ y ∈ scope.names, y.2 = .local → scope.names.lookup y.1 = some .local := by
 have hv := c.names
 rw [List.all_eq_true] at hv
 intro y hy e
 have := hv y hy
 rw [e] at this
 simpa using this
theorem cmp_start (c : CmpOk X scope cl mask) {pins : List (Addr × Obj)} {σ : L2.St} {H : Hp} {s : Shared} {fp : List Addr} {h4 : Heap} {tk : Nat} (I : Inv X pins σ H s) (hf : ∀ b ∈ fp, FpOk X pins H b) (ho : ∀ b ∈ fp, ∃ o, s.heap.get? b = some o)
  (hns : h4.Ns s.heap.objs.size fun _ => none) (hk : ∀ b o, s.heap.get? b = some o → h4.get? b = some o) :
  Inv (cmpCx X scope cl s.heap.objs.size fp s H) [] (msk mask σ) H { s with heap := h4, toks := tk } := by
 have sub := clGo_sub c.cl (by simp)
 have ok : (cmpCx X scope cl s.heap.objs.size fp s H).Ok := by
  refine ⟨I.ok.mod, c.kind, I.ok.glob, I.ok.blt, Nat.le_refl _, fun x y d h1 h2 => I.ok.inj x y d (sub _ _ h1) (sub _ _ h2), fun x hx => clGo_has c.cl (relabel_look (env := X.env) c.nc hx), fun x d hx => absurd (show false = true from hx) Bool.false_ne_true, I.ok.hd, I.ok.frames, .inl rfl,
   fun b hb => ?_, I.bs, Nat.le_trans I.ok.bsz I.sz, fun b o e hb => ?_, fun b hb hz => ?_, I.stack, I.stkFree⟩
  ·obtain ⟨o, e⟩ := ho b hb
   exact ⟨Nat.ne_of_lt (Heap.lt_size e), fun x d hd => (hf b hb).2.2.2.2.1 x d (sub _ _ hd)⟩
  ·rcases (hf b hb).2.2.2.1 with z | z
   ·exact I.ok.noex b o e z
   ·exact absurd (Nat.lt_of_lt_of_le (Heap.lt_size e) I.ok.bsz) (Nat.not_lt.mpr z)
  ·rcases List.mem_cons.mp (I.stkSub b hz) with z | z
   ·exact (hf b hb).2.1 z
   ·exact (hf b hb).2.2.1 z
 refine ⟨ok, rfl, I.bare, Un.kept hk, ⟨_, hns, fun i x v h1 h2 h3 => ?_⟩, fun x d hd => ?_, I.hok.fresh (Nat.le_refl _), fun x d hd => I.freeC x d (sub _ _ hd), fun p hp => absurd (show p ∈ ([] : List (Addr × Obj)) from hp) (by simp), I.hok.kept hk, ?_⟩
 ·obtain ⟨m1, m2⟩ := msk_get h2
  have nl := c.local h1 m1
  have fr : scope.names.lookup x = some .free := by
   rcases h3 with z | z | z
   ·exact absurd (relabel_local (env := X.env) z) nl
   ·exact relabel_look (env := X.env) c.nc (.inl z)
   ·exact relabel_look (env := X.env) c.nc (.inr z)
  have hkk := c.free fr
  obtain ⟨m, hn, hl⟩ := I.loc
  have vis : Vis X.env.scope x := by rcases hkk with z | z; exact .inr (.inl z); exact .inr (.inr z)
  obtain ⟨u, ru, lk⟩ := hl i x v h1 m2 vis
  refine ⟨u, ru, ?_⟩
  rcases lk with ⟨z, _⟩ | ⟨_, d, hd, cd⟩
  ·exfalso; rcases hkk with q | q <;> (rw [z] at q; cases q)
  ·obtain ⟨d', hd'⟩ := clGo_has c.cl fr
   have : d' = d := by have := sub _ _ hd'; rw [hd] at this; exact (Option.some.inj this).symm
   subst this
   refine .inr ⟨?_, d', hd', cd.keeps hk⟩
   rcases h3 with z | z | z
   ·exact absurd (relabel_local (env := X.env) z) nl
   ·exact .inl z
   ·exact .inr z
 ·obtain ⟨v, hv⟩ := I.cell x d (sub _ _ hd)
  exact ⟨v, hv.keeps hk⟩
 ·exact (msk_len (c.len.trans I.len.symm)).trans I.len
theorem cmp_end {pins : List (Addr × Obj)} {σ σ' : L2.St} {H H' : Hp} {s s' : Shared} {fp : List Addr} {pl : List (Addr × Obj)} {C : Addr} (I : Inv X pins σ H s) (hf : ∀ b ∈ fp, FpOk X pins H b) (hC : s.heap.objs.size ≤ C)
  (J : Inv (cmpCx X scope cl C fp s H) pl σ' H' s') {h' : Heap} (hb : Heap.SameBut C s'.heap h') : Inv X pins σ H' { s' with heap := h' } := by
 have ne : ∀ b o, s.heap.get? b = some o → b ≠ C := fun b o e => Nat.ne_of_lt (Nat.lt_of_lt_of_le (Heap.lt_size e) hC)
 have u := J.base
 have hfree : H' C = none := J.free
 have u' : Un (frs X.stack) fp H H' s.heap h' := ⟨fun b o e n hb' hx => (hb.2 b (ne b o e)).trans (u.keep b o e n hb' hx), fun b o e n hb' hx => let ⟨sl, z⟩ := u.slot b o e n hb' hx; ⟨sl, (hb.2 b (ne b o e)).trans z⟩,
  u.free, fun b o e hx => let ⟨o', z⟩ := u.there b o e hx; ⟨o', (hb.2 b (ne b o e)).trans z⟩, u.tups, u.frzs, u.tbls⟩
 have hok : HOk X.prog X.w H' h' := fun b ob e => (J.hok b ob e).stay (fun c w' hc q => (hb.2 c (by
  rintro rfl
  rcases hc with rfl | hc
  ·rw [hfree] at e; cases e
  ·rw [hfree] at hc; cases hc)).trans q) (fun _ q => q) fun _ _ q => q
 exact I.call' (s' := { s' with heap := h' }) J.os u' hok J.bare fun b hb => ⟨(hf b hb).2.2.2.1, (hf b hb).2.1, (hf b hb).2.2.2.2.1, (hf b hb).2.2.2.2.2⟩
end
noncomputable abbrev compTests (ifs : List Expr) (env : Env) : Sem Bool := forIn ifs true fun c b => if b = true then isTrue c env (eval c env) >>= fun d => pure (ForInStep.yield d) else pure (ForInStep.yield b)
noncomputable def CompStep (M : Model) (A : Around) (elt tg : Expr) (ifs : List Expr) (it acc : Value) (env : Env) (stop more : Shared → Prop) : Option Value → Shared → Prop
 | none => stop
 | some v => fun z => wpAny M A (letOwnedTupleGo tg it v) (fun _ z1 => wpAny M A (assign tg env v) (fun _ z2 => wpAny M A (compTests ifs env) (fun ok z3 => if ok = true then wpAny M A (eval elt env) (fun x z4 => wpAny M A (call (.builtin "list.append") [acc, x]) (fun _ => more) (fun _ _ => False) z4) (fun _ _ => False) z3 else more z3) (fun _ _ => False) z2) (fun _ _ => False) z1) (fun _ _ => False) z
theorem compLoop3 {P : Program} {w : World} {A : Around} {R : Result → Shared → Prop} {s : Shared} {elt tg iter : Expr} {ifs : List Expr} {scope : Scope} {pos : Pos} {it acc : Value} {env : Env} (I : Nat → Shared → Prop)
  (turn : ∀ k z, I k z → wpAny (model P w) A (pyNext it) (CompStep (model P w) A elt tg ifs it acc env (R (.ok .next)) fun z' => ∃ m, m < k ∧ I m z') (fun _ _ => False) z) (n : Nat) (h : I n s) : codeAny (model P w) A (.compLoop (.ListComp elt [⟨tg, iter, ifs, 0⟩] scope pos) 0 it acc env) R s := by
 refine codeAny_loop rfl I (fun k z hz => (show wpAny _ A ((compTurn (.ListComp elt [⟨tg, iter, ifs, 0⟩] scope pos) 0 it acc env).onRaise _) _ _ z from wpAny_noted ?_)) n h
 rw [compTurn_list]
 refine wpAny_bind (wpAny_standAt (wpAny_bind (wpAny_mono (turn k z hz) (fun r z1 h1 => ?_) fun _ _ e => e.elim)))
 cases r with
 | none => exact wpAny_pure h1
 | some v =>
  refine wpAny_bind (wpAny_mono h1 (fun _ z2 h2 => wpAny_bind (wpAny_mono h2 (fun _ z3 h3 => wpAny_bind (wpAny_mono h3 (fun ok z4 h4 => ?_) fun _ _ e => e.elim)) fun _ _ e => e.elim)) fun _ _ e => e.elim)
  by_cases hok : ok = true
  ·subst hok
   exact wpAny_bind (wpAny_bind (wpAny_mono h4 (fun x z5 h5 => wpAny_bind (wpAny_mono h5 (fun _ z6 h6 => wpAny_pure (wpAny_pure ⟨rfl, h6⟩)) fun _ _ e => e.elim)) fun _ _ e => e.elim))
  ·obtain rfl : ok = false := by simpa using hok
   exact wpAny_pure ⟨rfl, h4⟩
noncomputable def PIf3 (X : Cx) (ifs : List Expr) (t : TT3) : Prop := ∀ (pins : List (Addr × Obj)) (s : Shared) (τ : St3) (G : Gp) (H : Hp) (Q : Bool → Gp → Prop), Inv3 X pins τ G H s → t τ G Q →
 wpAny (model X.prog X.w) X.A (forIn ifs true fun c r => if r = true then do let ok ← isTrue c X.env (eval c X.env); pure (ForInStep.yield ok) else pure (ForInStep.yield r)) (TP3 X pins τ H Q) X.xe s
noncomputable def tTrue : TT3 := fun _ G Q => Q true G
theorem if_nil {X : Cx} : PIf3 X [] tTrue := fun _ _ _ G H _ I q => wpAny_tests_nil ⟨G, H, .refl H, I, q⟩
theorem if_one {X : Cx} {c : Expr} {t : TT3} (h : PT3 X c t) : PIf3 X [c] t := fun pins s τ G H Q I q => wpAny_tests_one (h pins s τ G H Q I q)
noncomputable def GKeep (mask : List Bool) (g : TG3) : Prop := ∀ v τ G Q, g v τ G Q → g v τ G fun τ2 G2 => Q τ2 G2 ∧ τ2.length = τ.length ∧ ∀ i : Nat, mask[i]? ≠ some true → τ2[i]? = τ[i]?
noncomputable def GsKeep (mask : List Bool) (g : TGs3) : Prop := ∀ v τ G Q, g v τ G Q → g v τ G fun τ2 G2 => Q τ2 G2 ∧ τ2.length = τ.length ∧ ∀ i : Nat, mask[i]? ≠ some true → τ2[i]? = τ[i]?
theorem gk_name {mask : List Bool} {i : Nat} (h : mask[i]? = some true := by rfl) : GKeep mask (gName i) := fun v τ G Q q =>
 ⟨q, List.length_set .., fun j hj => List.getElem?_set_ne (by rintro rfl; exact hj h)⟩
theorem gk_nil {mask : List Bool} : GsKeep mask gNil := fun v τ G Q ⟨e, q⟩ => ⟨e, q, rfl, fun _ _ => rfl⟩
theorem gk_cons {mask : List Bool} {t : TG3} {u : TGs3} (h1 : GKeep mask t) (mono : ∀ v τ G Q Q', (∀ a b, Q a b → Q' a b) → t v τ G Q → t v τ G Q') (h2 : GsKeep mask u) (mono2 : ∀ v τ G Q Q', (∀ a b, Q a b → Q' a b) → u v τ G Q → u v τ G Q') : GsKeep mask (gCons t u) := fun vs τ G Q ⟨v, r, e, q⟩ => by
 refine ⟨v, r, e, mono _ _ _ _ _ (fun τ2 G2 ⟨z, l1, k1⟩ => ?_) (h1 _ _ _ _ q)⟩
 exact mono2 _ _ _ _ _ (fun τ3 G3 ⟨z3, l3, k3⟩ => ⟨z3, l3.trans l1, fun i hi => (k3 i hi).trans (k1 i hi)⟩) (h2 _ _ _ _ z)
theorem gm_name {i : Nat} : ∀ v τ G (Q Q' : St3 → Gp → Prop), (∀ a b, Q a b → Q' a b) → gName i v τ G Q → gName i v τ G Q' := fun _ _ _ _ _ h q => h _ _ q
theorem gm_nil : ∀ v τ G (Q Q' : St3 → Gp → Prop), (∀ a b, Q a b → Q' a b) → gNil v τ G Q → gNil v τ G Q' := fun _ _ _ _ _ h q => ⟨q.1, h _ _ q.2⟩
theorem gm_cons {t : TG3} {u : TGs3} (m1 : ∀ v τ G (Q Q' : St3 → Gp → Prop), (∀ a b, Q a b → Q' a b) → t v τ G Q → t v τ G Q') (m2 : ∀ v τ G (Q Q' : St3 → Gp → Prop), (∀ a b, Q a b → Q' a b) → u v τ G Q → u v τ G Q') :
  ∀ v τ G (Q Q' : St3 → Gp → Prop), (∀ a b, Q a b → Q' a b) → gCons t u v τ G Q → gCons t u v τ G Q' := fun _ _ _ _ _ h ⟨v, r, e, q⟩ => ⟨v, r, e, m1 _ _ _ _ _ (fun _ _ z => m2 _ _ _ _ _ h z) q⟩
theorem gk_tup {mask : List Bool} {n : Nat} {u : TGs3} (h : GsKeep mask u) : GKeep mask (gTup n u) := fun v τ G Q ⟨xs, e, l, q⟩ => ⟨xs, e, l, h _ _ _ _ q⟩
theorem msk_same {mask : List Bool} {τ τ2 : St3} (hl : mask.length = τ.length) (l : τ2.length = (msk mask τ).length) (h : ∀ i : Nat, mask[i]? ≠ some true → τ2[i]? = (msk mask τ)[i]?) : msk mask τ2 = msk mask τ := by
 have ll := msk_len hl
 apply List.ext_getElem?
 intro i
 unfold msk at h ⊢
 rw [List.getElem?_zipWith, List.getElem?_zipWith]
 cases hm : mask[i]? with
 | none => rfl
 | some b =>
  cases b with
  | true =>
   have h1 : i < mask.length := by
    rcases Nat.lt_or_ge i mask.length with z | z
    ·exact z
    ·rw [List.getElem?_eq_none z] at hm; cases hm
   have h2 : i < τ2.length := by omega
   have h3 : i < τ.length := by omega
   rw [List.getElem?_eq_getElem h2, List.getElem?_eq_getElem h3]
   simp
  | false =>
   have := h i (by rw [hm]; simp)
   rw [List.getElem?_zipWith, hm] at this
   rw [this]
   cases τ[i]? with
   | none => rfl
   | some o => simp
noncomputable def tCompAt (mask : List Bool) (g : TG3) (tif : TT3) (te : TE3) (τ : St3) (xs : List T) (stay : Gp → Prop) (G : Gp) (Q : VK3) : Prop :=
 ∀ D, G D = none → ∃ P : Nat → List T → Gp → Prop, P 0 [] (gup G D (.lst [])) ∧ (∀ i acc G, i ≤ xs.length → P i acc G → stay G ∧ G D = some (.lst acc)) ∧
  (∀ i x acc G, xs[i]? = some x → P i acc G → g x (msk mask τ) G fun τ2 G2 => tif τ2 G2 fun b G3 => if b = true then te τ2 G3 fun y G4 => G4 D = some (.lst acc) ∧ acc.length < sizeLine ∧ P (i + 1) (acc ++ [y]) (gup G4 D (.lst (acc ++ [y]))) else P (i + 1) acc G3) ∧
  ∀ acc G, P xs.length acc G → Q (.ref D) G
noncomputable def tComp (mask : List Bool) (wi : TI3) (g : TG3) (tif : TT3) (te : TE3) : TE3 := fun τ G Q => wi τ G fun xs stay G1 => tCompAt mask g tif te τ xs stay G1 Q
section
variable {X : Cx} {scope : Scope} {cl : List (Str × Addr)} {mask : List Bool} {elt iter tg : Expr} {ifs : List Expr} {pos : Pos} {wi : TI3} {g : TG3} {tif : TT3} {te : TE3}
theorem comp_block (hc : X.calm = true) (ok : CmpOk X scope cl mask)
  (hgk : GKeep mask g) (hg : ∀ C fp s H, PG3 (cmpCx X scope cl C fp s H) tg g) (hif : ∀ C fp s H, PIf3 (cmpCx X scope cl C fp s H) ifs tif) (he : ∀ C fp s H, PE3 (cmpCx X scope cl C fp s H) elt te)
  {pins : List (Addr × Obj)} {τ : St3} {H : Hp} {Q : VK3} {itv : Value} {s2 : Shared} {E : Value → Shared → Prop} {RR : Value → Addr → Result → Shared → Prop}
  (h2 : PIE3 X pins τ H tg (fun xs stay G => tCompAt mask g tif te τ xs stay G Q) itv s2)
  (hRR : ∀ D C s' m, s'.heap.Ns C m → (∃ G1 H1, Ext H H1 ∧ H1 C = none ∧ Q (.ref D) G1 ∧ ∀ h', Heap.SameBut C s'.heap h' → Inv3 X pins τ G1 H1 { s' with heap := h' }) → (∃ oC, s'.heap.get? C = some oC ∧ C ≠ X.env.locals ∧ C ∉ X.fs ∧ ∀ v, oC.data ≠ .cell v) → (∀ x c, X.env.cells.lookup x = some c → c ≠ C) → (∀ p ∈ X.pn ++ pins, p.1 ≠ C) → X.s₀.heap.objs.size ≤ C → RR (.ref D) C (.ok .next) s') :
  wpAny (model X.prog X.w) X.A (newList []) (fun acc s₃ => wpAny (model X.prog X.w) X.A (newFunctionEnv scope X.env.globals cl [] X.env.qual none .none (some X.env)) (fun cenv s₄ =>
   codeAny (model X.prog X.w) X.A (.compStart (.ListComp elt [⟨tg, iter, ifs, 0⟩] scope pos) 0 itv acc { cenv with scope := relabel scope X.env }) (RR acc cenv.locals) s₄) E s₃) E s2 := by
 obtain ⟨it, fp, tn, J, xs, stay, G2, H2, e, eH, ⟨σ, I2, hs2, hg2⟩, T0, st2, f2, IT, hq⟩ := h2
 subst e
 refine wpAny_newObj_type (wpAny_newFunctionEnv ok.nc (by intro y hy; simp at hy) (fun h4 hns hsb => ?_) ok.kind)
 dsimp only at hns hsb ⊢
 have hD : H2 s2.heap.objs.size = none := I2.hok.fresh (Nat.le_refl _)
 generalize hs3 : ({ s2 with heap := s2.heap.push { cls := .type "list", dict := none, data := .seq ([] : List Value).toArray } } : Shared) = s3
 have eh3 : s2.heap.push { cls := .type "list", dict := none, data := .seq ([] : List Value).toArray } = s3.heap := by rw [← hs3]
 have I3 : Inv X pins σ (upd H2 s2.heap.objs.size (.lst [])) s3 := by
  rw [← hs3]
  exact I2.laid (t' := s2.toks) (fun b u e => Heap.get?_push_of_some _ e) (Nat.le_refl _) ⟨Nat.zero_le _, [], 0, .nil, Heap.get?_push_size _ rfl⟩
 rw [eh3] at hns hsb ⊢
 generalize hDd : s2.heap.objs.size = D at *
 have e3 : Ext H2 (upd H2 D (.lst [])) := .upd (.none hD)
 have hg3 : GRel X.K (upd H2 D (.lst [])) (gup G2 D (.lst [])) := hg2.lstNew (show Reps X.K H2 [] [] from rfl) (.none hD)
 have obj2 : ∀ b ∈ fp, ∃ o, s2.heap.get? b = some o := fun b hb => let ⟨o, e, _⟩ := T0.obj 0 _ st2 b hb; ⟨o, e⟩
 have fD : ∀ b ∈ fp, b ≠ D := fun b hb => by obtain ⟨o, e⟩ := obj2 b hb; rw [← hDd]; exact Nat.ne_of_lt (Heap.lt_size e)
 have f3 : ∀ b ∈ fp, FpOk X pins (upd H2 D (.lst [])) b := fun b hb => ⟨by rw [upd_ne (fD b hb)]; exact (f2 b hb).1, (f2 b hb).2⟩
 have k3 : ∀ b o, s2.heap.get? b = some o → s3.heap.get? b = some o := fun b o e => by rw [← eh3]; exact Heap.get?_push_of_some _ e
 have obj3 : ∀ b ∈ fp, ∃ o, s3.heap.get? b = some o := fun b hb => let ⟨o, e⟩ := obj2 b hb; ⟨o, k3 b o e⟩
 have k4 : ∀ b o, s3.heap.get? b = some o → h4.get? b = some o := fun b o e => hsb.extBut b o (Nat.ne_of_lt (Heap.lt_size e)) (Heap.get?_push_of_some _ e)
 have Ic : Inv (cmpCx X scope cl s3.heap.objs.size fp s3 (upd H2 D (.lst []))) [] (msk mask σ) (upd H2 D (.lst [])) { s3 with heap := h4, toks := s3.toks + ([] : List (Str × Value)).length } := cmp_start ok I3 f3 obj3 hns k4
 have st4 : tn 0 h4 := T0.keep _ _ _ st2 fun b _ o e => k4 b o (k3 b o e)
 have hl3 : mask.length = τ.length := ok.len.trans (I3.len.symm.trans hs2.1)
 obtain ⟨P, p0, hst, turn, fin⟩ := hq D (hg2.fresh hD)
 have fpc : ∀ {H' : Hp} {pl : List (Addr × Obj)}, (∀ b ∈ fp, H' b = none) → (∀ p ∈ pl, p.1 ∉ fp) → ∀ b ∈ fp, FpOk (cmpCx X scope cl s3.heap.objs.size fp s3 (upd H2 D (.lst []))) pl H' b := fun {H' pl} hn hp b hb => by
  obtain ⟨o, e⟩ := obj3 b hb
  refine ⟨hn b hb, Nat.ne_of_lt (Heap.lt_size e), ?_, .inl hb, fun x d hd => (f3 b hb).2.2.2.2.1 x d (clGo_sub ok.cl (by simp) _ _ hd), fun p hpp z => ?_⟩
  ·intro z
   rcases List.mem_cons.mp (I3.stkSub b z) with q | q
   ·exact (f3 b hb).2.1 q
   ·exact (f3 b hb).2.2.1 q
  ·have hpp' : p ∈ pl := by simpa [cmpCx] using hpp
   exact hp p hpp' (z ▸ hb)
 have loop : ∀ s4 : Shared, s4 = { s3 with heap := h4, toks := s3.toks + ([] : List (Str × Value)).length } →
   codeAny (model X.prog X.w) X.A (.compLoop (.ListComp elt [⟨tg, iter, ifs, 0⟩] scope pos) 0 (.ref it) (.ref D) (compEnvC scope cl s3.heap.objs.size X.env)) (RR (.ref D) s3.heap.objs.size) s4 := by
  rintro s4 rfl
  refine compLoop3 (fun n s' => ∃ i acc G' H', n = xs.length - i ∧ i ≤ xs.length ∧ Ext H2 H' ∧ Inv3 (cmpCx X scope cl s3.heap.objs.size fp s3 (upd H2 D (.lst []))) [] (msk mask τ) G' H' s' ∧ tn i s'.heap ∧ (∀ b ∈ fp, H' b = none) ∧ P i acc G') ?_ xs.length
   ⟨0, [], _, _, rfl, Nat.zero_le _, e3, ⟨_, Ic, msk_rel (hs2.mono e3) hl3, hg3⟩, st4, fun b hb => (f3 b hb).1, p0⟩
  rintro n s5 ⟨i, acc, G5, H5, en, hi5, e5, ⟨σ5, I5, hs5, hg5⟩, st5, fr5, p5⟩
  obtain ⟨hstay, hacc⟩ := hst i acc G5 hi5 p5
  obtain ⟨go, stop, yl⟩ := IT i H5 G5 e5 hg5 hstay
  by_cases hlt : i < xs.length
  ·refine thn (T0.item (cmpCx X scope cl s3.heap.objs.size fp s3 (upd H2 D (.lst []))) rfl rfl rfl hc i [] s5 σ5 H5 (fun _ _ => False) I5 (fpc fr5 (by simp)) st5 (go hlt)) fun r s6 ⟨u, hr, h6⟩ => ?_
   subst hr
   refine thn h6 fun _ s7 ⟨x, H7, I7, r7, y7, st7, fr7⟩ => ?_
   obtain ⟨e7, g7, t, ht, rt⟩ := yl hlt x H7 y7
   have I7' := I7.pinned (fpc fr7 (by simp)) (T0.obj _ _ st7)
   refine thn (hg _ _ _ _ ([] ++ pinsAt fp s7.heap) s7 (msk mask τ) G5 H7 t u _ ⟨σ5, I7', hs5.mono e7, g7⟩ ⟨x, rt, r7⟩ (hgk _ _ _ _ (turn i t acc G5 ht p5))) fun _ s8 ⟨τ8, G8, H8, e8, I8, q8, ql8, qk8⟩ => ?_
   refine thn (hif _ _ _ _ ([] ++ pinsAt fp s7.heap) s8 τ8 G8 H8 _ I8 q8) fun b s9 ⟨G9, H9, e9, I9, q9⟩ => ?_
   have back : ∀ {Ga : Gp} {Ha : Hp} {sa : Shared} {acc' : List T}, Ext H7 Ha → Inv3 (cmpCx X scope cl s3.heap.objs.size fp s3 (upd H2 D (.lst []))) ([] ++ pinsAt fp s7.heap) τ8 Ga Ha sa → P (i + 1) acc' Ga →
     ∃ m, m < n ∧ ∃ i acc G' H', m = xs.length - i ∧ i ≤ xs.length ∧ Ext H2 H' ∧ Inv3 (cmpCx X scope cl s3.heap.objs.size fp s3 (upd H2 D (.lst []))) [] (msk mask τ) G' H' sa ∧ tn i sa.heap ∧ (∀ b ∈ fp, H' b = none) ∧ P i acc G' := by
    intro Ga Ha sa acc' ea ⟨σa, Ia, hsa, hga⟩ pa
    have e2a : Ext H5 Ha := e7.trans ea
    have hla : mask.length = τ8.length := by rw [ql8, msk_len hl3]; exact hl3
    have hsm := msk_rel (mask := mask) hsa hla
    rw [msk_same hl3 ql8 qk8] at hsm
    refine ⟨xs.length - (i + 1), by omega, i + 1, acc', Ga, Ha, rfl, hlt, e5.trans e2a, ⟨msk mask σa, (Ia.weak (msk_len (hla.trans hsa.1.symm)) fun j v hv => (msk_get hv).2).pins_of (fun p hp => absurd hp (by simp)), hsm, hga⟩, ?_, fun b hb => ?_, pa⟩
    ·exact T0.keep _ _ _ st7 fun b hb o e => (Ia.pin (b, o) (List.mem_append_right _ (List.mem_append_right _ (mem_pinsAt hb e)))).1
    ·obtain ⟨o, e, d⟩ := T0.obj _ _ st7 b hb
     exact (Ia.pin (b, o) (List.mem_append_right _ (List.mem_append_right _ (mem_pinsAt hb e)))).2.1
   cases b with
   | false =>
    rw [if_neg Bool.false_ne_true] at q9 ⊢
    exact back (e8.trans e9) I9 q9
   | true =>
    rw [if_pos rfl] at q9 ⊢
    refine thn (he _ _ _ _ ([] ++ pinsAt fp s7.heap) s9 τ8 G9 H9 _ I9 q9) fun y s10 w_ => w_.el fun ty G10 H10 e10 I10 r10 ⟨hD10, hz10, q10⟩ => ?_
    obtain ⟨vy, rvy, ruy⟩ := r10
    refine thn (m_append ([] ++ pinsAt fp s7.heap) s10 τ8 G10 H10 (.ref D) [ty] (.ref D) [y] (fun _ G' => P (i + 1) (acc ++ [ty]) G') I10 ⟨.ref D, rfl, rfl⟩ ⟨[vy], .one rvy, .cons ruy .nil⟩ ⟨D, acc, ty, rfl, rfl, hD10, hz10, q10⟩) fun _ s11 w_ => w_.el fun _ G11 H11 e11 I11 _ q11 => ?_
    exact back (((e8.trans e9).trans e10).trans e11) I11 q11
  ·have ei : i = xs.length := by omega
   refine thn (T0.done (cmpCx X scope cl s3.heap.objs.size fp s3 (upd H2 D (.lst []))) rfl rfl rfl hc i [] s5 σ5 H5 (fun _ _ => False) I5 (fpc fr5 (by simp)) st5 (stop (by omega))) fun r s6 ⟨hr, I6⟩ => ?_
   subst hr; subst ei
   obtain ⟨m, hn, _⟩ := I6.loc
   obtain ⟨oC, es, ep, hoC, hdC, _⟩ := id hn
   refine hRR D s3.heap.objs.size s6 m hn ⟨G5, H5, eH.trans e5, I6.free, fin acc G5 p5, fun h' hb => ⟨σ, cmp_end I3 f3 (Nat.le_refl _) I6 hb, hs2.mono e5, hg5⟩⟩
    ⟨oC, hoC, Nat.ne_of_gt I3.lt, I3.nofs (Nat.le_refl _), fun v z => by rw [hdC] at z; cases z⟩ (fun x d hd => ?_) (fun p hp => ?_) I3.sz
   ·obtain ⟨v, q⟩ := I3.cell x d hd
    exact Nat.ne_of_lt q.lt
   ·exact Nat.ne_of_lt (Heap.lt_size (I3.pin p hp).1)
 exact codeAny_compStart_list (loop _ (by rw [← hs3])) (T0.self _ 0 _ _ _ st4 (loop _ (by rw [← hs3])))
theorem e_comp (hc : X.calm = true) (ok : CmpOk X scope cl mask) (hi : PI3 X tg iter wi) (hgk : GKeep mask g) (hg : ∀ C fp s H, PG3 (cmpCx X scope cl C fp s H) tg g) (hif : ∀ C fp s H, PIf3 (cmpCx X scope cl C fp s H) ifs tif) (he : ∀ C fp s H, PE3 (cmpCx X scope cl C fp s H) elt te)
  (hs : ∀ x, foldedSetIterable iter X.env x = pure x := by intro _; rfl) : PE3 X (.ListComp elt [⟨tg, iter, ifs, 0⟩] scope pos) (tComp mask wi g tif te) := by
 intro pins s τ G H Q I h
 rw [eval_ListComp]
 refine wpAny_comprehension_free (use := none) rfl hs (closure_of ok.cl) ok.kind ok.nm (thn (hi pins s τ G H _ I h) fun xv s1 h1 => thn h1 fun itv s2 h2 => ?_)
 refine comp_block (RR := fun acc C => compPost (model X.prog X.w) X.A X.xe none (EP3 X pins τ H Q) acc C) hc ok hgk hg hif he h2 ?_
 intro D C s' m hn ⟨G1, H1, e1, _, q1, hI⟩ _ _ _ _
 exact ⟨m, hn, fun h' hb => ⟨.ref D, G1, H1, e1, hI h' hb, ⟨.ref D, rfl, rfl⟩, q1⟩⟩
theorem s_comp {i : Nat} {y : Str} {py spos : Pos} (hc : X.calm = true) (hN : X.N.Nodup) (ok : CmpOk X scope cl mask) (hi : PI3 X tg iter wi) (hgk : GKeep mask g) (hg : ∀ C fp s H, PG3 (cmpCx X scope cl C fp s H) tg g) (hif : ∀ C fp s H, PIf3 (cmpCx X scope cl C fp s H) ifs tif) (he : ∀ C fp s H, PE3 (cmpCx X scope cl C fp s H) elt te)
  (hy : X.N[i]? = some y := by rfl) (hx : X.env.scope.names.lookup y = some .local := by rfl)
  (hsw : swapsWith (.ListComp elt [⟨tg, iter, ifs, 0⟩] scope pos) (some (.Name y py)) spos.line X.env = pure true := by rfl)
  (hs : ∀ x, foldedSetIterable iter X.env x = pure x := by intro _; rfl) : PS3 X (.Assign [.Name y py] (.ListComp elt [⟨tg, iter, ifs, 0⟩] scope pos) spos) (tAsg (tComp mask wi g tif te) (gName i)) := by
 intro pins s τ G H D I h
 rw [exec_Assign_Name_used _ _ _ _ hsw]; refine wpAny_bind (wpAny_standAt (wpAny_bind ?_))
 show wpAny _ X.A (do let _ ← comprehension (.ListComp elt [⟨tg, iter, ifs, 0⟩] scope pos) scope X.env _ (newList []) false (eval iter X.env) (some (assign (.Name y py) X.env))) _ _ s
 refine wpAny_bind (wpAny_mono (wpAny_comprehension_free (use := some (assign (.Name y py) X.env)) (Q := fun _ s' => SP3 X pins H D .next s') rfl hs (closure_of ok.cl) ok.kind ok.nm
  (thn (hi pins s τ G H _ I h) fun xv s1 h1 => thn h1 fun itv s2 h2 => ?_)) (fun _ s' hq => wpAny_pure (wpAny_pure hq)) fun _ _ e => e)
 refine comp_block (RR := fun acc C => compPost (model X.prog X.w) X.A X.xe (some (assign (.Name y py) X.env)) (fun _ s' => SP3 X pins H D .next s') acc C) hc ok hgk hg hif he h2 ?_
 intro Dd C s' m hn ⟨G1, H1, e1, hH1C, q1, hI⟩ ⟨oC, hoC, c1, c2, c3⟩ c4 c5 c6
 show wpAny _ X.A (assign (.Name y py) X.env (.ref Dd)) _ _ _
 obtain ⟨σ1, I1, hs1, hg1⟩ := hI s'.heap (.refl ..)
 have I1' : Inv X (pins ++ [(C, oC)]) σ1 H1 s' := I1.pins_of fun p hp => (List.mem_append.mp hp).elim (fun z => I1.pin p (List.mem_append_right _ z)) fun z => by
  obtain rfl : p = (C, oC) := by simpa using z
  exact ⟨hoC, hH1C, c1, c2, c3⟩
 refine wpAny_assign_Name (store_ok I1' hN hy (.inl hx) (v := .ref Dd) rfl (fun s2 I2 => ?_) (.inr hx))
 have hC2 : s2.heap.get? C = some oC := (I2.pin (C, oC) (List.mem_append_right _ (List.mem_append_right _ (by simp)))).1
 obtain ⟨oC', es, ep, hoC', r⟩ := hn
 have eo : oC' = oC := by rw [hoC] at hoC'; exact (Option.some.inj hoC').symm
 subst eo
 refine ⟨m, ⟨oC', es, ep, hC2, r⟩, fun h' hb => ⟨_, G1, H1, e1, ⟨_, ?_, hs1.set i (show Rep X.K H1 (.ref Dd) (.ref Dd) from rfl), hg1⟩, q1⟩⟩
 exact I2.unpinned.turned (t' := s2.toks) (fun b o hb' e => (hb.2 b hb').trans e) hH1C c1 (.inr c6) c4 c5
end
end L3
namespace HT
open PySem PyProof.Rows
noncomputable def lexLe : (xs ys : List Int) → Bool
 | [], _ => true
 | _ :: _, [] => false
 | x :: xs, y :: ys => if x = y then lexLe xs ys else decide (x ≤ y)
theorem lexLe_cons (x y : Int) (xs ys : List Int) : lexLe (x :: xs) (y :: ys) = if x = y then lexLe xs ys else decide (x ≤ y) := rfl
theorem lexLe_nil (ys : List Int) : lexLe [] ys = true := by cases ys <;> rfl
theorem lexLe_cons_nil (x : Int) (xs : List Int) : lexLe (x :: xs) [] = false := rfl
theorem rcLe_int (A : Around) (s : Shared) (a : Int) (t : Tok) (c : Int) (u : Tok) (prog : Program) (w : World) (E : Value → Shared → Prop) (Q : Value → Shared → Prop) (h : Q (.bool (decide (a ≤ c))) s) :
  wpAny (model prog w) A (richCompare .LtE (.int a t) (.int c u)) Q E s :=
 (PyProof.Rows.le_int h : wpAny (model prog w) A (compareOp .LtE (.int a t) (.int c u)) Q E s)
section
open PySem.SeqAt
open PySem.AutoSeq1 (wpAny_loadPart')
open PySem.MeetsSeq PySem.MeetsSeq2 PySem.MeetsSeq3
theorem tuple_le_ints (l b : Addr) (items items2 : Array Value) (n n2 : Nat) (dd dd2 : Option Addr) (sl sl2 : Array (Option Value)) (ns ms : List Int) (hi : IntsAre items.toList ns) (hj : IntsAre items2.toList ms) :
  Meets (Builtin.«tuple.__le__» ⟨[.ref l, .ref b], []⟩)
   (fun _ R s => s.heap.get? l = some { cls := .type "tuple", dict := dd, data := .seq items n, slots := sl } ∧ s.heap.get? b = some { cls := .type "tuple", dict := dd2, data := .seq items2 n2, slots := sl2 } ∧
    R (.ok (.ret (.bool (lexLe ns ms)))) s) :=
 .of_wp fun prog w A R s h => by
  obtain ⟨hp, g, d, tk, os⟩ := s; obtain ⟨hl, hb, h⟩ := h
  have f2 := AutoSeq1.sub_tuple_tuple
  have z1 : items.size = ns.length := by rw [← hi.length]; simp
  have z2 : items2.size = ms.length := by rw [← hj.length]; simp
  wp_walk using wpAny_loadPart' hl, wpAny_loadPart' hb, wpAny_forIn_list _ (fun rest b s' => b.1 = none ∧ s' = ⟨hp, g, d, tk, os⟩ ∧ ∃ (vs ws : List Value) (ns' ms' : List Int), rest = vs.zip ws ∧
   IntsAre vs ns' ∧ IntsAre ws ms' ∧ ns'.length + items2.size = ms'.length + items.size ∧ R (.ok (.ret (.bool (lexLe ns' ms')))) ⟨hp, g, d, tk, os⟩) _
  case turn =>
   rintro ⟨y, x⟩ rest b s' ⟨hb', rfl, vs, ws, ns', ms', hz, hvi, hwi, hlen, hR⟩
   cases hvi with
   | nil => rw [List.zip_nil_left] at hz; cases hz
   | cons a t hvi' =>
    cases hwi with
    | nil => rw [List.zip_nil_right] at hz; cases hz
    | cons c u hwi' =>
     rw [List.zip_cons_cons] at hz
     injection hz with hyx hrest
     injection hyx with hy hx
     subst hy hx
     rw [lexLe_cons] at hR
     simp only [List.length_cons] at hlen
     obtain ⟨e, he, hiff⟩ := eqAt_int A.in1 ⟨hp, g, d, tk, os⟩ a t c u
     refine wpAny_bind (he prog w _ _ ?_)
     cases e with
     | true =>
      rw [if_pos (hiff.mp rfl)] at hR
      wp_walk
      exact ⟨rfl, rfl, _, _, _, _, hrest, hvi', hwi', by omega, hR⟩
     | false =>
      rw [if_neg (fun q => absurd (hiff.mpr q) Bool.false_ne_true)] at hR
      have hri := rcLe_int A.in1 ⟨hp, g, d, tk, os⟩ a t c u prog w
      wp_walk using hri
      exact ⟨_, rfl, by simpa using hR⟩
  case fin =>
   rintro ⟨b1, b2⟩ s' ⟨hb', rfl, vs, ws, ns', ms', hz, hvi, hwi, hlen, hR⟩
   simp only at hb'
   subst hb'
   have hv : lexLe ns' ms' = decide (items.size ≤ items2.size) := by
    cases hvi with
    | nil =>
     simp only [List.length_nil] at hlen
     rw [lexLe_nil]
     exact (decide_eq_true (by omega)).symm
    | cons a t hv =>
     cases hwi with
     | nil =>
      simp only [List.length_nil, List.length_cons] at hlen
      rw [lexLe_cons_nil]
      exact (decide_eq_false (by omega)).symm
     | cons c u hw =>
      rw [List.zip_cons_cons] at hz
      cases hz
   rw [hv] at hR
   wp_walk
   exact ⟨_, rfl, by simpa [Builtin.Tuple.tupleCompareSizes] using hR⟩
  case h =>
   exact ⟨rfl, rfl, items.toList, items2.toList, ns, ms, rfl, hi, hj, by omega, h⟩
end
theorem le_tupInts {prog : Program} {w : World} {A : Around} {E : Value → Shared → Prop} {s : Shared} {l b : Addr} {items items2 : Array Value} {ns ms : List Int} {Q : Value → Shared → Prop} (hl : IsTup s.heap l items) (hb : IsTup s.heap b items2) (hi : IntsAre items.toList ns) (hj : IntsAre items2.toList ms)
  (hu : A.units < cLine) (h : Q (.bool (lexLe ns ms)) s) : wpAny (model prog w) A (compareOp .LtE (.ref l) (.ref b)) Q E s := by
 obtain ⟨⟨cls, dd, data, sl⟩, ho, hc, n, hd⟩ := id hl
 obtain ⟨⟨cls2, dd2, data2, sl2⟩, ho2, hc2, n2, hd2⟩ := id hb
 simp only at hc hd hc2 hd2
 subst hc hd hc2 hd2
 exact richCompare_meets_room (op := .LtE) ⟨_, ho, rfl⟩ ⟨_, ho2, rfl⟩ PySem.F.slot_tuple_le PySem.F.entry_tuple_le (PySem.F.args_tuple_le_2 _ _) (tuple_le_ints l b items items2 n n2 dd dd2 sl sl2 ns ms hi hj)
  ⟨ho, ho2, show Value.bool (lexLe ns ms) ≠ Value.notImplemented ∧ Q (.bool (lexLe ns ms)) s from ⟨(fun x => nomatch x), h⟩⟩ hu
end HT
namespace L3
open PySem PySem.Spec PyProof.Rows L2
section
variable {X : Cx}
theorem reps_ints {K : PySem.W.Frag} {H : Hp} : ∀ {ns : List Int} {vs : List V}, Reps K H (ns.map T.int) vs → vs = ns.map V.int
 | [], _, h => h
 | n :: ns, _, ⟨v, ws, e, r, rs⟩ => by
  subst e; cases (show v = .int n from r)
  rw [reps_ints rs]; rfl
noncomputable def rLeT : R3 := fun x y G Q => ∃ ns ms, x = .tup (ns.map T.int) ∧ y = .tup (ms.map T.int) ∧ Q (.bl (HT.lexLe ns ms)) G
theorem o_leT (hu : X.A.units < cLine) : Op3 X (compareOp .LtE) rLeT := by
 intro pins s τ G H x y v u Q ⟨σ, I, hs, hg⟩ ⟨a, ra, rv⟩ ⟨b, rb, ru⟩ ⟨ns, ms, ex, ey, q⟩
 subst ex; subst ey
 obtain ⟨p, vs, e1, h1, h2⟩ := (show ∃ p vs, a = .ref p ∧ H p = some (.tup vs) ∧ Reps X.K H (ns.map T.int) vs from ra)
 obtain ⟨p', ws, e2, h3, h4⟩ := (show ∃ p vs, b = .ref p ∧ H p = some (.tup vs) ∧ Reps X.K H (ms.map T.int) vs from rb)
 subst e1; subst e2
 cases rv; cases ru
 rw [reps_ints h2] at h1
 rw [reps_ints h4] at h3
 obtain ⟨its, r1, p1, _⟩ := I.tuple (.of h1)
 obtain ⟨its2, r2, p2, _⟩ := I.tuple (.of h3)
 exact HT.le_tupInts p1 p2 (show IntsAre its.toArray.toList ns from intsAre_of r1) (show IntsAre its2.toArray.toList ms from intsAre_of r2) hu ⟨.bl _, G, H, .refl H, ⟨σ, I, hs, hg⟩, ⟨.bl _, rfl, rfl⟩, q⟩
noncomputable def rLeI : R3 := rI0 fun i j => .bl (decide (i ≤ j))
noncomputable def rLeA : R3 := fun x y G Q => rLeI x y G Q ∨ rLeT x y G Q
theorem o_leA (hu : X.A.units + 20 < cLine) : Op3 X (compareOp .LtE) rLeA := o_le.or (o_leT (by omega))
theorem eqG_cases {G : Gp} {x y : T} {b : Bool} (h : eqG G x y = some b) :
  (∃ p q xs ys, x = .ref p ∧ y = .ref q ∧ G p = some (.lst xs) ∧ G q = some (.lst ys) ∧ eqOks xs = true ∧ eqOks ys = true ∧ b = eqTs xs ys) ∨ (eqOk x = true ∧ eqOk y = true ∧ b = eqT x y) := by
 by_cases hr : ∃ p q, x = .ref p ∧ y = .ref q
 ·obtain ⟨p, q, ex, ey⟩ := hr
  subst ex; subst ey
  refine .inl ?_
  simp only [eqG] at h
  split at h
  ·rename_i xs ys h1 h2
   split at h
   ·rename_i hc
    cases h
    exact ⟨p, q, xs, ys, rfl, rfl, h1, h2, hc.1, hc.2, rfl⟩
   ·cases h
  ·cases h
 ·refine .inr ?_
  have e : eqG G x y = if eqOk x = true ∧ eqOk y = true then some (eqT x y) else none := by
   cases x with
   | ref p => cases y with
    | ref q => exact absurd ⟨p, q, rfl, rfl⟩ hr
    | _ => rfl
   | _ => rfl
  rw [e] at h
  split at h
  ·rename_i hc
   cases h
   exact ⟨hc.1, hc.2, rfl⟩
  ·cases h
mutual
theorem reads_T {X : Cx} {pins : List (Addr × Obj)} {σ : L2.St} {H : Hp} {s : Shared} (I : Inv X pins σ H s) : ∀ (x : T) {a : V} {u : Value}, tree x = true → Rep X.K H x a → RelV a u → ∃ as, Reads s.heap u (td x) as
 | .non, a, u, _, r, q => by cases (show a = .non from r); cases q; exact ⟨_, .none⟩
 | .bl b, a, u, _, r, q => by cases (show a = .bl b from r); cases q; exact ⟨_, .bool b⟩
 | .int b, a, u, _, r, q => by cases (show a = .int b from r); obtain ⟨t, rfl⟩ := q; exact ⟨_, .int b t⟩
 | .str b, a, u, _, r, q => by cases (show a = .str b from r); obtain ⟨t, rfl⟩ := q; exact ⟨_, .str b t⟩
 | .tup xs, a, u, ht, r, q => by
  obtain ⟨p, vs, e1, h1, h2⟩ := (show ∃ p vs, a = .ref p ∧ H p = some (.tup vs) ∧ Reps X.K H xs vs from r)
  subst e1; cases q
  obtain ⟨its, rv, ⟨o, ho, hc, n, hd⟩, _⟩ := I.tuple (.of h1)
  obtain ⟨as, ra⟩ := reads_Ts I xs (show trees xs = true from ht) h2 rv
  exact ⟨_, .tuple ho hc hd (by simpa using ra)⟩
 | .ref _, _, _, ht, _, _ => absurd (show false = true from ht) Bool.false_ne_true
 | .scr _, _, _, ht, _, _ => absurd (show false = true from ht) Bool.false_ne_true
 | .ty _, _, _, ht, _, _ => absurd (show false = true from ht) Bool.false_ne_true
theorem reads_Ts {X : Cx} {pins : List (Addr × Obj)} {σ : L2.St} {H : Hp} {s : Shared} (I : Inv X pins σ H s) : ∀ (xs : List T) {vs : List V} {us : List Value}, trees xs = true → Reps X.K H xs vs → Vals vs us → ∃ as, ReadsAll s.heap us (tds xs) as
 | [], _, _, _, r, q => by cases r; cases q; exact ⟨_, .nil⟩
 | x :: xs, _, _, ht, ⟨v, ws, e, r1, r2⟩, q => by
  subst e
  cases q with
  | cons q1 q2 =>
   have hx : tree x = true ∧ trees xs = true := by simpa [trees] using ht
   obtain ⟨as, ra⟩ := reads_T I x hx.1 r1 q1
   obtain ⟨bs, rb⟩ := reads_Ts I xs hx.2 r2 q2
   exact ⟨_, .cons ra rb⟩
end
mutual
theorem eqv_T : ∀ (x y : T), tree x = true → tree y = true → PyData.eqv (td x) (td y) = eqT x y
 | .non, y, _, hy => by cases y <;> first | rfl | exact absurd (show false = true from hy) Bool.false_ne_true
 | .bl b, y, _, hy => by cases y <;> first | rfl | exact absurd (show false = true from hy) Bool.false_ne_true
 | .int b, y, _, hy => by cases y <;> first | rfl | exact absurd (show false = true from hy) Bool.false_ne_true
 | .str b, y, _, hy => by cases y <;> first | rfl | exact absurd (show false = true from hy) Bool.false_ne_true
 | .tup xs, y, hx, hy => by
  cases y with
  | tup ys => exact eqv_Ts xs ys (show trees xs = true from hx) (show trees ys = true from hy)
  | _ => first | rfl | exact absurd (show false = true from hy) Bool.false_ne_true
 | .ref _, _, ht, _ => absurd (show false = true from ht) Bool.false_ne_true
 | .scr _, _, ht, _ => absurd (show false = true from ht) Bool.false_ne_true
 | .ty _, _, ht, _ => absurd (show false = true from ht) Bool.false_ne_true
theorem eqv_Ts : ∀ (xs ys : List T), trees xs = true → trees ys = true → PyData.eqvAll (tds xs) (tds ys) = eqTs xs ys
 | [], [], _, _ => rfl
 | [], _ :: _, _, _ => rfl
 | _ :: _, [], _, _ => rfl
 | x :: xs, y :: ys, hx, hy => by
  have hx' : tree x = true ∧ trees xs = true := by simpa [trees] using hx
  have hy' : tree y = true ∧ trees ys = true := by simpa [trees] using hy
  show (PyData.eqv (td x) (td y) && PyData.eqvAll (tds xs) (tds ys)) = (eqT x y && eqTs xs ys)
  rw [eqv_T x y hx'.1 hy'.1, eqv_Ts xs ys hx'.2 hy'.2]
end
theorem eq_reads {pins : List (Addr × Obj)} {σ : L2.St} {H : Hp} {s : Shared} {G : Gp} {x y : T} {a b : V} {u v : Value} {k : Bool} (I : Inv X pins σ H s) (hg : GRel X.K H G) (ra : Rep X.K H x a) (rb : Rep X.K H y b) (ru : RelV a u) (rv : RelV b v) (h : eqG G x y = some k) :
  ∃ da db as bs, Reads s.heap u da as ∧ Reads s.heap v db bs ∧ da.canLay0 = true ∧ db.canLay0 = true ∧ da.depth ≤ 50 ∧ PyData.eqv da db = k := by
 rcases eqG_cases h with ⟨p, q, xs, ys, ex, ey, hp, hq, ox, oy, e⟩ | ⟨ox, oy, e⟩
 ·subst ex; subst ey
  cases (show a = .ref p from ra); cases (show b = .ref q from rb)
  cases ru; cases rv
  obtain ⟨vs, h1, h2⟩ := hg.lst hp
  obtain ⟨ws, h3, h4⟩ := hg.lst hq
  obtain ⟨its, r1, ⟨o, n, ho, hc, _, hd⟩, _⟩ := I.list (.of h1)
  obtain ⟨its', r2, ⟨o', n', ho', hc', _, hd'⟩, _⟩ := I.list (.of h3)
  simp only [eqOks, Bool.and_eq_true, decide_eq_true_eq] at ox oy
  obtain ⟨as, r3⟩ := reads_Ts I xs ox.1.1 h2 r1
  obtain ⟨bs, r4⟩ := reads_Ts I ys oy.1.1 h4 r2
  exact ⟨.list (tds xs), .list (tds ys), _, _, .list ho hc hd (by simpa using r3), .list ho' hc' hd' (by simpa using r4), ox.1.2, oy.1.2, ox.2, by rw [e]; exact eqv_Ts xs ys ox.1.1 oy.1.1⟩
 ·simp only [eqOk, Bool.and_eq_true, decide_eq_true_eq] at ox oy
  obtain ⟨as, r3⟩ := reads_T I x ox.1.1 ra ru
  obtain ⟨bs, r4⟩ := reads_T I y oy.1.1 rb rv
  exact ⟨td x, td y, _, _, r3, r4, ox.1.2, oy.1.2, ox.2, by rw [e]; exact eqv_T x y ox.1.1 oy.1.1⟩
theorem o_eqA (hu : X.A.units + 64 < cLine) : Op3 X (compareOp .Eq) rEqA := by
 intro pins s τ G H x y v u Q ⟨σ, I, hs, hg⟩ ⟨a, ra, rv⟩ ⟨b, rb, ru⟩ ⟨k, hk, q⟩
 obtain ⟨da, db, as, bs, r1, r2, c1, c2, d, e⟩ := eq_reads I hg ra rb rv ru hk
 exact SeqAt.compareEq_reads r1 r2 c1 c2 (by omega) ⟨.bl k, G, H, .refl H, ⟨σ, I, hs, hg⟩, ⟨.bl k, rfl, by rw [e]; rfl⟩, q⟩
theorem o_neA (hu : X.A.units + 64 < cLine) : Op3 X (compareOp .NotEq) rNeA := by
 intro pins s τ G H x y v u Q ⟨σ, I, hs, hg⟩ ⟨a, ra, rv⟩ ⟨b, rb, ru⟩ ⟨k, hk, q⟩
 obtain ⟨da, db, as, bs, r1, r2, c1, c2, d, e⟩ := eq_reads I hg ra rb rv ru hk
 exact SeqAt.compareNe_reads r1 r2 c1 c2 (by omega) ⟨.bl (!k), G, H, .refl H, ⟨σ, I, hs, hg⟩, ⟨.bl (!k), rfl, by rw [e]; rfl⟩, q⟩
end
end L3
namespace L3
open PySem PySem.Spec PyProof.Rows L2
section
variable {X : Cx}
noncomputable def keyOf : T → Option Key
 | .int i => some (.inl i)
 | .str x => some (.inr x)
 | _ => none
noncomputable def allK {K : Type} (f : T → Option K) : List T → Option (List K)
 | [] => some []
 | x :: xs => match f x, allK f xs with
  | some k, some ks => some (k :: ks)
  | _, _ => none
noncomputable def key1 : T → Option K1
 | .tup ts => (allK keyOf ts).map .inr
 | x => (keyOf x).map .inl
noncomputable def key2 : T → Option K2
 | .tup ts => (allK key1 ts).map .inr
 | x => (keyOf x).map .inl
noncomputable def keysOf : List T → Option TKey := allK key2
theorem keyOf_rep {K : PySem.W.Frag} {H : Hp} {x : T} {a : V} {k : Key} (h : keyOf x = some k) (r : Rep K H x a) : a = kV k := by
 cases x with
 | int i => cases h; exact r
 | str i => cases h; exact r
 | non => cases h
 | bl _ => cases h
 | tup _ => cases h
 | scr _ => cases h
 | ref _ => cases h
 | ty _ => cases h
theorem allK_rep {K : PySem.W.Frag} {H : Hp} {κ : Type} {f : T → Option κ} {R : κ → V → Prop} (hf : ∀ x k a, f x = some k → Rep K H x a → R k a) : ∀ {xs : List T} {vs : List V} {ks : List κ}, allK f xs = some ks → Reps K H xs vs → Paired R ks vs
 | [], _, _, h, r => by cases h; cases (show _ = [] from r); exact .nil
 | x :: xs, _, ks, h, ⟨v, ws, e, r1, r2⟩ => by
  subst e
  unfold allK at h
  cases e1 : f x with
  | none => rw [e1] at h; cases h
  | some k =>
   cases e2 : allK f xs with
   | none => rw [e1, e2] at h; cases h
   | some ks' =>
    rw [e1, e2] at h; cases h
    exact .cons (hf _ _ _ e1 r1) (allK_rep hf e2 r2)
theorem key1_rep {K : PySem.W.Frag} {H : Hp} (x : T) (k : K1) (a : V) (h : key1 x = some k) (r : Rep K H x a) : Rk1 H k a := by
 cases x with
 | tup ts =>
  obtain ⟨ks, h1, rfl⟩ := Option.map_eq_some_iff.mp (show (allK keyOf ts).map Sum.inr = some k from h)
  obtain ⟨p, vs, e, h3, h4⟩ := (show ∃ p vs, a = .ref p ∧ H p = some (.tup vs) ∧ Reps K H ts vs from r)
  exact ⟨p, vs, e, h3, allK_rep (fun x k a h r => keyOf_rep h r) h1 h4⟩
 | int i => cases h; exact r
 | str i => cases h; exact r
 | non => cases h
 | bl _ => cases h
 | scr _ => cases h
 | ref _ => cases h
 | ty _ => cases h
theorem key2_rep {K : PySem.W.Frag} {H : Hp} (x : T) (k : K2) (a : V) (h : key2 x = some k) (r : Rep K H x a) : Rk2 H k a := by
 cases x with
 | tup ts =>
  obtain ⟨ks, h1, rfl⟩ := Option.map_eq_some_iff.mp (show (allK key1 ts).map Sum.inr = some k from h)
  obtain ⟨p, vs, e, h3, h4⟩ := (show ∃ p vs, a = .ref p ∧ H p = some (.tup vs) ∧ Reps K H ts vs from r)
  exact ⟨p, vs, e, h3, allK_rep key1_rep h1 h4⟩
 | int i => cases h; exact r
 | str i => cases h; exact r
 | non => cases h
 | bl _ => cases h
 | scr _ => cases h
 | ref _ => cases h
 | ty _ => cases h
theorem keysOf_rep {K : PySem.W.Frag} {H : Hp} {xs : List T} {vs : List V} {ks : TKey} {p : Addr} (h : keysOf xs = some ks) (e : H p = some (.tup vs)) (r : Reps K H xs vs) : TKeyAt H ks p := ⟨vs, e, allK_rep key2_rep h r⟩
noncomputable def valT {κ : Type} [DecidableEq κ] (kvs : List (κ × T)) (k : κ) : Option T := (kvs.find? fun kv => decide (kv.1 = k)).map (·.2)
noncomputable def putT {κ : Type} [DecidableEq κ] (kvs : List (κ × T)) (k : κ) (v : T) : List (κ × T) :=
 if (kvs.any fun kv => decide (kv.1 = k)) = true then kvs.map (fun kv => if kv.1 = k then (kv.1, v) else kv) else kvs ++ [(k, v)]
theorem PKV.val {κ : Type} [DecidableEq κ] {K : PySem.W.Frag} {H : Hp} {kvs : List (κ × T)} {ws : List (κ × V)} (r : PKV K H kvs ws) (k : κ) : (∀ t, valT kvs k = some t → ∃ v, valV ws k = some v ∧ Rep K H t v) ∧ (valT kvs k).isSome = (valV ws k).isSome := by
 unfold PKV at r
 induction r with
 | nil => exact ⟨fun t h => by simp [valT] at h, rfl⟩
 | @cons p q ps qs h t ih =>
  by_cases e : p.1 = k
  ·have e' : q.1 = k := h.1.symm.trans e
   have b : valT (p :: ps) k = some p.2 := by simp [valT, List.find?_cons, e]
   rw [b, valV_pos e']
   exact ⟨fun t ht => by cases ht; exact ⟨q.2, rfl, h.2⟩, rfl⟩
  ·have e' : ¬ q.1 = k := fun z => e (h.1.trans z)
   have b : valT (p :: ps) k = valT ps k := by simp [valT, List.find?_cons, e]
   rw [b, valV_neg e']
   exact ih
theorem PKV.any {κ : Type} [DecidableEq κ] {K : PySem.W.Frag} {H : Hp} {kvs : List (κ × T)} {ws : List (κ × V)} (r : PKV K H kvs ws) (k : κ) : (kvs.any fun kv => decide (kv.1 = k)) = ws.any fun kv => decide (kv.1 = k) := by
 unfold PKV at r
 induction r with
 | nil => rfl
 | cons h t ih => rw [List.any_cons, List.any_cons, ih, h.1]
theorem PKV.put {κ : Type} [DecidableEq κ] {K : PySem.W.Frag} {H : Hp} {kvs : List (κ × T)} {ws : List (κ × V)} (r : PKV K H kvs ws) (k : κ) {t : T} {v : V} (rt : Rep K H t v) : PKV K H (putT kvs k t) (putK ws k v) := by
 unfold putT putK
 rw [r.any k]
 by_cases e : (ws.any fun kv => decide (kv.1 = k)) = true
 ·rw [if_pos e, if_pos e]
  unfold PKV at r ⊢
  clear e
  induction r with
  | nil => exact .nil
  | @cons p q ps qs h t' ih =>
   rw [List.map_cons, List.map_cons]
   refine .cons ?_ ih
   obtain ⟨h1, h2⟩ := h
   by_cases e : p.1 = k
   ·rw [if_pos e, if_pos (h1.symm.trans e)]; exact ⟨h1, rt⟩
   ·rw [if_neg e, if_neg (fun z => e (h1.trans z))]; exact ⟨h1, h2⟩
 ·rw [if_neg e, if_neg e]; exact Paired.snoc r ⟨rfl, rt⟩
theorem PKV.length {κ : Type} {K : PySem.W.Frag} {H : Hp} {kvs : List (κ × T)} {ws : List (κ × V)} (r : PKV K H kvs ws) : kvs.length = ws.length := Paired.length r
noncomputable def dAt (G : Gp) (x y : T) : Option (Option T) := match x with
 | .ref p => match G p with
  | some (.dct kvs) => match y with
   | .tup ys => match keysOf ys with
    | some ks => some (valT kvs ks)
    | none => none
   | _ => none
  | some (.dck kvs) => match keyOf y with
   | some k => some (valT kvs k)
   | none => none
  | _ => none
 | _ => none
theorem dAt_get {K : PySem.W.Frag} {H : Hp} {G : Gp} {x y : T} {a b : V} {o : Option T} (hg : GRel K H G) (ra : Rep K H x a) (rb : Rep K H y b) (h : dAt G x y = some o) :
  ∃ p ov, a = .ref p ∧ DGet H p b ov ∧ o.isSome = ov.isSome ∧ ∀ t, o = some t → ∃ v, ov = some v ∧ Rep K H t v := by
 unfold dAt at h
 split at h
 ·rename_i p
  cases (show a = .ref p from ra)
  split at h
  ·rename_i kvs hG
   split at h
   ·rename_i ys
    split at h
    ·rename_i ks hk
     cases h
     obtain ⟨ws, h1, h2⟩ := hg p _ hG
     obtain ⟨q, vs, e, h3, h4⟩ := (show ∃ q vs, b = .ref q ∧ H q = some (.tup vs) ∧ Reps K H ys vs from rb)
     subst e
     exact ⟨p, _, rfl, DGet.t h1 (keysOf_rep hk h3 h4), (h2.val ks).2, (h2.val ks).1⟩
    ·cases h
   ·cases h
  ·rename_i kvs hG
   split at h
   ·rename_i k hk
    cases h
    obtain ⟨ws, h1, h2⟩ := hg p _ hG
    rw [keyOf_rep hk rb]
    exact ⟨p, _, rfl, DGet.k h1, (h2.val k).2, (h2.val k).1⟩
   ·cases h
  ·cases h
 ·cases h
noncomputable def rDGet : R3 := fun x y G Q => ∃ t, dAt G x y = some (some t) ∧ Q t G
theorem ix_dict (hu : X.A.units + 20 < cLine) : Ix3 X rDGet := by
 intro value slice pins s τ G H x y v u Q ⟨σ, I, hs, hg⟩ ⟨a, ra, rv⟩ ⟨b, rb, ru⟩ ⟨t, hd, q⟩ hsl
 obtain ⟨p, ov, e, g, _, hh⟩ := dAt_get hg ra rb hd
 obtain ⟨w, ew, rw'⟩ := hh t rfl
 subst e; subst ew
 cases rv
 have hT : s.TypeIs (.ref p) "dict" := dict_typeIs I g
 unfold subscriptTail
 refine wpAny_bind ?_
 rw [getitemInPython_of_ne hT.not_modules]
 refine wpAny_bind (wpAny_specialOf hT PySem.F.slot_dict_getitem.lookup ?_)
 have fin : wpAny (model X.prog X.w) X.A (subscripted slice false (.ref p) u) (fun r s₃ => wpAny (model X.prog X.w) X.A (letTemporaryGo value (.ref p) r >>= fun _ => pure r) (EP3 X pins τ H Q) X.xe s₃) X.xe s := by
  rw [hsl]
  exact wpAny_operating (d_getItem hu I g ru fun w' s' I' r' => wpAny_bind (wpAny_letTemporaryGo (wpAny_pure ⟨t, G, H, .refl H, ⟨σ, I', hs, hg⟩, ⟨w, rw', r'⟩, q⟩)))
 first
  | exact wpAny_pure (wpAny_bind fin)
  | exact wpAny_bind (wpAny_pure (wpAny_bind fin))
  | exact wpAny_bind fin
theorem Ix3.or {r r' : R3} (h : Ix3 X r) (h' : Ix3 X r') : Ix3 X (fun x y G Q => r x y G Q ∨ r' x y G Q) := by
 intro value slice pins s τ G H x y v u Q I rx ry q hs
 rcases q with q | q
 ·exact h value slice pins s τ G H x y v u Q I rx ry q hs
 ·exact h' value slice pins s τ G H x y v u Q I rx ry q hs
noncomputable def rIxA : R3 := fun x y G Q => rIx x y G Q ∨ rDGet x y G Q
theorem ix_anyA (hu : X.A.units + 20 < cLine) : Ix3 X rIxA := ix_any.or (ix_dict hu)
noncomputable def tDctNew : TE3 := fun _ G Q => (∀ p, G p = none → Q (.ref p) (gup G p (.dct []))) ∨ ∀ p, G p = none → Q (.ref p) (gup G p (.dck []))
theorem e_dct {pos : Pos} : PE3 X (.Dict [] [] pos) tDctNew := by
 intro pins s τ G H Q ⟨σ, I, hs, hg⟩ h
 rcases h with h | h
 ·exact thn (pe_dnewT pins s σ H (up X.K H Q) I fun p hp => ⟨.ref p, _, .upd (.none hp), hg.upd (.none hp) (go := .dct []) ⟨[], upd_same, .nil⟩, rfl, h p (hg.fresh hp)⟩) fun u s' z => of_EP hs z
 ·exact thn (pe_dnewK pins s σ H (up X.K H Q) I fun p hp => ⟨.ref p, _, .upd (.none hp), hg.upd (.none hp) (go := .dck []) ⟨[], upd_same, .nil⟩, rfl, h p (hg.fresh hp)⟩) fun u s' z => of_EP hs z
noncomputable def rDPutT : T → T → T → Gp → (Gp → Prop) → Prop := fun o i v G Q => ∃ p ys ks kvs, o = .ref p ∧ i = .tup ys ∧ keysOf ys = some ks ∧ G p = some (.dct kvs) ∧ kvs.length < sizeLine ∧ Q (gup G p (.dct (putT kvs ks v)))
noncomputable def rDPutK : T → T → T → Gp → (Gp → Prop) → Prop := fun o i v G Q => ∃ p k kvs, o = .ref p ∧ keyOf i = some k ∧ G p = some (.dck kvs) ∧ kvs.length < sizeLine ∧ Q (gup G p (.dck (putT kvs k v)))
theorem s_dictT (hu : X.A.units + 20 < cLine) : Set3 X rDPutT := by
 intro pins s τ G H o i v ov iv u Q ⟨σ, I, hs, hg⟩ ⟨a, ra, rv⟩ ⟨b, rb, ru⟩ ⟨c, rc, rw'⟩ ⟨p, ys, ks, kvs, eo, ei, hk, hG, hz, q⟩
 subst eo; subst ei
 cases (show a = .ref p from ra); cases rv
 obtain ⟨ws, h1, h2⟩ := hg p _ hG
 obtain ⟨b', vs, e, h3, h4⟩ := (show ∃ q vs, b = .ref q ∧ H q = some (.tup vs) ∧ Reps X.K H ys vs from rb)
 subst e
 have h3 := keysOf_rep hk h3 h4
 have e : Ext H (upd H p (.dT (putK ws ks c))) := .upd (.dT h1)
 exact d_setItem hu I (DPut.t h1 h3 (by rw [← h2.length]; exact hz)) ru rw' fun s' I' => ⟨_, _, e, ⟨σ, I', hs.mono e, hg.upd (.dT h1) (go := .dct (putT kvs ks v)) ⟨_, upd_same, (h2.put ks rc).mono e⟩⟩, q⟩
theorem s_dictK (hu : X.A.units + 20 < cLine) : Set3 X rDPutK := by
 intro pins s τ G H o i v ov iv u Q ⟨σ, I, hs, hg⟩ ⟨a, ra, rv⟩ ⟨b, rb, ru⟩ ⟨c, rc, rw'⟩ ⟨p, k, kvs, eo, hk, hG, hz, q⟩
 subst eo
 cases (show a = .ref p from ra); cases rv
 obtain ⟨ws, h1, h2⟩ := hg p _ hG
 have eb := keyOf_rep hk rb
 subst eb
 have e : Ext H (upd H p (.dK (putK ws k c))) := .upd (.dK h1)
 exact d_setItem hu I (DPut.k h1 (by rw [← h2.length]; exact hz)) ru rw' fun s' I' => ⟨_, _, e, ⟨σ, I', hs.mono e, hg.upd (.dK h1) (go := .dck (putT kvs k v)) ⟨_, upd_same, (h2.put k rc).mono e⟩⟩, q⟩
theorem Set3.or {r r' : T → T → T → Gp → (Gp → Prop) → Prop} (h : Set3 X r) (h' : Set3 X r') : Set3 X (fun o i v G Q => r o i v G Q ∨ r' o i v G Q) := by
 intro pins s τ G H o i v ov iv u Q I ro ri rv q
 rcases q with q | q
 ·exact h pins s τ G H o i v ov iv u Q I ro ri rv q
 ·exact h' pins s τ G H o i v ov iv u Q I ro ri rv q
noncomputable def rSetA : T → T → T → Gp → (Gp → Prop) → Prop := fun o i v G Q => rSetL o i v G Q ∨ rDPutT o i v G Q ∨ rDPutK o i v G Q
theorem s_any (hu : X.A.units + 20 < cLine) : Set3 X rSetA := s_list.or ((s_dictT hu).or (s_dictK hu))
end
end L3
namespace L3
open PySem PySem.Spec PyProof.Rows L2
noncomputable def tyOfT (G : Gp) : T → Option String
 | .non => some "NoneType"
 | .bl _ => some "bool"
 | .int _ => some "int"
 | .str _ => some "str"
 | .tup _ => some "tuple"
 | .scr _ => some "list"
 | .ref p => match G p with
  | some (.lst _) => some "list"
  | some (.dct _) => some "dict"
  | some (.dck _) => some "dict"
  | none => none
 | .ty _ => none
noncomputable def subT (t n : String) : Option Bool :=
 if n = "bool" ∨ n = "int" ∨ n = "str" ∨ n = "list" ∨ n = "tuple" then some (t == n || (t == "bool" && n == "int")) else none
theorem kit_bool (K : PySem.W.Frag) {n : String} {b : Bool} (h : subT "bool" n = some b) : PySem.W.kitOne K (.type "bool") (.type n) = some b := by
 unfold subT at h
 split at h
 ·rename_i hn
  rcases hn with rfl | rfl | rfl | rfl | rfl <;> (cases h; kernel_rfl)
 ·cases h
theorem kit_none (K : PySem.W.Frag) {n : String} {b : Bool} (h : subT "NoneType" n = some b) : PySem.W.kitOne K (.type "NoneType") (.type n) = some b := by
 unfold subT at h
 split at h
 ·rename_i hn
  rcases hn with rfl | rfl | rfl | rfl | rfl <;> (cases h; kernel_rfl)
 ·cases h
theorem kit_int (K : PySem.W.Frag) {n : String} {b : Bool} (h : subT "int" n = some b) : PySem.W.kitOne K (.type "int") (.type n) = some b := by
 unfold subT at h
 split at h
 ·rename_i hn
  rcases hn with rfl | rfl | rfl | rfl | rfl <;> (cases h; kernel_rfl)
 ·cases h
theorem kit_str (K : PySem.W.Frag) {n : String} {b : Bool} (h : subT "str" n = some b) : PySem.W.kitOne K (.type "str") (.type n) = some b := by
 unfold subT at h
 split at h
 ·rename_i hn
  rcases hn with rfl | rfl | rfl | rfl | rfl <;> (cases h; kernel_rfl)
 ·cases h
theorem kit_tuple (K : PySem.W.Frag) {n : String} {b : Bool} (h : subT "tuple" n = some b) : PySem.W.kitOne K (.type "tuple") (.type n) = some b := by
 unfold subT at h
 split at h
 ·rename_i hn
  rcases hn with rfl | rfl | rfl | rfl | rfl <;> (cases h; kernel_rfl)
 ·cases h
theorem kit_list (K : PySem.W.Frag) {n : String} {b : Bool} (h : subT "list" n = some b) : PySem.W.kitOne K (.type "list") (.type n) = some b := by
 unfold subT at h
 split at h
 ·rename_i hn
  rcases hn with rfl | rfl | rfl | rfl | rfl <;> (cases h; kernel_rfl)
 ·cases h
theorem kit_dict (K : PySem.W.Frag) {n : String} {b : Bool} (h : subT "dict" n = some b) : PySem.W.kitOne K (.type "dict") (.type n) = some b := by
 unfold subT at h
 split at h
 ·rename_i hn
  rcases hn with rfl | rfl | rfl | rfl | rfl <;> (cases h; kernel_rfl)
 ·cases h
end L3
namespace L3
open PySem PySem.Spec PyProof.Rows L2
section
variable {X : Cx}
theorem e_ty {x : Str} {n : String} {pos : Pos} (hg : Gl X x) (hm : X.mg x = none) (hv : bootBuiltins x = some (.type n)) (hn : x ≠ "__name__" := by decide) (hd : (x == ("__debug__" : Str)) = false := by decide) : PE3 X (.Name x pos) (tC (.ty n)) :=
 fun pins s τ G H Q ⟨σ, I, hs, hg'⟩ q => thn (pe_bltn (v := .ty n) hg hm hv rfl hn hd pins s σ H (up X.K H Q) I ⟨.ty n, G, .refl H, hg', rfl, q⟩) fun u s' h => of_EP hs h
noncomputable def kitT (t : String) : List T → Option Bool
 | [] => some false
 | .ty n :: r => match subT t n with
  | some true => some true
  | some false => kitT t r
  | none => none
 | _ :: _ => none
noncomputable def isiC : Option String → T → Option Bool
 | some t, .ty n => subT t n
 | some t, .tup cs => kitT t cs
 | _, _ => none
noncomputable def isiT (G : Gp) (x c : T) : Option Bool := isiC (tyOfT G x) c
noncomputable def rIsi : List T → Gp → VK3 → Prop := fun xs G Q => ∃ x c b, xs = [x, c] ∧ isiT G x c = some b ∧ Q (.bl b) G
theorem kit_any {K : PySem.W.Frag} {H : Hp} {t : String} (ok : ∀ n b, subT t n = some b → PySem.W.kitOne K (.type t) (.type n) = some b) : ∀ {cs : List T} {vs : List V} {us : List Value} {b : Bool}, Reps K H cs vs → Vals vs us → kitT t cs = some b → PySem.W.kitAny K (.type t) us = some b
 | [], _, _, _, r, q, h => by cases r; cases q; exact h
 | c :: cs, _, _, b, ⟨v, ws, e, r1, r2⟩, q, h => by
  subst e
  cases q with
  | cons q1 q2 =>
   cases c with
   | ty n =>
    cases (show v = .ty n from r1)
    cases q1
    unfold kitT at h
    unfold PySem.W.kitAny
    cases e : subT t n with
    | none => rw [e] at h; cases h
    | some k =>
     rw [e] at h
     rw [ok n k e]
     cases k with
     | true => exact h
     | false => exact kit_any ok r2 q2 h
   | _ => cases h
theorem isi_core {pins : List (Addr × Obj)} {τ : St3} {G : Gp} {H : Hp} {s : Shared} {σ : L2.St} {c : T} {cv : V} {u cu : Value} {t : String} {b : Bool} {Q : VK3} {Hh : Heap → Prop} (I : Inv X pins σ H s) (hs : SRel X.K H σ τ) (hg : GRel X.K H G)
  (Z : PySem.W.KitX X.K u (.type t) Hh) (p : Hh s.heap) (hx : u ≠ .builtin "__main__.__loader__#opaque") (ok : ∀ n b, subT t n = some b → PySem.W.kitOne X.K (.type t) (.type n) = some b)
  (rc : Rep X.K H c cv) (ru : RelV cv cu) (h : isiC (some t) c = some b) (q : Q (.bl b) G) :
  wpAny (model X.prog X.w) X.A (call (.builtin "isinstance") [u, cu]) (EP3 X pins τ H Q) X.xe s := by
 have fin : ∀ tk, EP3 X pins τ H Q (.bool b) { s with toks := tk } := fun tk => ⟨.bl b, G, H, .refl H, ⟨σ, I.tok tk, hs, hg⟩, ⟨.bl b, rfl, rfl⟩, q⟩
 cases c with
 | ty n =>
  cases (show cv = .ty n from rc); cases ru
  exact PySem.W.kia_one Z I.kIn p (ok n b h) hx fin
 | tup cs =>
  obtain ⟨pp, vs, e, h1, h2⟩ := (show ∃ p vs, cv = .ref p ∧ H p = some (.tup vs) ∧ Reps X.K H cs vs from rc)
  subst e; cases ru
  obtain ⟨its, rv, ⟨⟨cls, dd, data, sl⟩, ho, hc, n, hd⟩, _⟩ := I.tuple (.of h1)
  simp only at hc hd
  subst hc hd
  exact PySem.W.kia_tup Z I.kIn p ho (kit_any ok h2 rv h) hx fin
 | _ => cases h
theorem c_isi : Call3 X (.builtin "isinstance") rIsi := by
 intro pins s τ G H xs us Q ⟨σ, I, hs, hg⟩ ⟨as, ras, rvs⟩ ⟨x, c, b, e, h, q⟩
 subst e
 obtain ⟨a, cv, rfl, ra, rc⟩ := reps2 ras
 obtain ⟨u, cu, rfl, ru, rcu⟩ := rvs.two
 unfold isiT at h
 cases x with
 | non => cases (show a = .non from ra); cases ru; exact isi_core I hs hg PySem.W.kitx_none True.intro (fun z => nomatch z) (fun n b => kit_none _) rc rcu h q
 | bl k => cases (show a = .bl k from ra); cases ru; exact isi_core I hs hg PySem.W.kitx_bool True.intro (fun z => nomatch z) (fun n b => kit_bool _) rc rcu h q
 | int k => cases (show a = .int k from ra); obtain ⟨t, rfl⟩ := ru; exact isi_core I hs hg PySem.W.kitx_int True.intro (fun z => nomatch z) (fun n b => kit_int _) rc rcu h q
 | str k => cases (show a = .str k from ra); obtain ⟨t, rfl⟩ := ru; exact isi_core I hs hg PySem.W.kitx_str True.intro (fun z => nomatch z) (fun n b => kit_str _) rc rcu h q
 | tup ys =>
  obtain ⟨p, vs, e, h1, h2⟩ := (show ∃ p vs, a = .ref p ∧ H p = some (.tup vs) ∧ Reps X.K H ys vs from ra)
  subst e; cases ru
  obtain ⟨its, rv, ⟨o, ho, hc, _⟩, _⟩ := I.tuple (.of h1)
  exact isi_core I hs hg PySem.W.kitx_tuple ⟨o, ho, hc⟩ (fun z => nomatch z) (fun n b => kit_tuple _) rc rcu h q
 | scr ys =>
  obtain ⟨p, vs, e, h1, h2⟩ := (show ∃ p vs, a = .ref p ∧ FrL X.K H p vs ∧ Reps X.K H ys vs from ra)
  subst e; cases ru
  obtain ⟨its, rv, ⟨o, n, ho, hc, _⟩, _⟩ := I.list h1.sq
  exact isi_core I hs hg PySem.W.kitx_list ⟨o, ho, hc⟩ (fun z => nomatch z) (fun n b => kit_list _) rc rcu h q
 | ref p =>
  cases (show a = .ref p from ra); cases ru
  cases hG : G p with
  | none => simp only [tyOfT, hG] at h; cases h
  | some g =>
   cases g with
   | lst ys =>
    simp only [tyOfT, hG] at h
    obtain ⟨vs, h1, h2⟩ := hg.lst hG
    obtain ⟨its, rv, ⟨o, n, ho, hc, _⟩, _⟩ := I.list (.of h1)
    exact isi_core I hs hg PySem.W.kitx_list ⟨o, ho, hc⟩ (fun z => nomatch z) (fun n b => kit_list _) rc rcu h q
   | dct kvs =>
    simp only [tyOfT, hG] at h
    obtain ⟨ws, h1, _⟩ := hg p _ hG
    obtain ⟨_, _, xs, _, o, es, ep, h3, h4, _⟩ := (show ObjOk X.prog X.w H s.heap p (.dT ws) from I.hok p _ h1)
    exact isi_core I hs hg PySem.W.kitx_dict ⟨o, h3, h4.1⟩ (fun z => nomatch z) (fun n b => kit_dict _) rc rcu h q
   | dck kvs =>
    simp only [tyOfT, hG] at h
    obtain ⟨ws, h1, _⟩ := hg p _ hG
    obtain ⟨_, _, vs, _, pp⟩ := (show ObjOk X.prog X.w H s.heap p (.dK ws) from I.hok p _ h1)
    obtain ⟨o, es, ep, h3, h4, _⟩ := pp
    exact isi_core I hs hg PySem.W.kitx_dict ⟨o, h3, h4.1⟩ (fun z => nomatch z) (fun n b => kit_dict _) rc rcu h q
 | ty _ => cases h
noncomputable abbrev TO3 := St3 → Gp → (Option Int → Gp → Prop) → Prop
noncomputable def PO3 (X : Cx) (e : Option Expr) (t : TO3) : Prop :=
 ∀ (pins : List (Addr × Obj)) (s : Shared) (τ : St3) (G : Gp) (H : Hp) (Q : Option Int → Gp → Prop), Inv3 X pins τ G H s → t τ G Q →
  wpAny (model X.prog X.w) X.A (evalPart e X.env) (fun u s' => ∃ o G' H', Ext H H' ∧ Inv3 X pins τ G' H' s' ∧ IsPart u o ∧ Q o G') X.xe s
noncomputable def tNoPart : TO3 := fun _ G Q => Q none G
noncomputable def tPart (t : TE3) : TO3 := fun τ G Q => t τ G fun x G1 => ∃ i, x = .int i ∧ Q (some i) G1
theorem p_none : PO3 X none tNoPart := by
 intro pins s τ G H Q I h
 rw [evalPart_none]
 exact wpAny_pure ⟨none, G, H, .refl H, I, .none, h⟩
theorem p_some {e : Expr} {te : TE3} (h : PE3 X e te) : PO3 X (some e) (tPart te) := by
 intro pins s τ G H Q I hw
 rw [evalPart_some]
 refine thn (h pins s τ G H _ I hw) fun u s1 w_ => w_.el fun x G1 H1 e1 I1 r_ ⟨i, ex, q⟩ => r_.el fun v rv ru => ?_
 subst ex
 cases (show v = .int i from rv)
 obtain ⟨t, rfl⟩ := ru
 exact ⟨some i, G1, H1, e1, I1, .int i t, q⟩
noncomputable def Sl3 (X : Cx) (r : T → Option Int → Option Int → Gp → VK3 → Prop) : Prop :=
 ∀ (pins : List (Addr × Obj)) (s : Shared) (τ : St3) (G : Gp) (H : Hp) (x : T) (v vl vu : Value) (lo hi : Option Int) (sl : Addr) (Q : VK3), Inv3 X pins τ G H s → RU X.K H x v → s.heap.IsSliceOf sl vl vu .none → IsPart vl lo → IsPart vu hi → r x lo hi G Q →
  ∃ T id, typeLookup (.type T) "__getitem__" = pure (some (.builtin id)) ∧ s.TypeIs v T ∧ wpAny (model X.prog X.w) X.A (getItem v (.ref sl)) (EP3 X pins τ H Q) X.xe s
noncomputable def tSl (r : T → Option Int → Option Int → Gp → VK3 → Prop) (te : TE3) (tl th : TO3) : TE3 := fun τ G Q => te τ G fun x G1 => tl τ G1 fun l G2 => th τ G2 fun u G3 => r x l u G3 Q
theorem e_slice {r : T → Option Int → Option Int → Gp → VK3 → Prop} {e : Expr} {te : TE3} {lo hi : Option Expr} {tl th : TO3} {pos p2 : Pos} (hr : Sl3 X r) (he : PE3 X e te) (hl : PO3 X lo tl) (hu : PO3 X hi th) : PE3 X (.Subscript e (.Slice lo hi none p2) pos) (tSl r te tl th) := by
 intro pins s τ G H Q I h
 refine Subscript_ (thn (he pins s τ G H _ I h) fun v s1 w_ => w_.el fun x G1 H1 e1 I1 r1 q1 => ?_)
 refine wpAny_Slice (thn (hl pins s1 τ G1 H1 _ I1 q1) fun vl s2 ⟨l, G2, H2, e2, I2, pl, q2⟩ => thn (hu pins s2 τ G2 H2 _ I2 q2) fun vu s3 ⟨u, G3, H3, e3, ⟨σ, I3, hs3, hg3⟩, pu, q3⟩ => ?_)
 rw [evalPart_none]
 refine wpAny_pure ?_
 have I4 : Inv X pins σ H3 { s3 with heap := s3.heap.push { cls := .type "slice", data := .fields #[vl, vu, .none] } } := I3.kept (t' := s3.toks) fun b ob q => Heap.get?_push_of_some _ q
 obtain ⟨T0, id, hT, ht, hg⟩ := hr pins { s3 with heap := s3.heap.push { cls := .type "slice", data := .fields #[vl, vu, .none] } } τ G3 H3 x v vl vu l u s3.heap.objs.size Q ⟨σ, I4, hs3, hg3⟩ ((r1.mono e2).mono e3) (Heap.IsSliceOf.new ..) pl pu q3
 show wpAny (model X.prog X.w) X.A (subscriptTail e (.Slice lo hi none p2) v (.ref s3.heap.objs.size)) (EP3 X pins τ H Q) X.xe { s3 with heap := s3.heap.push { cls := .type "slice", data := .fields #[vl, vu, .none] } }
 exact thn (tail_any (ops := [.ref s3.heap.objs.size, v]) ht hT hg (by with_unfolding_all rfl)) fun _ _ z => z.ext ((e1.trans e2).trans e3)
noncomputable def cutT (xs : List T) (lo hi : Option Int) : List T := (xs.drop (HT.sIx xs.length 0 lo)).take (HT.sIx xs.length xs.length hi - HT.sIx xs.length 0 lo)
noncomputable def rSlA : T → Option Int → Option Int → Gp → VK3 → Prop := fun x lo hi G Q =>
 (∃ xs, listT G x = some xs ∧ ∀ p, G p = none → Q (.ref p) (gup G p (.lst (cutT xs lo hi)))) ∨ ∃ xs, x = .tup xs ∧ Q (.tup (cutT xs lo hi)) G
end
end L3
namespace HT
open PySem PyProof.Rows
theorem getItem_tuple_whole {prog : Program} {w : World} {A : Around} {E : Value → Shared → Prop} {s : Shared} {t sl : Addr} {items : Array Value} {vl vu : Value} {lo hi : Option Int} {Q : Value → Shared → Prop} (ht : IsTup s.heap t items) (hs : s.heap.IsSliceOf sl vl vu .none) (pl : IsPart vl lo) (pu : IsPart vu hi)
  (hw : sIx items.size 0 lo = 0 ∧ sIx items.size items.size hi = items.size) (h : Q (.ref t) s) : wpAny (model prog w) A (getItem (.ref t) (.ref sl)) Q E s := by
 obtain ⟨os, hos, hcs, hds⟩ := id hs
 have hTs : s.TypeIs (.ref sl) "slice" := ⟨os, hos, hcs⟩
 unfold getItem
 try with_reducible refine wpAny_holding ?_
 first | refine wpAny_bind (wpAny_pure ?_) | skip
 refine wpAny_bind (wpAny_sequenceKey ht.typeIs (by decide) ?_)
 refine wpAny_bind (wpAny_callSpecial?_slot (name := Str.ofString "__getitem__") ht.typeIs PyProof.Rows.slot_tuple_getitem
  (wpAny_call_entry PyProof.Rows.slot_tuple_getitem ht.typeIs entry_tuple_getitem ?_ (args_tuple_getitem _ _)))
 show wpAny _ _ (Builtin.Tuple.tupleItemsOf (.ref t) >>= _) _ _ s
 refine wpAny_bind (tupleItemsOf_ ht ?_)
 refine wpAny_bind (wpAny_typeOf hTs ?_)
 rw [if_pos (by decide)]
 refine wpAny_bind (sliceApplied_gen hs pl pu ?_)
 have hyes : (((sIx items.size 0 lo : Nat) : Int) == 0 && (1 : Int) == 1 && (sIx items.size items.size hi - sIx items.size 0 lo) == items.size) = true := by
  rw [hw.1, hw.2]; simp
 show wpAny _ _ (if (((sIx items.size 0 lo : Nat) : Int) == 0 && (1 : Int) == 1 && (sIx items.size items.size hi - sIx items.size 0 lo) == items.size) = true then _ else _) _ _ s
 rw [if_pos hyes]
 refine wpAny_bind ?_
 unfold Builtin.Tuple.tupleIsExact
 refine wpAny_bind (wpAny_typeOf ht.typeIs (wpAny_pure ?_))
 rw [if_pos (by decide)]
 exact wpAny_bind (wpAny_rule (wpAny_pure ⟨_, rfl, wpAny_pure h⟩))
end HT
namespace L3
open PySem PySem.Spec PyProof.Rows L2
section
variable {X : Cx}
theorem Reps.cut {K : PySem.W.Frag} {H : Hp} {xs : List T} {vs : List V} (r : Reps K H xs vs) (lo hi : Option Int) : Reps K H (cutT xs lo hi) (cutV vs lo hi) := by
 unfold cutT cutV
 rw [← r.length]
 exact (r.drop _).take _
theorem cutT_whole {xs : List T} {lo hi : Option Int} (h : HT.sIx xs.length 0 lo = 0 ∧ HT.sIx xs.length xs.length hi = xs.length) : cutT xs lo hi = xs := by
 unfold cutT
 rw [h.1, h.2]
 simp
theorem sl_any : Sl3 X rSlA := by
 intro pins s τ G H x v vl vu lo hi sl Q ⟨σ, I, hs, hg⟩ ⟨a, ra, rv⟩ hsl pl pu h
 rcases h with ⟨xs, hx, q⟩ | ⟨xs, ex, q⟩
 ·obtain ⟨p, vs, e, hq, r⟩ := list_now hg ra hx
  subst e
  obtain ⟨T0, id, h1, h2, h3⟩ := sl_list pins s σ H (.ref p) v vl vu lo hi sl (up X.K H Q) I rv hsl pl pu ⟨p, vs, rfl, hq, fun l hl => ⟨.ref l, _, .upd (.none hl), hg.lstNew (r.cut lo hi) (.none hl), rfl, q l (hg.fresh hl)⟩⟩
  exact ⟨T0, id, h1, h2, thn h3 fun _ _ z => of_EP hs z⟩
 ·subst ex
  obtain ⟨p, vs, e, h1, h2⟩ := (show ∃ p vs, a = .ref p ∧ H p = some (.tup vs) ∧ Reps X.K H xs vs from ra)
  subst e
  by_cases hw : HT.sIx xs.length 0 lo = 0 ∧ HT.sIx xs.length xs.length hi = xs.length
  ·cases rv
   obtain ⟨its, rv', ht, hz⟩ := I.tuple (.of h1)
   have hlen : its.toArray.size = xs.length := by rw [List.size_toArray, ← rv'.length, h2.length]
   refine ⟨"tuple", _, PyProof.Rows.slot_tuple_getitem.lookup, ht.typeIs, HT.getItem_tuple_whole ht hsl pl pu (by rw [hlen]; exact hw) ?_⟩
   rw [cutT_whole hw] at q
   exact ⟨.tup xs, G, H, .refl H, ⟨σ, I, hs, hg⟩, ⟨.ref p, ra, rfl⟩, q⟩
  ·obtain ⟨T0, id, h3, h4, h5⟩ := sl_tup pins s σ H (.ref p) v vl vu lo hi sl (up X.K H Q) I rv hsl pl pu ⟨p, vs, rfl, .of h1, by rw [← h2.length]; exact hw, fun l hl => ⟨.tup (cutT xs lo hi), G, .upd (.none hl), hg.tupNew hl, Rep.tupNew (h2.cut lo hi) hl, q⟩⟩
   exact ⟨T0, id, h3, h4, thn h5 fun _ _ z => of_EP hs z⟩
noncomputable def tListRange (ta : TA3) : TE3 := fun τ G Q => ta τ G fun vs G1 => ∃ j : Int, vs = [.int j] ∧ -(2 ^ 62) ≤ j ∧ j ≤ 2 ^ 20 ∧ ∀ p, G1 p = none → Q (.ref p) (gup G1 p (.lst (rngT 0 j.toNat)))
theorem reps_rng {K : PySem.W.Frag} {H : Hp} {n : Nat} {vs : List V} (hl : vs.length = n) (h : ∀ (i : Nat) v, vs[i]? = some v → v = .int (0 + i)) : Reps K H (rngT 0 n) vs := by
 have e : vs = (List.range n).map fun (k : Nat) => V.int (0 + k) := by
  apply List.ext_getElem?
  intro i
  cases hv : vs[i]? with
  | none =>
   have : n ≤ i := by rw [← hl]; exact List.getElem?_eq_none_iff.mp hv
   simp [this]
  | some v =>
   have hi : i < n := by rw [← hl]; exact (List.getElem?_eq_some_iff.mp hv).1
   rw [h i v hv]; simp [hi]
 rw [e]
 unfold rngT
 generalize List.range n = l
 induction l with
 | nil => rfl
 | cons k ks ih => exact ⟨_, _, rfl, rfl, ih⟩
end
end L3
namespace L3
open PySem PySem.Spec PyProof.Rows L2
section
variable {X : Cx}
theorem e_listRange {a : Expr} {ta : TA3} {pos p p2 p3 : Pos} (hgl : Gl X "list") (hml : X.mg "list" = none) (hgr : Gl X "range") (hmr : X.mg "range" = none) (hc : X.calm = true) (ha : PA3 X [a] ta) (hs : starEach [a] X.env = [(false, eval a X.env)] := by rfl)
  (ho : starEach [Expr.Call (.Name "range" p2) [a] [] p3] X.env = [(false, eval (.Call (.Name "range" p2) [a] [] p3) X.env)] := by rfl) :
  PE3 X (.Call (.Name "list" p) [.Call (.Name "range" p2) [a] [] p3] [] pos) (tListRange ta) := by
 intro pins s τ G H Q I h
 obtain ⟨σ0, I0, hs0, hg0⟩ := id I
 refine wpAny_Call_Name_kw (ld_blt I0 hgl hml (u := .type "list") (by rfl) ?_)
 refine PyProof.Rows.callWith_type1 (T := "list") ?_ ho rfl
 rw [ho]
 show wpAny _ _ (spliced ((false, eval (.Call (.Name "range" p2) [a] [] p3) X.env) :: backTo pos [])) _ _ s
 refine Calls.spliced_cons ?_
 refine Call_ (ld_blt I0 hgr hmr boot_range (PyProof.Rows.callWith_type1 (thn (ha p3 pins s τ G H _ I h) fun us s1 w_ => w_.el fun xs G1 H1 e1 i_ r_ ⟨j, e, q1, q2, q⟩ => i_.el fun σ I1 hs1 hg1 => r_.el fun as ras rvs => ?_) hs rfl))
 subst e
 obtain ⟨v, rfl, rv⟩ := reps1 ras
 cases (show v = .int j from rv)
 obtain ⟨u, rfl, ru⟩ := rvs.one
 obtain ⟨t, rfl⟩ := ru
 refine call_range_1 ?_
 refine Calls.spliced_nil ?_
 have I2 : Inv X pins σ H1 { s1 with heap := s1.heap.push { cls := .type "range", data := .fields #[.int 0 s1.toks, .int j t, .int 1 (s1.toks + 1)] }, toks := s1.toks + 1 + 1 } := I1.kept fun b o e => Heap.get?_push_of_some _ e
 refine call_list_range (n := j.toNat) (I1.ok.hd hc) (IsRange.new ..) (small_one (by omega) (by omega) q1 (by omega)) (by rw [rangeSize_one]; split <;> omega) (by omega) fun h' tk acc' c' hk hobj hit => ?_
 have hf : H1 (s1.heap.push { cls := .type "range", data := .fields #[.int 0 s1.toks, .int j t, .int 1 (s1.toks + 1)] }).objs.size = none := I2.hok.fresh (Nat.le_refl _)
 have hz : acc'.size ≤ sizeLine := by rw [hit.1, sizeLine_eq]; omega
 obtain ⟨vs, hvs, rr⟩ : ∃ vs : List V, Vals vs acc'.toList ∧ Reps X.K H1 (rngT 0 j.toNat) vs := by
  refine ⟨(List.range j.toNat).map fun (k : Nat) => V.int (0 + k), ?_, reps_rng (by simp) (fun i v hv => ?_)⟩
  ·have all : ∀ (l : List Value) (n0 : Nat), (∀ (i : Nat) v, l[i]? = some v → ∃ t, v = .int ((0 : Int) + ((n0 + i : Nat) : Int) * 1) t) → Vals ((List.range' n0 l.length).map fun (k : Nat) => V.int (0 + k)) l := by
    intro l
    induction l with
    | nil => intro n0 _; exact .nil
    | cons v l ih =>
     intro n0 hh
     obtain ⟨t, ht⟩ := hh 0 v rfl
     rw [List.length_cons, List.range'_succ, List.map_cons]
     refine .cons ⟨t, by rw [ht]; simp⟩ (ih (n0 + 1) fun i w hw => ?_)
     obtain ⟨t', ht'⟩ := hh (i + 1) w (by simpa using hw)
     exact ⟨t', by rw [ht']; congr 1; omega⟩
   have := all acc'.toList 0 (fun i v hv => by
    obtain ⟨t, ht⟩ := hit.2 i v (by simpa using hv)
    exact ⟨t, by rw [ht]; simp⟩)
   rw [List.range_eq_range']
   rw [show acc'.toList.length = j.toNat by simpa using hit.1] at this
   exact this
  ·rw [List.getElem?_map] at hv
   cases e : (List.range j.toNat)[i]? with
   | none => rw [e] at hv; cases hv
   | some k =>
    rw [e] at hv; cases hv
    have := List.getElem?_eq_some_iff.mp e
    obtain ⟨h1, h2⟩ := this
    simp at h2; rw [← h2]
 refine ⟨.ref _, _, _, e1.trans (.upd (.none hf)), ⟨σ, I2.laid (t' := tk) (o := .lst vs) hk (Nat.le_refl _) ⟨by rw [hvs.length]; simpa using hz, acc'.toList, c', hvs, by simpa using hobj⟩, hs1.mono (.upd (.none hf)), hg1.lstNew rr (.none hf)⟩, ⟨.ref _, rfl, rfl⟩, q _ (hg1.fresh hf)⟩
noncomputable def insT (xs : List T) (k : Nat) (y : T) : List T := xs.take k ++ y :: xs.drop k
noncomputable def rInsert : T → List T → Gp → VK3 → Prop := fun x as G Q => ∃ p xs k y, x = .ref p ∧ as = [.int k, y] ∧ G p = some (.lst xs) ∧ 0 ≤ k ∧ k ≤ xs.length ∧ xs.length < sizeLine ∧ Q .non (gup G p (.lst (insT xs k.toNat y)))
theorem m_insert : Mt3 X "list.insert" rInsert := by
 intro pins s τ G H x as v us Q ⟨σ, I, hs, hg⟩ ⟨a, ra, rv⟩ ⟨bs, rbs, rus⟩ ⟨p, xs, k, y, ex, ea, hp, k0, k1, hz, q⟩
 subst ex; subst ea
 cases (show a = .ref p from ra); cases rv
 obtain ⟨b1, b2, rfl, r1, r2⟩ := reps2 rbs
 cases (show b1 = .int k from r1)
 obtain ⟨u1, u2, rfl, ru1, ru2⟩ := rus.two
 obtain ⟨t, rfl⟩ := ru1
 obtain ⟨vs, h1, h2⟩ := hg.lst hp
 obtain ⟨z, its, n, r, hl, e⟩ := I.lstM h1
 have hlen := h2.length
 have hfit : ¬ (!Builtin.List.listFitsIndex k) = true := by
  have h63 := line63
  rw [fitsIndex_both (by omega) (by omega)]
  exact Bool.false_ne_true
 refine call_meets F.slot_list_insert ⟨_, e, rfl⟩ F.entry_list_insert (F.args_list_insert_3 _ _ _) (AutoSeq1.list_insert_list_int_val_1 p its.toArray n k t u2 hfit (by rw [List.size_toArray]; omega)) ⟨e, ?_⟩
 have e2 : Ext H (upd H p (.lst (vs.take k.toNat ++ b2 :: vs.drop k.toNat))) := .upd (.lst h1)
 refine ⟨.non, _, _, e2, ⟨σ, I.lset (its' := its.take k.toNat ++ u2 :: its.drop k.toNat) h1 e ?_ ((r.take _).append (.cons ru2 (r.drop _))) ?_, hs.mono e2, hg.lstNew (xs := insT xs k.toNat y) ((h2.take _).append ⟨b2, _, rfl, r2, h2.drop _⟩) (.lst h1)⟩, ⟨.non, rfl, rfl⟩, q⟩
 ·have hk : ¬ k < 0 := by omega
  have hm : min k.toNat its.toArray.size = k.toNat := by rw [List.size_toArray]; omega
  simp only [hk, if_false, hm]
  apply Array.ext'
  simp [Array.toList_extract]
  rw [List.take_of_length_le (Nat.le_of_eq (by simp))]
 ·simp only [List.length_append, List.length_cons, List.length_take, List.length_drop]
  omega
noncomputable def allBl : List T → Option Bool
 | [] => some true
 | .bl b :: r => match allBl r with
  | some c => some (b && c)
  | none => none
 | _ :: _ => none
noncomputable def rAll : List T → Gp → VK3 → Prop := fun as G Q => ∃ p xs b, as = [.ref p] ∧ G p = some (.lst xs) ∧ allBl xs = some b ∧ Q (.bl b) G
theorem allBl_map : ∀ {xs : List T} {b : Bool}, allBl xs = some b → ∃ bs : List Bool, xs = bs.map T.bl ∧ b = bs.all (fun x => x)
 | [], b, h => by cases h; exact ⟨[], rfl, rfl⟩
 | .bl c :: r, b, h => by
  unfold allBl at h
  cases e : allBl r with
  | none => rw [e] at h; cases h
  | some d =>
   rw [e] at h; cases h
   obtain ⟨bs, h1, h2⟩ := allBl_map e
   exact ⟨c :: bs, by rw [h1]; rfl, by rw [h2]; rfl⟩
 | .non :: _, _, h => by cases h
 | .int _ :: _, _, h => by cases h
 | .str _ :: _, _, h => by cases h
 | .tup _ :: _, _, h => by cases h
 | .scr _ :: _, _, h => by cases h
 | .ref _ :: _, _, h => by cases h
 | .ty _ :: _, _, h => by cases h
theorem reps_bls {K : PySem.W.Frag} {H : Hp} : ∀ {bs : List Bool} {vs : List V} {us : List Value}, Reps K H (bs.map T.bl) vs → Vals vs us → us = bs.map Value.bool
 | [], _, _, h, q => by cases h; cases q; rfl
 | n :: ns, _, _, ⟨v, ws, e, r, rs⟩, q => by
  subst e; cases (show v = .bl n from r)
  cases q with
  | cons q1 q2 => cases q1; rw [reps_bls rs q2]; rfl
theorem all_range : ∀ (bs : List Bool), bs.all (fun x => x) = (List.range bs.length).all fun i => bs.getD i true
 | [] => rfl
 | b :: bs => by
  rw [List.all_cons, all_range bs, List.length_cons, List.range_succ_eq_map, List.all_cons, List.all_map]
  simp [Function.comp_def, List.getD]
theorem c_all (hc : X.calm = true) : Call3 X (.builtin "all") rAll := by
 intro pins s τ G H as us Q ⟨σ, I, hs, hg⟩ ⟨bs', rbs, rus⟩ ⟨p, xs, b, e, hp, hb, q⟩
 subst e
 obtain ⟨a, rfl, ra⟩ := reps1 rbs
 cases (show a = .ref p from ra)
 obtain ⟨u, rfl, ru⟩ := rus.one
 cases ru
 obtain ⟨vs, h1, h2⟩ := hg.lst hp
 obtain ⟨bs, ex, eb⟩ := allBl_map hb
 subst ex
 obtain ⟨its, rv, pl, hz⟩ := I.list (.of h1)
 have eit := reps_bls h2 rv
 subst eit
 refine call_all_walk (wpAny_pyIter_list pl.isList ?_)
 have hne : p ≠ s.heap.objs.size := by obtain ⟨o, n, ho, _⟩ := pl; exact Nat.ne_of_lt (Heap.lt_size ho)
 refine ⟨s.heap.objs.size, [s.heap.objs.size, p], [s.heap.objs.size], (bs.map Value.bool).toArray.size, _, _, fun i => bs.getD i true, rfl, Walks.list (A := X.A.in1) (show X.A.in1.handled = none from I.ok.hd hc) s.heap.objs.size p hne (bs.map Value.bool).toArray, ⟨⟨_, Heap.get?_push_size _ rfl, rfl, rfl⟩, pl.isList.push _⟩, ?_, ?_⟩
 ·intro i v s' Q' E' hP hQ
  have hP' : (bs.map Value.bool)[i]? = some v := by simpa using hP
  rw [List.getElem?_map] at hP'
  cases e : bs[i]? with
  | none => rw [e] at hP'; cases hP'
  | some c =>
   rw [e] at hP'; cases hP'
   have : bs.getD i true = c := by simp [List.getD, e]
   have hQ' : Q' (bs.getD i true) s' := hQ
   rw [this] at hQ'
   exact wpAny_truthy_bool hQ'
 ·intro h' tk hk
  have hk2 : ∀ b o, s.heap.get? b = some o → h'.get? b = some o := fun b o e => hk b o (by simpa using Nat.ne_of_lt (Heap.lt_size e)) (Heap.get?_push_of_some _ e)
  refine ⟨.bl b, G, H, .refl H, ⟨σ, I.kept hk2, hs, hg⟩, ⟨.bl b, rfl, ?_⟩, q⟩
  rw [eb, all_range]
  simp
  rfl
end
end L3
namespace L3
open PySem PySem.Spec PyProof.Rows L2
structure Cal (P : Program) (w : World) (K : PySem.W.Frag) (mg : Str → Option Value) (base : Heap) (k : Nat) (x : Str) (ps : List Str) (sp : Sp3) : Prop where
 ex : ∃ f fd, Fn3 P w K mg base k f fd ps sp ∧ mg x = some (.ref f) ∧ PySem.W.keepIn K (.ref f) = true ∧ Binds K fd ps []
 mono : Mono sp
 len : ∀ xs G Q, sp xs G Q → xs.length = ps.length
theorem e_cal {X : Cx} {k : Nat} {ps : List Str} {sp : Sp3} {x : Str} {p pos : Pos} {e : Expr} {es : List Expr} {t : TA3} (C : Cal X.prog X.w X.K X.mg X.base k x ps sp) (hr : Room k X.A) (ha : PA3 X (e :: es) t) (hg : Gl X x := by rfl)
  (hdb : (x == ("__debug__" : Str)) = false := by decide) (he : starEach (e :: es) X.env = (false, eval e X.env) :: starEach es X.env := by rfl) (hpl : (backTo pos (starEach es X.env)).any (·.1) = false := by rfl) :
  PE3 X (.Call (.Name x p) (e :: es) [] pos) (tCall sp t) := by
 intro pins s τ G H Q I h
 obtain ⟨f, fd, F, hm, hk, hb⟩ := C.ex
 obtain ⟨σ0, I0, hs0, hg0⟩ := id I
 refine wpAny_Call_Name_kw (ld_glob I0 hg hm ?_ hdb)
 refine PySem.W.callWith_K (h₀ := X.base) I0.ok.mod.kin hk (thn (ha pos pins s τ G H _ I h) fun us s1 w_ => w_.el fun xs G1 H1 e1 i_ r_ q => i_.el fun σ I1 hs1 hg1 => r_.el fun as ras rvs => ⟨I1.kIn, ?_⟩) he hpl
 refine thn (run_fn (dvs := []) (ds := []) (E := E0) (Q := up X.K H1 Q) F hr hb .nil pass0 I1 rvs ?_) fun u s' z => (of_EP hs1 z).ext e1
 rw [List.append_nil]
 exact ⟨by rw [← ras.length]; exact C.len _ _ _ q, xs, G1, ras, hg1, C.mono _ _ _ _ (fun t G' hq v H' e g r => ⟨t, G', e, g, r, hq⟩) q⟩
noncomputable def rListA := rListOf
theorem c_listA {X : Cx} : Call3 X (.type "list") rListA := c_list
end L3
namespace L3
open PySem PySem.Spec PyProof.Rows
inductive Res where
 | val (t : T) | newL (xs : List T)
noncomputable def fin3 : Res → Gp → VK3 → Prop
 | .val t, G, Q => Q t G
 | .newL xs, G, Q => ∀ p, G p = none → Q (.ref p) (gup G p (.lst xs))
theorem Op3.imp {X : L2.Cx} {f : Value → Value → Sem Value} {r r' : R3} (h : Op3 X f r) (i : ∀ x y G Q, r' x y G Q → r x y G Q) : Op3 X f r' := fun pins s τ G H x y v u Q I rx ry q => h pins s τ G H x y v u Q I rx ry (i x y G Q q)
theorem Ix3.imp {X : L2.Cx} {r r' : R3} (h : Ix3 X r) (i : ∀ x y G Q, r' x y G Q → r x y G Q) : Ix3 X r' := fun a b pins s τ G H x y v u Q I rx ry q hs => h a b pins s τ G H x y v u Q I rx ry (i x y G Q q) hs
theorem Set3.imp {X : L2.Cx} {r r' : T → T → T → Gp → (Gp → Prop) → Prop} (h : Set3 X r) (i : ∀ o j v G Q, r' o j v G Q → r o j v G Q) : Set3 X r' := fun pins s τ G H o j v a b c Q I ro rj rv q => h pins s τ G H o j v a b c Q I ro rj rv (i o j v G Q q)
theorem Sl3.imp {X : L2.Cx} {r r' : T → Option Int → Option Int → Gp → VK3 → Prop} (h : Sl3 X r) (i : ∀ x l u G Q, r' x l u G Q → r x l u G Q) : Sl3 X r' := fun pins s τ G H x v vl vu lo hi sl Q I rx hs pl pu q => h pins s τ G H x v vl vu lo hi sl Q I rx hs pl pu (i x lo hi G Q q)
noncomputable def addR (G : Gp) : T → T → Option Res
 | .int i, .int j => some (.val (.int (i + j)))
 | .ref p, .ref q => match G p, G q with
  | some (.lst xs), some (.lst ys) => if xs.length + ys.length ≤ sizeLine then some (.newL (xs ++ ys)) else none
  | _, _ => none
 | .tup xs, .tup ys => if xs.length ≠ 0 ∧ xs.length + ys.length ≤ sizeLine then some (.val (.tup (xs ++ ys))) else none
 | _, _ => none
noncomputable def rAddF : R3 := fun x y G Q => ∃ r, addR G x y = some r ∧ fin3 r G Q
theorem add_F {x y : T} {G : Gp} {Q : VK3} (h : rAddF x y G Q) : rAddA x y G Q := by
 obtain ⟨r, hr, q⟩ := h
 unfold addR at hr
 split at hr
 ·cases hr; exact .inl ⟨_, _, rfl, rfl, q⟩
 ·rename_i p q'
  split at hr
  ·rename_i xs ys h1 h2
   split at hr
   ·rename_i hz; cases hr; exact .inr (.inl ⟨p, q', xs, ys, rfl, rfl, h1, h2, hz, q⟩)
   ·cases hr
  ·cases hr
 ·rename_i xs ys
  split at hr
  ·rename_i hz; cases hr; exact .inr (.inr ⟨xs, ys, rfl, rfl, fun z => hz.1 (by rw [z]; rfl), hz.2, q⟩)
  ·cases hr
 ·cases hr
theorem o_addF {X : L2.Cx} : Op3 X (binaryOp .Add) rAddF := o_addA.imp fun _ _ _ _ => add_F
noncomputable def mulR (G : Gp) : T → T → Option Res
 | .int i, .int j => some (.val (.int (i * j)))
 | .ref p, .int n => match G p with
  | some (.lst xs) => if n.toNat * xs.length ≤ sizeLine ∧ n < 2 ^ 62 ∧ -(2 ^ 62) < n then some (.newL (List.replicate n.toNat xs).flatten) else none
  | _ => none
 | _, _ => none
noncomputable def mulC : T → T → Prop
 | .int i, .int j => L2.CMul i j
 | _, _ => True
noncomputable def rMulF : R3 := fun x y G Q => ∃ r, mulR G x y = some r ∧ mulC x y ∧ fin3 r G Q
theorem mul_F {x y : T} {G : Gp} {Q : VK3} (h : rMulF x y G Q) : rMulA x y G Q := by
 obtain ⟨r, hr, c, q⟩ := h
 unfold mulR at hr
 split at hr
 ·cases hr; exact .inl ⟨_, _, rfl, rfl, c, q⟩
 ·rename_i p n
  split at hr
  ·rename_i xs h1
   split at hr
   ·rename_i hz; cases hr; exact .inr ⟨p, xs, n, rfl, rfl, h1, hz.1, hz.2.1, hz.2.2, q⟩
   ·cases hr
  ·cases hr
 ·cases hr
theorem o_mulF {X : L2.Cx} : Op3 X (binaryOp .Mult) rMulF := o_mulA.imp fun _ _ _ _ => mul_F
noncomputable def ixR (G : Gp) (x y : T) : Option T := match seqT G x with
 | some xs => match y with
  | .int i => L2.atI xs i
  | _ => none
 | none => match dAt G x y with
  | some o => o
  | none => none
noncomputable def rIxF : R3 := fun x y G Q => ∃ t, ixR G x y = some t ∧ Q t G
theorem ix_F' {x y : T} {G : Gp} {Q : VK3} (h : rIxF x y G Q) : rIxA x y G Q := by
 obtain ⟨t, ht, q⟩ := h
 unfold ixR at ht
 split at ht
 ·rename_i xs hx
  split at ht
  ·rename_i i; exact .inl ⟨xs, i, t, hx, rfl, ht, q⟩
  ·cases ht
 ·split at ht
  ·rename_i o ho; subst ht; exact .inr ⟨t, ho, q⟩
  ·cases ht
theorem ix_F {X : L2.Cx} (hu : X.A.units + 20 < cLine) : Ix3 X rIxF := (ix_anyA hu).imp fun _ _ _ _ => ix_F'
noncomputable def setR (G : Gp) (o i v : T) : Option Gp := match o with
 | .ref p => match G p with
  | some (.lst xs) => match i with
   | .int k => match L2.ixN xs.length k with
    | some j => some (gup G p (.lst (xs.set j v)))
    | none => none
   | _ => none
  | some (.dct kvs) => match i with
   | .tup ys => match keysOf ys with
    | some ks => if kvs.length < sizeLine then some (gup G p (.dct (putT kvs ks v))) else none
    | none => none
   | _ => none
  | some (.dck kvs) => match keyOf i with
   | some k => if kvs.length < sizeLine then some (gup G p (.dck (putT kvs k v))) else none
   | none => none
  | none => none
 | _ => none
noncomputable def rSetF : T → T → T → Gp → (Gp → Prop) → Prop := fun o i v G Q => ∃ G', setR G o i v = some G' ∧ Q G'
theorem set_F' {o i v : T} {G : Gp} {Q : Gp → Prop} (h : rSetF o i v G Q) : rSetA o i v G Q := by
 obtain ⟨G', hr, q⟩ := h
 unfold setR at hr
 split at hr
 ·rename_i p
  split at hr
  ·rename_i xs h1
   split at hr
   ·rename_i k
    split at hr
    ·rename_i j hj; cases hr; exact .inl ⟨p, xs, k, j, rfl, rfl, h1, hj, q⟩
    ·cases hr
   ·cases hr
  ·rename_i kvs h1
   split at hr
   ·rename_i ys
    split at hr
    ·rename_i ks hk
     split at hr
     ·rename_i hz; cases hr; exact .inr (.inl ⟨p, ys, ks, kvs, rfl, rfl, hk, h1, hz, q⟩)
     ·cases hr
    ·cases hr
   ·cases hr
  ·rename_i kvs h1
   split at hr
   ·rename_i k hk
    split at hr
    ·rename_i hz; cases hr; exact .inr (.inr ⟨p, k, kvs, rfl, hk, h1, hz, q⟩)
    ·cases hr
   ·cases hr
  ·cases hr
 ·cases hr
theorem s_F {X : L2.Cx} (hu : X.A.units + 20 < cLine) : Set3 X rSetF := (s_any hu).imp fun _ _ _ _ _ => set_F'
noncomputable def rLeF : R3 := fun x y G Q => ∃ b, (match x, y with
 | .int i, .int j => some (decide (i ≤ j))
 | .tup [.int a, .int b], .tup [.int c, .int d] => some (HT.lexLe [a, b] [c, d])
 | _, _ => none) = some b ∧ Q (.bl b) G
theorem le_F' {x y : T} {G : Gp} {Q : VK3} (h : rLeF x y G Q) : rLeA x y G Q := by
 obtain ⟨b, hb, q⟩ := h
 split at hb
 ·cases hb; exact .inl ⟨_, _, rfl, rfl, q⟩
 ·cases hb; exact .inr ⟨_, _, rfl, rfl, q⟩
 ·cases hb
theorem o_leF {X : L2.Cx} (hu : X.A.units + 20 < cLine) : Op3 X (compareOp .LtE) rLeF := (o_leA hu).imp fun _ _ _ _ => le_F'
noncomputable def slR (G : Gp) (x : T) (lo hi : Option Int) : Option Res := match x with
 | .tup xs => some (.val (.tup (cutT xs lo hi)))
 | .scr xs => some (.newL (cutT xs lo hi))
 | .ref p => match G p with
  | some (.lst xs) => some (.newL (cutT xs lo hi))
  | _ => none
 | _ => none
noncomputable def rSlF : T → Option Int → Option Int → Gp → VK3 → Prop := fun x lo hi G Q => ∃ r, slR G x lo hi = some r ∧ fin3 r G Q
theorem sl_F' {x : T} {lo hi : Option Int} {G : Gp} {Q : VK3} (h : rSlF x lo hi G Q) : rSlA x lo hi G Q := by
 obtain ⟨r, hr, q⟩ := h
 unfold slR at hr
 split at hr
 ·cases hr; exact .inr ⟨_, rfl, q⟩
 ·cases hr; exact .inl ⟨_, rfl, q⟩
 ·split at hr
  ·rename_i xs h1; cases hr; exact .inl ⟨xs, by simp only [listT, h1, asL], q⟩
  ·cases hr
 ·cases hr
theorem sl_F {X : L2.Cx} : Sl3 X rSlF := sl_any.imp fun _ _ _ _ _ => sl_F'
end L3
namespace L2
open PySem PySem.Spec PyProof.Rows
section
variable {X : Cx} {tg : Expr}
end
end L2
namespace L3
open PySem PySem.Spec PyProof.Rows L2
end L3
namespace L3
open PySem PySem.Spec PyProof.Rows L2
noncomputable def Off (cs : List Addr) (g g' : Heap) : Prop := ∀ c, c ∉ cs → ∀ o, g.get? c = some o → g'.get? c = some o
theorem Off.then {cs : List Addr} {g g' g'' : Heap} (p : Off cs g g') (q : Off cs g' g'') : Off cs g g'' := fun c n o e => q c n o (p c n o e)
theorem Off.ext {cs : List Addr} {c : Addr} {g g' : Heap} (h : Heap.ExtBut c g g') (m : c ∈ cs) : Off cs g g' := fun b n o e => h b o (fun q => n (q ▸ m)) e
theorem Off.one {cs : List Addr} {c : Addr} {g g' : Heap} (h : Heap.SameBut c g g') (m : c ∈ cs) : Off cs g g' := .ext h.extBut m
theorem Off.new (cs : List Addr) (g : Heap) (o : Obj) : Off cs g (g.push o) := fun _ _ _ e => Heap.get?_push_of_some _ e
theorem Off.at {cs : List Addr} {g g' : Heap} (p : Off cs g g') {c : Addr} {o : Obj} (n : c ∉ cs) (e : g.get? c = some o) : g'.get? c = some o := p c n o e
noncomputable def Still (cs : List Addr) (S : Heap → Prop) : Prop := ∀ g g', Off cs g g' → S g → S g'
noncomputable def Draw (P : Program) (w : World) (A : Around) (i : Addr) (r : Option Value) (S S' : Heap → Prop) : Prop :=
 ∀ (s : Shared) (Q E : Value → Shared → Prop), S s.heap →
  (∀ x g, r = some x → S' g → Heap.SameBut i s.heap g → Q x { s with heap := g }) →
  (∀ g e o, r = none → Heap.ExtBut i s.heap g → g.get? e = some o → o.cls = .type "StopIteration" → E (.ref e) { s with heap := g }) →
  wpAny (model P w) A (Builtin.SmallTypes.nextOf (.ref i)) Q E s
noncomputable def OnTup (i t : Addr) (k : Nat) (xs : Array Value) (h : Heap) : Prop := h.IsTupleIter i t k ∧ h.IsTuple t xs
theorem OnTup.still {cs : List Addr} {i t : Addr} {k : Nat} {xs : Array Value} (hi : i ∉ cs) (ht : t ∉ cs) : Still cs (OnTup i t k xs) :=
 fun _ _ p ⟨⟨o, e, c⟩, ⟨q, e', c'⟩⟩ => ⟨⟨o, p.at hi e, c⟩, ⟨q, p.at ht e', c'⟩⟩
theorem tup_draw {P : Program} {w : World} {A : Around} {i t : Addr} {k : Nat} {xs : Array Value} (hh : A.handled = none) (ne : t ≠ i) : Draw P w A i xs[k]? (OnTup i t k xs) (OnTup i t (k + 1) xs) := by
 intro s Q E ⟨⟨o, ho, hc, hd⟩, q, hq, hqc, n, hn⟩ item stop
 have ty : s.TypeIs (.ref i) "tuple_iterator" := ⟨o, ho, hc⟩
 refine wpAny_bind (wpAny_callSpecial?_slot (name := Str.ofString "__next__") ty F.slot_tuple_iterator_next (wpAny_call_entry F.slot_tuple_iterator_next ty F.entry_tuple_iterator_next ?_ (F.args_tuple_iterator_next_1 _)))
 refine (show wpAny _ _ (field (.ref i) 0 >>= _) _ _ s from wpAny_bind (wpAny_field ho hd (x := .ref t) rfl ?_))
 refine (show wpAny _ _ (if (Value.ref t == Value.none) = true then _ else field (.ref i) 1 >>= _) _ _ s from ?_)
 rw [if_neg (by exact Bool.false_ne_true)]
 refine wpAny_bind (wpAny_field ho hd (x := .int k 0) rfl (show wpAny _ _ (seqItems? (.ref t) >>= _) _ _ s from wpAny_bind (wpAny_seqItems hq hn ?_)))
 cases hx : xs[k]? with
 | some x =>
  simp only [hx, Int.toNat_natCast]
  have up : OnTup i t (k + 1) xs (s.heap.update i (Obj.mapFields (·.setIfInBounds 1 (rawInt ((k : Int) + 1))))) := by
   refine ⟨⟨_, Heap.get?_update_self _ ho (Obj.isFreed_of_fields (Obj.data_mapFields hd _)), (Obj.cls_mapFields ..).trans hc, ?_⟩, q, (Heap.SameBut.update ..).extBut t q ne hq, hqc, n, hn⟩
   rw [Obj.data_mapFields hd]; simp [rawInt]
  exact wpAny_bind (wpAny_setField ho hd (by simp) (wpAny_pure ⟨x, rfl, wpAny_pure (item x _ hx up (Heap.SameBut.update ..))⟩))
 | none =>
  simp only [hx, Int.toNat_natCast]
  refine wpAny_bind (wpAny_rule (wpAny_bind (wpAny_setField ho hd (by simp) (show wpAny _ _ (newExc (.type "StopIteration") [] >>= _) _ _ _ from wpAny_bind ?_))))
  simp only [newExc, newTuple, raiseNew]
  refine wpAny_bind (wpAny_newObj_type (wpAny_bind (m := firstArgMember _ _) (wpAny_of_eq (a := Value.none) (by first | rfl | (simp only [firstArgMember]; rfl)) (wpAny_newObj_type ?_ (by size_fits)))) (by size_fits))
  refine wpAny_bind (wpAny_handled ?_); rw [show A.in1.handled = none from hh]
  exact wpAny_bind (wpAny_pure (wpAny_throw (stop _ _ _ hx (((Heap.SameBut.update ..).extBut.push _).push _) (Heap.get?_push_size _ rfl) rfl)))
structure ZipAt (z TI TO i j : Addr) : Prop where
 nd : [z, TI, TO, i, j].Nodup
theorem zip_draw {P : Program} {w : World} {A : Around} {z TI TO i j : Addr} {r1 r2 : Option Value} {S S' U U' : Heap → Prop} {a b : Value} {s : Shared} {Q E : Value → Shared → Prop}
  (D1 : Draw P w A i r1 S S') (D2 : Draw P w A j r2 U U') (nd : ZipAt z TI TO i j) (s1 : Still [z, TO, j] S) (s1' : Still [z, TO, j] S') (s2 : Still [z, TO, i] U) (s2' : Still [z, TO, i] U')
  (hz : IsZip s.heap z TI TO .none) (hTI : IsPair s.heap TI (.ref i) (.ref j)) (hTO : IsPair s.heap TO a b) (h1 : S s.heap) (h2 : U s.heap)
  (item : ∀ x y g, r1 = some x → r2 = some y → IsZip g z TI TO (rawInt s.heap.objs.size) → IsPair g TO x y → S' g → U' g → IsPair g s.heap.objs.size x y → Off [z, TO, i, j] s.heap g → Q (.ref s.heap.objs.size) { s with heap := g })
  (stop : ∀ g e o, (r1 = none ∨ r2 = none) → Off [z, TO, i, j] s.heap g → g.get? e = some o → o.cls = .type "StopIteration" → E (.ref e) { s with heap := g }) :
  wpAny (model P w) A (Builtin.«zip.__next__» ⟨[.ref z], []⟩) (fun f s' => ∃ v, f = .done (.ret v) ∧ Q v s') E s := by
 have ap := nd.nd
 simp only [List.nodup_cons, List.mem_cons, List.not_mem_nil, or_false, not_or] at ap
 obtain ⟨⟨zTI, zTO, zi, zj⟩, ⟨TITO, TIi, TIj⟩, ⟨TOi, TOj⟩, ij, _⟩ := ap
 refine (show wpAny _ _ (field (.ref z) 2 >>= _) _ _ _ from wpAny_bind (wpAny_field hz rfl (x := .bool false) rfl (show wpAny _ _ (field (.ref z) 3 >>= _) _ _ _ from wpAny_bind (wpAny_field hz rfl (x := .ref TI) rfl (wpAny_bind (wpAny_seqItems hTI rfl ?_))))))
 refine (show wpAny _ _ (Builtin.SmallTypes.ownedTupleIsFree (.ref z) >>= _) _ _ _ from wpAny_bind ?_)
 unfold Builtin.SmallTypes.ownedTupleIsFree; refine wpAny_bind (wpAny_field hz rfl (x := .none) rfl (wpAny_pure ?_))
 rw [if_pos rfl]
 refine wpAny_bind (wpAny_rule (wpAny_bind (wpAny_field hz rfl (x := .ref TO) rfl (wpAny_bind (wpAny_setField_rec hz (by simp) fun g1 hz1 b1 => wpAny_bind ?_)))))
 replace hz1 : IsZip g1 z TI TO .ellipsis := hz1
 have o1 : Off [z, TO, i, j] s.heap g1 := .one b1 (by simp)
 simp only [List.forIn_cons, List.forIn_nil, List.zipIdx_cons, List.zipIdx_nil]
 refine wpAny_bind (wpAny_bind (wpAny_onRaise (show wpAny _ _ (Builtin.SmallTypes.nextOf (.ref i) >>= _) _ _ _ from wpAny_bind (D1 _ _ _ (s1 _ _ (.one b1 (by simp)) h1) (fun x g2 ex S2 b2 => wpAny_pure ?_) fun g2 e o en b2 he hc => ?_))))
 ·have o2 : Off [z, TO, i, j] s.heap g2 := o1.then (.one b2 (by simp))
  have hz2 : IsZip g2 z TI TO .ellipsis := b2.extBut _ _ zi hz1
  have hp2 : IsPair g2 TO a b := b2.extBut _ _ TOi (b1.extBut _ _ (Ne.symm zTO) hTO)
  refine wpAny_bind (wpAny_seqItems hp2 rfl (wpAny_bind (wpAny_updateSeq_pair hp2 fun g3 hp3 b3 => wpAny_bind (wpAny_letGo (wpAny_pure ?_)))))
  replace hp3 : IsPair g3 TO x b := hp3
  have o3 : Off [z, TO, i, j] s.heap g3 := o2.then (.one b3 (by simp))
  have hz3 : IsZip g3 z TI TO .ellipsis := b3.extBut _ _ zTO hz2
  have U3 : U g3 := s2 _ _ (((Off.one b1 (by simp)).then (.one b2 (by simp))).then (.one b3 (by simp))) h2
  refine wpAny_bind (wpAny_bind (wpAny_onRaise (show wpAny _ _ (Builtin.SmallTypes.nextOf (.ref j) >>= _) _ _ _ from wpAny_bind (D2 _ _ _ U3 (fun y g4 ey U4 b4 => wpAny_pure ?_) fun g4 e o en b4 he hc => ?_))))
  ·have hp4 : IsPair g4 TO x b := b4.extBut _ _ TOj hp3
   refine wpAny_bind (wpAny_seqItems hp4 rfl (wpAny_bind (wpAny_updateSeq_pair hp4 fun g5 hp5 b5 => wpAny_bind (wpAny_letGo (wpAny_pure (wpAny_pure ?_))))))
   replace hp5 : IsPair g5 TO x y := hp5
   have o5 : Off [z, TO, i, j] s.heap g5 := (o3.then (.one b4 (by simp))).then (.one b5 (by simp))
   have hz5 : IsZip g5 z TI TO .ellipsis := b5.extBut _ _ zTO (b4.extBut _ _ zj hz3)
   have S5 : S' g5 := s1' _ _ (((Off.one b3 (by simp)).then (.one b4 (by simp))).then (.one b5 (by simp))) S2
   have U5 : U' g5 := s2' _ _ (.one b5 (by simp)) U4
   have n5 : g5.objs.size = s.heap.objs.size := by rw [b5.1, b4.1, b3.1, b2.1, b1.1]
   refine wpAny_bind (wpAny_seqItems hp5 rfl (wpAny_bind (wpAny_newTuple ?_)))
   refine (show wpAny _ _ (Builtin.SmallTypes.ownedTupleHandOut (.ref z) (.ref g5.objs.size) >>= _) _ _ _ from wpAny_bind ?_)
   unfold Builtin.SmallTypes.ownedTupleHandOut; refine wpAny_bind (wpAny_setField_rec (show IsZip (g5.push { cls := .type "tuple", data := .seq #[x, y] }) z TI TO .ellipsis from Heap.get?_push_of_some _ hz5) (by simp) fun g6 hz6 b6 => ?_)
   refine wpAny_setField_rec hz6 (by simp) fun g7 hz7 b7 => wpAny_pure ⟨_, rfl, ?_⟩
   have o7 : Off [z] g5 g7 := ((Off.new _ _ _).then (.one b6 (by simp))).then (.one b7 (by simp))
   have zl : z < g5.objs.size := Heap.lt_size hz5
   have new : IsPair g7 g5.objs.size x y := b7.extBut _ _ (Nat.ne_of_gt zl) (b6.extBut _ _ (Nat.ne_of_gt zl) (Heap.get?_push_size _ rfl))
   replace hz7 : IsZip g7 z TI TO (rawInt g5.objs.size) := hz7
   show Q (.ref g5.objs.size) _
   rw [n5] at hz7 new ⊢
   have w1 : ∀ {cs : List Addr}, z ∈ cs → Off cs g5 g7 := fun m c n => o7 c (by simp only [List.mem_singleton]; exact fun q => n (q ▸ m))
   exact item x y g7 ex ey hz7 (o7.at (by simpa using Ne.symm zTO) hp5) (s1' _ _ (w1 (by simp)) S5) (s2' _ _ (w1 (by simp)) U5) new (o5.then (w1 (by simp)))
  ·have hz4 : IsZip g4 z TI TO .ellipsis := b4 _ _ zj hz3
   have ez : e ≠ z := fun q => by subst q; rw [hz4] at he; cases he; simp at hc
   exact wpAny_setField_rec hz4 (by simp) fun g5 _ b5 => stop g5 e o (.inr en) ((o3.then (.ext b4 (by simp))).then (.one b5 (by simp))) (b5.extBut _ _ ez he) hc
 ·have hz2 : IsZip g2 z TI TO .ellipsis := b2 _ _ zi hz1
  have ez : e ≠ z := fun q => by subst q; rw [hz2] at he; cases he; simp at hc
  exact wpAny_setField_rec hz2 (by simp) fun g3 _ b3 => stop g3 e o (.inl en) ((o1.then (.ext b2 (by simp))).then (.one b3 (by simp))) (b3.extBut _ _ ez he) hc
theorem zip_next {P : Program} {w : World} {A : Around} {z TI TO i j : Addr} {r1 r2 : Option Value} {S S' U U' : Heap → Prop} {a b : Value} {s : Shared} {Q : Option Value → Shared → Prop} {E : Value → Shared → Prop}
  (D1 : Draw P w A.in1 i r1 S S') (D2 : Draw P w A.in1 j r2 U U') (nd : ZipAt z TI TO i j) (s1 : Still [z, TO, j] S) (s1' : Still [z, TO, j] S') (s2 : Still [z, TO, i] U) (s2' : Still [z, TO, i] U')
  (hz : IsZip s.heap z TI TO .none) (hTI : IsPair s.heap TI (.ref i) (.ref j)) (hTO : IsPair s.heap TO a b) (h1 : S s.heap) (h2 : U s.heap)
  (item : ∀ x y g, r1 = some x → r2 = some y → IsZip g z TI TO (rawInt s.heap.objs.size) → IsPair g TO x y → S' g → U' g → IsPair g s.heap.objs.size x y → Off [z, TO, i, j] s.heap g → Q (some (.ref s.heap.objs.size)) { s with heap := g })
  (stop : ∀ g, (r1 = none ∨ r2 = none) → Off [z, TO, i, j] s.heap g → Q none { s with heap := g }) : wpAny (model P w) A (pyNext (.ref z)) Q E s := by
 have ty : s.TypeIs (.ref z) "zip" := ⟨_, hz, rfl⟩
 refine wpAny_bind (wpAny_attempt (wpAny_callSpecial?_slot (name := Str.ofString "__next__") ty F.slot_zip_next (wpAny_call_entry F.slot_zip_next ty F.entry_zip_next ?_ (F.args_zip_next_1 _))))
 refine zip_draw D1 D2 nd s1 s1' s2 s2' hz hTI hTO h1 h2 (fun x y g q1 q2 q3 q4 q5 q6 q7 q8 => wpAny_pure (item x y g q1 q2 q3 q4 q5 q6 q7 q8)) fun g e o en f he hc => ?_
 exact wpAny_bind (wpAny_isInstance (T := "StopIteration") (b := true) ⟨o, he, hc⟩ isSubtype_stop (wpAny_pure (stop g en f)))
noncomputable def itOf (t : Addr) : Obj := { cls := .type "tuple_iterator", data := .fields #[.ref t, .int 0 0] }
noncomputable def tupOf (xs : Array Value) : Obj := { cls := .type "tuple", data := .seq xs }
noncomputable def zips (g : Heap) (t u : Addr) : Heap :=
 let g2 := (g.push (itOf t)).push (itOf u)
 let g3 := g2.push (tupOf #[.ref g.objs.size, .ref (g.push (itOf t)).objs.size])
 let g4 := g3.push (tupOf #[.none, .none])
 g4.push { cls := .type "zip", data := .fields #[.none, .bool false, .bool false, .ref g2.objs.size, .ref g3.objs.size] }
theorem zip_new (t u : Addr) (xs ys : Array Value) :
  Meets (Builtin.«zip.__new__» ⟨[.type "zip", .ref t, .ref u], []⟩) fun _ R s => s.heap.IsTuple t xs ∧ s.heap.IsTuple u ys ∧ R (.ok (.ret (.ref (((((s.heap.push (itOf t)).push (itOf u)).push (tupOf #[.ref s.heap.objs.size, .ref (s.heap.push (itOf t)).objs.size])).push (tupOf #[.none, .none])).objs.size)))) { s with heap := zips s.heap t u } := by
 refine .of_wp fun P w A R s ⟨ht, hu, h⟩ => ?_
 obtain ⟨g, a1, a2, a3, a4⟩ := s
 have sb := sub_zip
 have m1 : Heap.IsTuple (Shared.heap ⟨g, a1, a2, a3, a4⟩) t xs := ht
 have m2 : Heap.IsTuple (Shared.heap ⟨g.push { cls := .type "tuple_iterator", data := .fields #[.ref t, .int 0 0] }, a1, a2, a3, a4⟩) u ys := hu.push _
 wp_walk using wpAny_pyIter_tuple m1, wpAny_pyIter_tuple m2
 exact ⟨_, rfl, h⟩
theorem zip_made {P : Program} {w : World} {A : Around} {s : Shared} {t u : Addr} {xs ys : Array Value} {Q E : Value → Shared → Prop} (ht : s.heap.IsTuple t xs) (hu : s.heap.IsTuple u ys)
  (h : ∀ g n, n = s.heap.objs.size → IsZip g (n + 4) (n + 2) (n + 3) .none → IsPair g (n + 2) (.ref n) (.ref (n + 1)) → IsPair g (n + 3) .none .none → OnTup n t 0 xs g → OnTup (n + 1) u 0 ys g →
   (∀ c o, s.heap.get? c = some o → g.get? c = some o) → Q (.ref (n + 4)) { s with heap := g }) : wpAny (model P w) A (call (.type "zip") [.ref t, .ref u]) Q E s := by
 refine callType_new F.called_zip (by decide) (F.typeCall_zip_2 _ _) (F.newCall_zip_2 _ _) (fun obj => F.args_object_init_3 obj _ _) F.entry_zip_new (zip_new t u xs ys) ⟨ht, hu, ?_⟩
 have hn : ∀ (g : Heap) (o : Obj), (g.push o).objs.size = g.objs.size + 1 := fun _ _ => Heap.size_push ..
 have up : ∀ {g : Heap} {o q : Obj} {c : Addr}, g.get? c = some q → (g.push o).get? c = some q := fun e => Heap.get?_push_of_some _ e
 have at' : ∀ (g : Heap) (o : Obj), o.isFreed = false → (g.push o).get? g.objs.size = some o := fun g o h => Heap.get?_push_size _ h
 have kp : ∀ c o, s.heap.get? c = some o → (zips s.heap t u).get? c = some o := fun c o e => up (up (up (up (up e))))
 obtain ⟨q, hq, hr⟩ := ht
 obtain ⟨q', hq', hr'⟩ := hu
 have c0 : (zips s.heap t u).get? s.heap.objs.size = some (itOf t) := up (up (up (up (at' _ _ rfl))))
 have c1 : (zips s.heap t u).get? (s.heap.push (itOf t)).objs.size = some (itOf u) := up (up (up (at' _ _ rfl)))
 have c2 := up (g := ((s.heap.push (itOf t)).push (itOf u)).push (tupOf #[.ref s.heap.objs.size, .ref (s.heap.push (itOf t)).objs.size])) (o := tupOf #[.none, .none]) (at' ((s.heap.push (itOf t)).push (itOf u)) (tupOf #[.ref s.heap.objs.size, .ref (s.heap.push (itOf t)).objs.size]) rfl)
 have c2' : (zips s.heap t u).get? ((s.heap.push (itOf t)).push (itOf u)).objs.size = some (tupOf #[.ref s.heap.objs.size, .ref (s.heap.push (itOf t)).objs.size]) := up c2
 have c3 : (zips s.heap t u).get? (((s.heap.push (itOf t)).push (itOf u)).push (tupOf #[.ref s.heap.objs.size, .ref (s.heap.push (itOf t)).objs.size])).objs.size = some (tupOf #[.none, .none]) := up (at' _ _ rfl)
 have c4 : (zips s.heap t u).get? ((((s.heap.push (itOf t)).push (itOf u)).push (tupOf #[.ref s.heap.objs.size, .ref (s.heap.push (itOf t)).objs.size])).push (tupOf #[.none, .none])).objs.size = some { cls := .type "zip", data := .fields #[.none, .bool false, .bool false, .ref ((s.heap.push (itOf t)).push (itOf u)).objs.size, .ref (((s.heap.push (itOf t)).push (itOf u)).push (tupOf #[.ref s.heap.objs.size, .ref (s.heap.push (itOf t)).objs.size])).objs.size] } := at' _ _ rfl
 show _ ∧ _
 simp only [hn] at c1 c2' c3 c4 ⊢
 exact ⟨⟨_, c4, rfl⟩, h _ _ rfl c4 c2' c3 ⟨⟨_, c0, rfl, rfl⟩, q, kp _ _ hq, hr⟩ ⟨⟨_, c1, rfl, rfl⟩, q', kp _ _ hq', hr'⟩ kp⟩
end L3
namespace L3
open PySem PySem.Spec PyProof.Rows L2
noncomputable def Itz (K : PySem.W.Frag) (a1 a2 : Addr) : It :=
 ⟨fun i H => ∃ xs ys x y, SqT K H a1 xs ∧ SqT K H a2 ys ∧ xs[i]? = some x ∧ ys[i]? = some y,
  fun i H v H' => ∃ p x y, H p = none ∧ v = .ref p ∧ (∀ xs, SqT K H a1 xs → xs[i]? = some x) ∧ (∀ ys, SqT K H a2 ys → ys[i]? = some y) ∧ H' = upd H p (.tup [x, y]),
  fun i H => ∃ xs ys, SqT K H a1 xs ∧ SqT K H a2 ys ∧ (xs.length ≤ i ∨ ys.length ≤ i)⟩
theorem zip_at {z TI TO i1 i2 a1 a2 : Addr} (D : ZipApart z TI TO i1 i2 a1 a2) : ZipAt z TI TO i1 i2 :=
 ⟨by simp [D.TIz.symm, D.TOz.symm, D.i1z.symm, D.i2z.symm, D.TITO, D.TIi1, D.TIi2, D.TOi1, D.TOi2, D.i12]⟩
theorem still_l {z TI TO i1 i2 a1 a2 : Addr} {k : Nat} {xs : Array Value} (D : ZipApart z TI TO i1 i2 a1 a2) : Still [z, TO, i2] (OnTup i1 a1 k xs) :=
 OnTup.still (by simp [D.i1z, D.TOi1.symm, D.i12]) (by simp [D.l1z, D.l1TO, D.l1i2])
theorem still_r {z TI TO i1 i2 a1 a2 : Addr} {k : Nat} {xs : Array Value} (D : ZipApart z TI TO i1 i2 a1 a2) : Still [z, TO, i1] (OnTup i2 a2 k xs) :=
 OnTup.still (by simp [D.i2z, D.TOi2.symm, D.i12.symm]) (by simp [D.l2z, D.l2TO, D.l2i1])
theorem turn_zip {P : Program} {w : World} {K : PySem.W.Frag} {elts : List Expr} {k : Nat} {pos : Pos} (z TI TO i1 i2 a1 a2 : Addr) (D : ZipApart z TI TO i1 i2 a1 a2) :
  Turn P w K (.Tuple elts k pos) (Itz K a1 a2) [z, TI, TO, i1, i2] z (fun i h => IsZip h z TI TO .none ∧ IsPair h TI (.ref i1) (.ref i2) ∧ (∃ a b, IsPair h TO a b) ∧ h.IsTupleIter i1 a1 i ∧ h.IsTupleIter i2 a2 i) where
 mem := by simp
 obj := fun i h ⟨hz, hTI, ⟨a, b, hTO⟩, h1, h2⟩ c hc => by
  simp only [List.mem_cons, List.not_mem_nil, or_false] at hc
  rcases hc with rfl | rfl | rfl | rfl | rfl
  ·exact ⟨_, hz, fun v z => nomatch (show Data.fields _ = Data.cell v from z)⟩
  ·exact ⟨_, hTI, fun v z => nomatch (show Data.seq _ _ = Data.cell v from z)⟩
  ·exact ⟨_, hTO, fun v z => nomatch (show Data.seq _ _ = Data.cell v from z)⟩
  ·obtain ⟨o, e, c, d⟩ := h1; exact ⟨o, e, fun v z => by rw [d] at z; cases z⟩
  ·obtain ⟨o, e, c, d⟩ := h2; exact ⟨o, e, fun v z => by rw [d] at z; cases z⟩
 keep := fun i h h' ⟨hz, hTI, ⟨a, b, hTO⟩, h1, h2⟩ kp => ⟨kp z (by simp) _ hz, kp TI (by simp) _ hTI, ⟨a, b, kp TO (by simp) _ hTO⟩, h1.at fun o q => kp i1 (by simp) o q, h2.at fun o q => kp i2 (by simp) o q⟩
 item := by
  intro X hP hw hK hc i pins s σ H E I hf ⟨hz, hTI, ⟨a, b, hTO⟩, h1, h2⟩ hg
  subst hP hw hK
  obtain ⟨xs, ys, x, y, hq1, hq2, hx, hy⟩ := hg
  obtain ⟨its1, rv1, p1, hz1⟩ := I.tuple hq1
  obtain ⟨its2, rv2, p2, hz2⟩ := I.tuple hq2
  obtain ⟨u1, hu1, ru1⟩ := rv1.get hx
  obtain ⟨u2, hu2, ru2⟩ := rv2.get hy
  refine zip_next (r1 := its1.toArray[i]?) (r2 := its2.toArray[i]?) (tup_draw (I.ok.hd hc) D.l1i1) (tup_draw (I.ok.hd hc) D.l2i2) (zip_at D) (still_l D) (still_l D) (still_r D) (still_r D) hz hTI hTO ⟨h1, p1⟩ ⟨h2, p2⟩ (fun x' y' g1 ex ey ho gTO g3 g4 hT hk => ?_) (fun g en _ => ?_)
  rotate_left
  ·rcases en with e | e
   ·rw [show its1.toArray[i]? = some u1 by simpa using hu1] at e; cases e
   ·rw [show its2.toArray[i]? = some u2 by simpa using hu2] at e; cases e
  obtain rfl : u1 = x' := by simpa [hu1] using ex
  obtain rfl : u2 = y' := by simpa [hu2] using ey
  refine ⟨_, rfl, wpAny_letOwnedTupleGo_zip ho fun g2 gz hs2 => ?_⟩
  have hzl : z < s.heap.objs.size := Heap.lt_size hz
  have hp2 : ∀ b o, b ∉ [z, TI, TO, i1, i2] → s.heap.get? b = some o → g2.get? b = some o := fun b o hb q => by
   simp only [List.mem_cons, List.not_mem_nil, or_false, not_or] at hb
   exact (hs2.2 b hb.1).trans (hk b (by simp only [List.mem_cons, List.not_mem_nil, or_false, not_or]; exact ⟨hb.1, hb.2.2.1, hb.2.2.2.1, hb.2.2.2.2⟩) o q)
  have hT2 : g2.get? s.heap.objs.size = some { cls := .type "tuple", data := .seq #[u1, u2] } := (hs2.2 _ (Nat.ne_of_gt hzl)).trans hT
  have I2 := turnedTup (t' := s.toks) (h' := g2) (p := s.heap.objs.size) (vs := [x, y]) (us := [u1, u2]) I hp2 hf (Nat.le_refl _) ⟨_, hT2, rfl, _, rfl, rfl⟩ (.cons ru1 (.cons ru2 .nil)) (by show 2 ≤ sizeLine; decide)
  refine ⟨.ref s.heap.objs.size, _, I2, rfl, ⟨_, x, y, I.hok.fresh (Nat.le_refl _), rfl, fun zs hz => by rw [I.tuple_inj hz hq1]; exact hx, fun zs hz => by rw [I.tuple_inj hz hq2]; exact hy, rfl⟩,
   ⟨gz, (hs2.2 _ D.TIz).trans (hk _ (by simp [D.TIz, D.TITO, D.TIi1, D.TIi2]) _ hTI), ⟨_, _, (hs2.2 _ D.TOz).trans gTO⟩, g3.1.at fun o q => (hs2.2 _ D.i1z).trans q, g4.1.at fun o q => (hs2.2 _ D.i2z).trans q⟩, fun b hb => ?_⟩
  have hbs : ∃ o, s.heap.get? b = some o := by
   have hbq := hb
   simp only [List.mem_cons, List.not_mem_nil, or_false] at hbq
   rcases hbq with rfl | rfl | rfl | rfl | rfl
   ·exact ⟨_, hz⟩
   ·exact ⟨_, hTI⟩
   ·exact ⟨_, hTO⟩
   ·obtain ⟨o, q, _⟩ := h1; exact ⟨o, q⟩
   ·obtain ⟨o, q, _⟩ := h2; exact ⟨o, q⟩
  obtain ⟨o, q⟩ := hbs
  rw [upd_ne (Nat.ne_of_lt (Heap.lt_size q))]
  exact (hf b hb).1
 done := by
  intro X hP hw hK hc i pins s σ H E I hf ⟨hz, hTI, ⟨a, b, hTO⟩, h1, h2⟩ hg
  subst hP hw hK
  obtain ⟨xs, ys, hq1, hq2, hx⟩ := hg
  obtain ⟨its1, rv1, p1, hz1⟩ := I.tuple hq1
  obtain ⟨its2, rv2, p2, hz2⟩ := I.tuple hq2
  have hl1 := rv1.length
  have hl2 := rv2.length
  refine zip_next (r1 := its1.toArray[i]?) (r2 := its2.toArray[i]?) (tup_draw (I.ok.hd hc) D.l1i1) (tup_draw (I.ok.hd hc) D.l2i2) (zip_at D) (still_l D) (still_l D) (still_r D) (still_r D) hz hTI hTO ⟨h1, p1⟩ ⟨h2, p2⟩ (fun x' y' g1 ex ey _ _ _ _ _ _ => ?_) (fun g1 _ hk => ⟨rfl, turnedL (t' := s.toks) (fp := [z, TI, TO, i1, i2]) I (fun b o hb q => ?_) hf⟩)
  ·have q1 : i < its1.length := by simpa using (Array.getElem?_eq_some_iff.mp ex).1
   have q2 : i < its2.length := by simpa using (Array.getElem?_eq_some_iff.mp ey).1
   omega
  ·exact hk b (fun m => hb (by simp only [List.mem_cons, List.not_mem_nil, or_false] at m ⊢; rcases m with h | h | h | h <;> simp [h])) o q
 self := fun _ _ _ _ _ ⟨hz, _⟩ h => wpAny_pyIter_zip hz h
theorem zapart {n a b : Nat} (ha : a < n) (hb : b < n) : ZipApart (n + 4) (n + 2) (n + 3) n (n + 1) a b := by
 constructor <;> (show @Ne Nat _ _; omega)
noncomputable def zipT (xs ys : List T) : List T := (xs.zip ys).map fun p => T.tup [p.1, p.2]
end L3
namespace L3
open PySem
theorem atN {α : Type} {xs : List α} {n : Nat} : L2.atI xs (n : Int) = xs[n]? := by
 unfold L2.atI L2.ixN
 by_cases h : n < xs.length
 ·simp [h]
 ·simp [h]
theorem at0 {α : Type} {x : α} {xs : List α} : L2.atI (x :: xs) 0 = some x := (atN (n := 0)).trans rfl
theorem at1 {α : Type} {x y : α} {xs : List α} : L2.atI (x :: y :: xs) 1 = some y := (atN (n := 1)).trans rfl
theorem at2 {α : Type} {x y z : α} {xs : List α} : L2.atI (x :: y :: z :: xs) 2 = some z := (atN (n := 2)).trans rfl
theorem atZ {α : Type} {xs : List α} {i : Int} (h : 0 ≤ i) : L2.atI xs i = xs[i.toNat]? := by
 obtain ⟨n, rfl⟩ := Int.eq_ofNat_of_zero_le h
 simpa using atN
theorem at_last {α : Type} {xs : List α} {y : α} : L2.atI (xs ++ [y]) (-1) = some y := by
 unfold L2.atI L2.ixN
 have : ¬ (0 : Int) ≤ -1 := by decide
 simp only [this, if_false]
 rw [if_pos (by simp; omega)]
 have e : (-1 + ((xs ++ [y]).length : Int)).toNat = xs.length := by simp; omega
 rw [e]; simp
theorem ixNat {n k : Nat} (h : k < n) : L2.ixN n (k : Int) = some k := by simp [L2.ixN, h]
theorem ix0 {n : Nat} : L2.ixN (n + 1) 0 = some 0 := ixNat (k := 0) (by omega)
theorem ix1 {n : Nat} : L2.ixN (n + 2) 1 = some 1 := ixNat (k := 1) (by omega)
theorem ix2 {n : Nat} : L2.ixN (n + 3) 2 = some 2 := ixNat (k := 2) (by omega)
theorem ix30 : L2.ixN 3 0 = some 0 := ix0
theorem ix31 : L2.ixN 3 1 = some 1 := ix1
theorem ix32 : L2.ixN 3 2 = some 2 := ix2
theorem addR_int {G : Gp} {i j : Int} : addR G (.int i) (.int j) = some (.val (.int (i + j))) := rfl
theorem addR_lst {G : Gp} {p q : Addr} {xs ys : List T} (h1 : G p = some (.lst xs)) (h2 : G q = some (.lst ys)) (hz : xs.length + ys.length ≤ sizeLine) : addR G (.ref p) (.ref q) = some (.newL (xs ++ ys)) := by simp only [addR, h1, h2, hz, if_true]
theorem mulR_int {G : Gp} {i j : Int} : mulR G (.int i) (.int j) = some (.val (.int (i * j))) := rfl
theorem mulC_int {i j : Int} : mulC (.int i) (.int j) = L2.CMul i j := rfl
theorem mulC_ref {p : Addr} {j : Int} : mulC (.ref p) (.int j) = True := rfl
theorem fin_val {t : T} {G : Gp} {Q : VK3} : fin3 (.val t) G Q = Q t G := rfl
theorem fin_new {xs : List T} {G : Gp} {Q : VK3} : fin3 (.newL xs) G Q = ∀ p, G p = none → Q (.ref p) (gup G p (.lst xs)) := rfl
theorem ixR_tup {G : Gp} {xs : List T} {i : Int} : ixR G (.tup xs) (.int i) = L2.atI xs i := rfl
theorem ixR_scr {G : Gp} {xs : List T} {i : Int} : ixR G (.scr xs) (.int i) = L2.atI xs i := rfl
theorem ixR_lst {G : Gp} {p : Addr} {xs : List T} {i : Int} (h : G p = some (.lst xs)) : ixR G (.ref p) (.int i) = L2.atI xs i := by simp only [ixR, seqT, h, asL]
theorem setR_lst {G : Gp} {p : Addr} {xs : List T} {k : Int} {j : Nat} {v : T} (h : G p = some (.lst xs)) (hj : L2.ixN xs.length k = some j) : setR G (.ref p) (.int k) v = some (gup G p (.lst (xs.set j v))) := by simp only [setR, h, hj]
theorem seqT_tup {G : Gp} {xs : List T} : seqT G (.tup xs) = some xs := rfl
theorem seqT_lst {G : Gp} {p : Addr} {xs : List T} (h : G p = some (.lst xs)) : seqT G (.ref p) = some xs := by simp only [seqT, h, asL]
theorem setR_m {G : Gp} {p : Addr} {xs : List T} {k : Int} {v : T} (h : G p = some (.lst xs)) : setR G (.ref p) (.int k) v = (L2.ixN xs.length k).map fun j => gup G p (.lst (xs.set j v)) := by
 cases e : L2.ixN xs.length k with
 | none => simp only [setR, h, e, Option.map_none]
 | some j => simp only [setR, h, e, Option.map_some]
theorem setR_gup {G : Gp} {p : Addr} {xs : List T} {k : Int} {v : T} : setR (gup G p (.lst xs)) (.ref p) (.int k) v = (L2.ixN xs.length k).map fun j => gup G p (.lst (xs.set j v)) := by
 rw [setR_m gup_same]; simp only [gup_gup]
theorem ixR_gup {G : Gp} {p : Addr} {xs : List T} {i : Int} : ixR (gup G p (.lst xs)) (.ref p) (.int i) = L2.atI xs i := ixR_lst gup_same
theorem seqT_gup {G : Gp} {p : Addr} {xs : List T} : seqT (gup G p (.lst xs)) (.ref p) = some xs := seqT_lst gup_same
end L3
namespace L3
open PySem
noncomputable def ForAt (g : TG3) (tb : TS3) (D : Ends3) (τ : St3) (xs : List T) (stay : Gp → Prop) (G : Gp) : Prop := ∃ P : Nat → St3 → Gp → Prop, P 0 τ G ∧ (∀ i τ G, i ≤ xs.length → P i τ G → stay G) ∧
 (∀ i x τ G, xs[i]? = some x → P i τ G → g x τ G fun τ2 G2 => tb { D with nx := P (i + 1), ct := P (i + 1), bk := D.nx } τ2 G2) ∧ ∀ τ G, P xs.length τ G → D.nx τ G
theorem tFor_at {wi : TI3} {g : TG3} {tb : TS3} {D : Ends3} {τ : St3} {G : Gp} : tFor wi g tb D τ G = wi τ G fun xs stay G1 => ForAt g tb D τ xs stay G1 := rfl
noncomputable def CompAt (mask : List Bool) (g : TG3) (tif : TT3) (te : TE3) (τ : St3) (xs : List T) (stay : Gp → Prop) (G : Gp) (Q : VK3) : Prop := tCompAt mask g tif te τ xs stay G Q
theorem tComp_at {mask : List Bool} {wi : TI3} {g : TG3} {tif : TT3} {te : TE3} {τ : St3} {G : Gp} {Q : VK3} : tComp mask wi g tif te τ G Q = wi τ G fun xs stay G1 => CompAt mask g tif te τ xs stay G1 Q := rfl
end L3
namespace L3
open PySem
noncomputable def Sub (G G' : Gp) : Prop := ∀ c o, G c = some o → G' c = some o
theorem Sub.refl (G : Gp) : Sub G G := fun _ _ h => h
theorem Sub.trans {G G1 G2 : Gp} (h : Sub G G1) (h' : Sub G1 G2) : Sub G G2 := fun c o e => h' c o (h c o e)
theorem Sub.new {p : Addr} {G : Gp} {o : GO} (hp : G p = none) : Sub G (gup G p o) := fun c u e => by rw [gup_ne]; exact e; rintro rfl; rw [hp] at e; cases e
theorem Sub.over {p : Addr} {G G' : Gp} {o : GO} (h : Sub G G') (hp : G p = none) : Sub G (gup G' p o) := fun c u e => by rw [gup_ne]; exact h c u e; rintro rfl; rw [hp] at e; cases e
theorem Sub.none {G G' : Gp} {p : Addr} (h : Sub G G') (hp : G' p = none) : G p = none := by
 cases e : G p with
 | none => rfl
 | some o => rw [h p o e] at hp; cases hp
theorem gup_none {G : Gp} {a p : Addr} {o : GO} (h : gup G a o p = none) : p ≠ a ∧ G p = none := by
 by_cases e : p = a
 ·subst e; rw [gup_same] at h; cases h
 ·rw [gup_ne e] at h; exact ⟨e, h⟩
theorem ne_some_none {G : Gp} {a p : Addr} {o : GO} (h : G a = some o) (hp : G p = none) : a ≠ p := by rintro rfl; rw [h] at hp; cases hp
theorem Sub.seq {G G' : Gp} {x : T} {xs : List T} (h : Sub G G') (e : seqT G x = some xs) : seqT G' x = some xs := by
 cases x with
 | ref p => have := asL_some e; simp only [seqT, h p _ this, asL]
 | tup _ => exact e
 | scr _ => exact e
 | non => exact e
 | bl _ => exact e
 | int _ => exact e
 | str _ => exact e
 | ty _ => exact e
end L3
namespace L3
open PySem
theorem map_get {α β : Type} {enc : α → β} {es : List α} {i : Nat} {x : β} (h : (es.map enc)[i]? = some x) : ∃ e, es[i]? = some e ∧ x = enc e := by
 rw [List.getElem?_map] at h
 cases e1 : es[i]? with
 | none => rw [e1] at h; cases h
 | some e => rw [e1] at h; exact ⟨e, rfl, (Option.some.inj h).symm⟩
theorem comp_opt {α : Type} {mask : List Bool} {g : TG3} {tif : TT3} {te : TE3} {τ : St3} {es : List α} {enc : α → T} {stay : Gp → Prop} {G : Gp} {Q : VK3} (f : α → Option T) (hz : es.length ≤ sizeLine) (hst : ∀ G', Sub G G' → stay G')
  (h : ∀ (i : Nat) e, es[i]? = some e → ∀ G' (K : T → Gp → Prop) (K0 : Gp → Prop), Sub G G' → (∀ y G4, f e = some y → Sub G' G4 → K y G4) → (f e = none → ∀ G4, Sub G' G4 → K0 G4) → g (enc e) (msk mask τ) G' fun τ2 G2 => tif τ2 G2 fun b G3 => if b = true then te τ2 G3 K else K0 G3)
  (hq : ∀ D G', G D = none → G' D = some (.lst (es.filterMap f)) → Sub G G' → Q (.ref D) G') : CompAt mask g tif te τ (es.map enc) stay G Q := by
 intro D hD
 refine ⟨fun i acc G' => acc = (es.take i).filterMap f ∧ G' D = some (.lst acc) ∧ Sub G G', ⟨by simp, gup_same, .new hD⟩, ?_, ?_, ?_⟩
 ·rintro i acc G' hi ⟨ea, eg, hs⟩
  exact ⟨hst G' hs, eg⟩
 ·rintro i x acc G' hx0 ⟨ea, eg, hs⟩
  obtain ⟨e, hx, rfl⟩ := map_get hx0
  have hi : i < es.length := (List.getElem?_eq_some_iff.mp hx).1
  have tk : es.take (i + 1) = es.take i ++ [e] := by rw [List.take_succ, hx]; rfl
  have hlen : acc.length < sizeLine := by
   have h1 : acc.length ≤ (es.take i).length := by rw [ea]; exact List.length_filterMap_le _ _
   rw [List.length_take] at h1; omega
  refine h i e hx G' _ _ hs (fun y G4 hy h4 => ⟨h4 D _ eg, hlen, ?_, gup_same, (hs.trans h4).over hD⟩) fun hn G4 h4 => ⟨?_, h4 D _ eg, hs.trans h4⟩
  ·rw [tk, List.filterMap_append, ← ea]; simp [hy]
  ·rw [tk, List.filterMap_append, ← ea]; simp [hn]
 ·rintro acc G' ⟨ea, eg, hs⟩
  rw [List.length_map, List.take_length] at ea
  rw [ea] at eg
  exact hq D G' hD eg hs
theorem comp_map {α : Type} {mask : List Bool} {g : TG3} {tif : TT3} {te : TE3} {τ : St3} {es : List α} {enc : α → T} {stay : Gp → Prop} {G : Gp} {Q : VK3} (f : α → T) (hz : es.length ≤ sizeLine) (hst : ∀ G', Sub G G' → stay G')
  (h : ∀ (i : Nat) e, es[i]? = some e → ∀ G' (K : T → Gp → Prop) (K0 : Gp → Prop), Sub G G' → (∀ G4, Sub G' G4 → K (f e) G4) → g (enc e) (msk mask τ) G' fun τ2 G2 => tif τ2 G2 fun b G3 => if b = true then te τ2 G3 K else K0 G3)
  (hq : ∀ D G', G D = none → G' D = some (.lst (es.map f)) → Sub G G' → Q (.ref D) G') : CompAt mask g tif te τ (es.map enc) stay G Q := by
 refine comp_opt (fun e => some (f e)) hz hst (fun i e he G' K K0 hs hk _ => h i e he G' K K0 hs fun G4 h4 => hk _ G4 rfl h4) fun D G' hD h1 h2 => hq D G' hD ?_ h2
 rw [h1]; congr 2; induction es with
 | nil => rfl
 | cons a as ih => simp
end L3
namespace L3
open PySem
theorem tyT_lst {G : Gp} {p : Addr} {xs : List T} (h : G p = some (.lst xs)) : tyT G "list" (.ref p) = True := by simp [tyT, h]
theorem tyT_gup {G : Gp} {p : Addr} {xs : List T} : tyT (gup G p (.lst xs)) "list" (.ref p) = True := tyT_lst gup_same
end L3
namespace L3
open PySem
theorem comp_fresh {α : Type} {mask : List Bool} {g : TG3} {tif : TT3} {te : TE3} {τ : St3} {es : List α} {enc : α → T} {stay : Gp → Prop} {G : Gp} {Q : VK3} (f : α → List T) (hz : es.length ≤ sizeLine) (hst : ∀ G', Sub G G' → stay G')
  (h : ∀ (i : Nat) e, es[i]? = some e → ∀ G' (K : T → Gp → Prop) (K0 : Gp → Prop), Sub G G' → (∀ p G4, G' p = none → G4 p = some (.lst (f e)) → Sub G' G4 → K (.ref p) G4) → g (enc e) (msk mask τ) G' fun τ2 G2 => tif τ2 G2 fun b G3 => if b = true then te τ2 G3 K else K0 G3)
  (hq : ∀ D rs G', G D = none → G' D = some (.lst (rs.map T.ref)) → Sub G G' → rs.length = es.length → (D :: rs).Nodup → (∀ (i : Nat) (r : Addr) (e : α), rs[i]? = some r → es[i]? = some e → G r = none ∧ G' r = some (.lst (f e))) → Q (.ref D) G') : CompAt mask g tif te τ (es.map enc) stay G Q := by
 intro D hD
 refine ⟨fun i acc G' => ∃ rs : List Addr, acc = rs.map T.ref ∧ rs.length = i ∧ G' D = some (.lst acc) ∧ Sub G G' ∧ (D :: rs).Nodup ∧ (∀ (i : Nat) (r : Addr) (e : α), rs[i]? = some r → es[i]? = some e → G r = none ∧ G' r = some (.lst (f e))), ⟨[], rfl, rfl, gup_same, .new hD, by simp, by simp⟩, ?_, ?_, ?_⟩
 ·rintro i acc G' hi ⟨rs, ea, hl, eg, hs, hn, hr⟩
  exact ⟨hst G' hs, eg⟩
 ·rintro i x acc G' hx0 ⟨rs, ea, hl, eg, hs, hn, hr⟩
  obtain ⟨e, hx, rfl⟩ := map_get hx0
  have hi : i < es.length := (List.getElem?_eq_some_iff.mp hx).1
  have hlen : acc.length < sizeLine := by rw [ea, List.length_map]; omega
  refine h i e hx G' _ _ hs fun p G4 hp h4 s4 => ⟨s4 D _ eg, hlen, rs ++ [p], by simp [ea], by simp [hl], gup_same, (hs.trans s4).over hD, ?_, ?_⟩
  ·have hDp : D ≠ p := ne_some_none eg hp
   have hpr : p ∉ rs := by
    intro hm
    obtain ⟨j, hj⟩ : ∃ j : Nat, _ := List.getElem?_of_mem hm
    have hjl : j < rs.length := (List.getElem?_eq_some_iff.mp hj).1
    have := (hr j p es[j] hj (List.getElem?_eq_getElem (by omega))).2
    rw [hp] at this; cases this
   rw [List.nodup_cons] at hn
   simp only [List.nodup_cons, List.mem_append, List.mem_singleton, not_or, List.nodup_append, List.not_mem_nil, not_false_eq_true, List.nodup_nil, and_true]
   exact ⟨⟨hn.1, hDp⟩, hn.2, trivial, fun a ha b hb => by subst hb; rintro rfl; exact hpr ha⟩
  ·intro j r e' hj he'
   have hjl : j < rs.length + 1 := by have := (List.getElem?_eq_some_iff.mp hj).1; simpa using this
   by_cases hjr : j < rs.length
   ·rw [List.getElem?_append_left hjr] at hj
    obtain ⟨q1, q2⟩ := hr j r e' hj he'
    have : r ≠ D := by rintro rfl; exact (List.nodup_cons.mp hn).1 (List.mem_of_getElem? hj)
    exact ⟨q1, by rw [gup_ne this]; exact s4 _ _ q2⟩
   ·have hj2 : j = rs.length := by omega
    subst hj2
    rw [List.getElem?_append_right (Nat.le_refl _)] at hj
    simp at hj
    subst hj
    rw [hl, hx] at he'; cases he'
    exact ⟨hs.none hp, by rw [gup_ne (ne_some_none eg hp).symm]; exact h4⟩
 ·rintro acc G' ⟨rs, ea, hl, eg, hs, hn, hr⟩
  rw [ea] at eg
  exact hq D rs G' hD eg hs (by simpa using hl) hn hr
end L3
namespace L3
open PySem PySem.Spec PyProof.Rows L2
section
variable {X : Cx}
noncomputable def rAddE : R3 := fun x y G Q => ∃ ys, x = .tup [] ∧ y = .tup ys ∧ Q (.tup ys) G
theorem o_addE : Op3 X (binaryOp .Add) rAddE := by
 intro pins s τ G H x y v u Q ⟨σ, I, hs, hg⟩ ⟨a, ra, rv⟩ ⟨b, rb, ru⟩ ⟨ys, ex, ey, q⟩
 subst ex; subst ey
 obtain ⟨pa, vs, rfl, h1, r1⟩ := (show ∃ p vs, a = .ref p ∧ H p = some (.tup vs) ∧ Reps X.K H [] vs from ra)
 obtain ⟨pb, ws, rfl, h2, r2⟩ := (show ∃ p vs, b = .ref p ∧ H p = some (.tup vs) ∧ Reps X.K H ys vs from rb)
 cases rv; cases ru
 obtain ⟨its, q1, p1, _⟩ := I.tuple (.of h1)
 obtain ⟨its2, q2, p2, _⟩ := I.tuple (.of h2)
 have e0 : its.toArray.isEmpty = true := by
  have e1 := r1.length
  have e2 := q1.length
  have : its = [] := List.eq_nil_of_length_eq_zero (by simp at e1; omega)
  rw [this]; rfl
 obtain ⟨⟨cls, dd, data, sl⟩, ho, hc, n, hd⟩ := id p1
 obtain ⟨⟨cls2, dd2, data2, sl2⟩, ho2, hc2, n2, hd2⟩ := id p2
 simp only at hc hd hc2 hd2
 subst hc hd hc2 hd2
 exact concat_meets ⟨_, ho, rfl⟩ ⟨_, ho2, rfl⟩ noFill_tuple_add seq_tuple_add PySem.F.slot_tuple_add PySem.F.entry_tuple_add (PySem.F.args_tuple_add_2 _ _) (tuple_addW0 pa pb its.toArray its2.toArray n n2 dd dd2 sl sl2 e0)
  ⟨ho, ho2, .tup ys, G, H, .refl H, ⟨σ, I, hs, hg⟩, ⟨.ref pb, ⟨pb, ws, rfl, h2, r2⟩, rfl⟩, q⟩
noncomputable def rAddG : R3 := fun x y G Q => rAddF x y G Q ∨ rAddE x y G Q
theorem o_addG : Op3 X (binaryOp .Add) rAddG := o_addF.or o_addE
end
end L3
namespace L3
open PySem PySem.Spec PyProof.Rows L2
end L3
namespace L3
open PySem PySem.Spec PyProof.Rows L2
section
variable {P : Program} {w : World} {A : Around} {E : Value → Shared → Prop} {s : Shared} {d : Addr}
end
section
variable {X : Cx}
end
end L3
namespace L3
open PySem PySem.Spec PyProof.Rows L2
noncomputable def Itl (K : PySem.W.Frag) (a1 a2 : Addr) : It :=
 ⟨fun i H => ∃ xs ys x y, SqL K H a1 xs ∧ SqL K H a2 ys ∧ xs[i]? = some x ∧ ys[i]? = some y,
  fun i H v H' => ∃ p x y, H p = none ∧ v = .ref p ∧ (∀ xs, SqL K H a1 xs → xs[i]? = some x) ∧ (∀ ys, SqL K H a2 ys → ys[i]? = some y) ∧ H' = upd H p (.tup [x, y]),
  fun i H => ∃ xs ys, SqL K H a1 xs ∧ SqL K H a2 ys ∧ (xs.length ≤ i ∨ ys.length ≤ i)⟩
theorem turn_zipL {P : Program} {w : World} {K : PySem.W.Frag} {elts : List Expr} {k : Nat} {pos : Pos} (z TI TO i1 i2 a1 a2 : Addr) (D : ZipApart z TI TO i1 i2 a1 a2) :
  Turn P w K (.Tuple elts k pos) (Itl K a1 a2) [z, TI, TO, i1, i2] z (fun i h => IsZip h z TI TO .none ∧ IsPair h TI (.ref i1) (.ref i2) ∧ (∃ a b, IsPair h TO a b) ∧ h.IsListIter i1 a1 i ∧ h.IsListIter i2 a2 i) where
 mem := by simp
 obj := fun i h ⟨hz, hTI, ⟨a, b, hTO⟩, h1, h2⟩ c hc => by
  simp only [List.mem_cons, List.not_mem_nil, or_false] at hc
  rcases hc with rfl | rfl | rfl | rfl | rfl
  ·exact ⟨_, hz, fun v z => nomatch (show Data.fields _ = Data.cell v from z)⟩
  ·exact ⟨_, hTI, fun v z => nomatch (show Data.seq _ _ = Data.cell v from z)⟩
  ·exact ⟨_, hTO, fun v z => nomatch (show Data.seq _ _ = Data.cell v from z)⟩
  ·obtain ⟨o, e, c, d⟩ := h1; exact ⟨o, e, fun v z => by rw [d] at z; cases z⟩
  ·obtain ⟨o, e, c, d⟩ := h2; exact ⟨o, e, fun v z => by rw [d] at z; cases z⟩
 keep := fun i h h' ⟨hz, hTI, ⟨a, b, hTO⟩, h1, h2⟩ kp => ⟨kp z (by simp) _ hz, kp TI (by simp) _ hTI, ⟨a, b, kp TO (by simp) _ hTO⟩, h1.at fun o q => kp i1 (by simp) o q, h2.at fun o q => kp i2 (by simp) o q⟩
 item := by
  intro X hP hw hK hc i pins s σ H E I hf ⟨hz, hTI, ⟨a, b, hTO⟩, h1, h2⟩ hg
  subst hP hw hK
  obtain ⟨xs, ys, x, y, hq1, hq2, hx, hy⟩ := hg
  obtain ⟨its1, rv1, p1, hz1⟩ := I.list hq1
  obtain ⟨its2, rv2, p2, hz2⟩ := I.list hq2
  obtain ⟨u1, hu1, ru1⟩ := rv1.get hx
  obtain ⟨u2, hu2, ru2⟩ := rv2.get hy
  refine wpAny_pyNext_zip_item D hz hTI hTO h1 h2 p1.isList p2.isList (x := u1) (y := u2) (by simpa using hu1) (by simpa using hu2) fun g1 ho gTO g3 g4 hT hsz hk => ?_
  refine ⟨_, rfl, wpAny_letOwnedTupleGo_zip ho fun g2 gz hs2 => ?_⟩
  have hzl : z < s.heap.objs.size := Heap.lt_size hz
  have hp2 : ∀ b o, b ∉ [z, TI, TO, i1, i2] → s.heap.get? b = some o → g2.get? b = some o := fun b o hb q => by
   simp only [List.mem_cons, List.not_mem_nil, or_false, not_or] at hb
   exact (hs2.2 b hb.1).trans (hk b o hb.1 hb.2.2.1 hb.2.2.2.1 hb.2.2.2.2 q)
  have hT2 : g2.get? s.heap.objs.size = some { cls := .type "tuple", data := .seq #[u1, u2] } := (hs2.2 _ (Nat.ne_of_gt hzl)).trans hT
  have I2 := turnedTup (t' := s.toks) (h' := g2) (p := s.heap.objs.size) (vs := [x, y]) (us := [u1, u2]) I hp2 hf (Nat.le_refl _) ⟨_, hT2, rfl, _, rfl, rfl⟩ (.cons ru1 (.cons ru2 .nil)) (by show 2 ≤ sizeLine; decide)
  refine ⟨.ref s.heap.objs.size, _, I2, rfl, ⟨_, x, y, I.hok.fresh (Nat.le_refl _), rfl, fun zs hz => by rw [I.list_inj hz hq1]; exact hx, fun zs hz => by rw [I.list_inj hz hq2]; exact hy, rfl⟩,
   ⟨gz, (hs2.2 _ D.TIz).trans (hk _ _ D.TIz D.TITO D.TIi1 D.TIi2 hTI), ⟨_, _, (hs2.2 _ D.TOz).trans gTO⟩, g3.at fun o q => (hs2.2 _ D.i1z).trans q, g4.at fun o q => (hs2.2 _ D.i2z).trans q⟩, fun b hb => ?_⟩
  have hbs : ∃ o, s.heap.get? b = some o := by
   have hbq := hb
   simp only [List.mem_cons, List.not_mem_nil, or_false] at hbq
   rcases hbq with rfl | rfl | rfl | rfl | rfl
   ·exact ⟨_, hz⟩
   ·exact ⟨_, hTI⟩
   ·exact ⟨_, hTO⟩
   ·obtain ⟨o, q, _⟩ := h1; exact ⟨o, q⟩
   ·obtain ⟨o, q, _⟩ := h2; exact ⟨o, q⟩
  obtain ⟨o, q⟩ := hbs
  rw [upd_ne (Nat.ne_of_lt (Heap.lt_size q))]
  exact (hf b hb).1
 done := by
  intro X hP hw hK hc i pins s σ H E I hf ⟨hz, hTI, ⟨a, b, hTO⟩, h1, h2⟩ hg
  subst hP hw hK
  obtain ⟨xs, ys, hq1, hq2, hx⟩ := hg
  obtain ⟨its1, rv1, p1, hz1⟩ := I.list hq1
  obtain ⟨its2, rv2, p2, hz2⟩ := I.list hq2
  have hl1 := rv1.length
  have hl2 := rv2.length
  refine wpAny_pyNext_zip_end (I.ok.hd hc) D hz hTI hTO h1 h2 p1.isList p2.isList ?_ fun g1 hk => ⟨rfl, turnedL (t' := s.toks) (fp := [z, TI, TO, i1, i2]) I (fun b o hb q => ?_) hf⟩
  ·rcases hx with hx | hx
   ·exact .inl (by simp; omega)
   ·exact .inr (by simp; omega)
  ·simp only [List.mem_cons, List.not_mem_nil, or_false, not_or] at hb
   exact hk b o hb.1 hb.2.2.1 hb.2.2.2.1 hb.2.2.2.2 q
 self := fun _ _ _ _ _ ⟨hz, _⟩ h => wpAny_pyIter_zip hz h
end L3
namespace L3
open PySem PySem.Spec PyProof.Rows L2
section
variable {X : Cx}
noncomputable def rMin2 : List T → Gp → VK3 → Prop := fun xs G Q => ∃ i j, xs = [.int i, .int j] ∧ Q (.int (if j < i then j else i)) G
theorem c_min2 (hc : X.calm = true) : Call3 X (.builtin "min") rMin2 :=
 Call3.of (call_min2 hc) fun H G xs as Q hg ra ⟨i, j, e, q⟩ => by
  subst e
  obtain ⟨v, w, rfl, rv, rw'⟩ := reps2 ra
  cases (show v = .int i from rv); cases (show w = .int j from rw')
  exact ⟨i, j, rfl, .int _, G, .refl H, hg, rfl, q⟩
theorem vals_ints : ∀ {is : List Int} {us : List Value}, Vals (is.map V.int) us → ∃ ps : List (Int × Tok), us = ps.map (fun p => .int p.1 p.2) ∧ ps.map (·.1) = is
 | [], _, .nil => ⟨[], rfl, rfl⟩
 | i :: is, _, .cons ⟨t, e⟩ r => by
  obtain ⟨ps, e1, e2⟩ := vals_ints r
  subst e1; subst e2; subst e
  exact ⟨(i, t) :: ps, rfl, rfl⟩
end
end L3
namespace L3
open PySem PySem.Spec PyProof.Rows L2
section
variable {X : Cx}
end
end L3
namespace L3
open PySem PySem.Spec PyProof.Rows L2
section
variable {X : Cx}
end
section
variable {X : Cx} {pos : Pos}
end
theorem szle {n : Nat} (h : Nat.ble n 16777216 = true) : n ≤ sizeLine := by rw [PySem.sizeLine_eq]; exact Nat.le_of_ble_eq_true h
end L3
namespace L3
theorem xe1 {A0 : Type} {σ : Type} {f : A0 → σ} {p : A0 → Prop} {τ : σ} {C : σ → Prop} (k : ∀ a0, p a0 → C (f a0)) : (∃ a0, τ = f a0 ∧ p a0) → C τ := by
 rintro ⟨a0, e, h⟩; rw [e]; exact k _ h
theorem xe2 {A0 A1 : Type} {σ : Type} {f : A0 → A1 → σ} {p : A0 → A1 → Prop} {τ : σ} {C : σ → Prop} (k : ∀ a0 a1, p a0 a1 → C (f a0 a1)) : (∃ a0 a1, τ = f a0 a1 ∧ p a0 a1) → C τ := by
 rintro ⟨a0, a1, e, h⟩; rw [e]; exact k _ _ h
theorem xi2 {A0 A1 : Type} {σ : Type} {f : A0 → A1 → σ} {p : A0 → A1 → Prop} {τ : σ} (a0 : A0) (a1 : A1) (e : τ = f a0 a1) (h : p a0 a1) : ∃ a0 a1, τ = f a0 a1 ∧ p a0 a1 := ⟨a0, a1, e, h⟩
theorem xe3 {A0 A1 A2 : Type} {σ : Type} {f : A0 → A1 → A2 → σ} {p : A0 → A1 → A2 → Prop} {τ : σ} {C : σ → Prop} (k : ∀ a0 a1 a2, p a0 a1 a2 → C (f a0 a1 a2)) : (∃ a0 a1 a2, τ = f a0 a1 a2 ∧ p a0 a1 a2) → C τ := by
 rintro ⟨a0, a1, a2, e, h⟩; rw [e]; exact k _ _ _ h
theorem xi3 {A0 A1 A2 : Type} {σ : Type} {f : A0 → A1 → A2 → σ} {p : A0 → A1 → A2 → Prop} {τ : σ} (a0 : A0) (a1 : A1) (a2 : A2) (e : τ = f a0 a1 a2) (h : p a0 a1 a2) : ∃ a0 a1 a2, τ = f a0 a1 a2 ∧ p a0 a1 a2 := ⟨a0, a1, a2, e, h⟩
theorem xe4 {A0 A1 A2 A3 : Type} {σ : Type} {f : A0 → A1 → A2 → A3 → σ} {p : A0 → A1 → A2 → A3 → Prop} {τ : σ} {C : σ → Prop} (k : ∀ a0 a1 a2 a3, p a0 a1 a2 a3 → C (f a0 a1 a2 a3)) : (∃ a0 a1 a2 a3, τ = f a0 a1 a2 a3 ∧ p a0 a1 a2 a3) → C τ := by
 rintro ⟨a0, a1, a2, a3, e, h⟩; rw [e]; exact k _ _ _ _ h
theorem xi4 {A0 A1 A2 A3 : Type} {σ : Type} {f : A0 → A1 → A2 → A3 → σ} {p : A0 → A1 → A2 → A3 → Prop} {τ : σ} (a0 : A0) (a1 : A1) (a2 : A2) (a3 : A3) (e : τ = f a0 a1 a2 a3) (h : p a0 a1 a2 a3) : ∃ a0 a1 a2 a3, τ = f a0 a1 a2 a3 ∧ p a0 a1 a2 a3 := ⟨a0, a1, a2, a3, e, h⟩
theorem xe5 {A0 A1 A2 A3 A4 : Type} {σ : Type} {f : A0 → A1 → A2 → A3 → A4 → σ} {p : A0 → A1 → A2 → A3 → A4 → Prop} {τ : σ} {C : σ → Prop} (k : ∀ a0 a1 a2 a3 a4, p a0 a1 a2 a3 a4 → C (f a0 a1 a2 a3 a4)) : (∃ a0 a1 a2 a3 a4, τ = f a0 a1 a2 a3 a4 ∧ p a0 a1 a2 a3 a4) → C τ := by
 rintro ⟨a0, a1, a2, a3, a4, e, h⟩; rw [e]; exact k _ _ _ _ _ h
theorem xi5 {A0 A1 A2 A3 A4 : Type} {σ : Type} {f : A0 → A1 → A2 → A3 → A4 → σ} {p : A0 → A1 → A2 → A3 → A4 → Prop} {τ : σ} (a0 : A0) (a1 : A1) (a2 : A2) (a3 : A3) (a4 : A4) (e : τ = f a0 a1 a2 a3 a4) (h : p a0 a1 a2 a3 a4) : ∃ a0 a1 a2 a3 a4, τ = f a0 a1 a2 a3 a4 ∧ p a0 a1 a2 a3 a4 := ⟨a0, a1, a2, a3, a4, e, h⟩
theorem xe7 {A0 A1 A2 A3 A4 A5 A6 : Type} {σ : Type} {f : A0 → A1 → A2 → A3 → A4 → A5 → A6 → σ} {p : A0 → A1 → A2 → A3 → A4 → A5 → A6 → Prop} {τ : σ} {C : σ → Prop} (k : ∀ a0 a1 a2 a3 a4 a5 a6, p a0 a1 a2 a3 a4 a5 a6 → C (f a0 a1 a2 a3 a4 a5 a6)) : (∃ a0 a1 a2 a3 a4 a5 a6, τ = f a0 a1 a2 a3 a4 a5 a6 ∧ p a0 a1 a2 a3 a4 a5 a6) → C τ := by
 rintro ⟨a0, a1, a2, a3, a4, a5, a6, e, h⟩; rw [e]; exact k _ _ _ _ _ _ _ h
theorem xi7 {A0 A1 A2 A3 A4 A5 A6 : Type} {σ : Type} {f : A0 → A1 → A2 → A3 → A4 → A5 → A6 → σ} {p : A0 → A1 → A2 → A3 → A4 → A5 → A6 → Prop} {τ : σ} (a0 : A0) (a1 : A1) (a2 : A2) (a3 : A3) (a4 : A4) (a5 : A5) (a6 : A6) (e : τ = f a0 a1 a2 a3 a4 a5 a6) (h : p a0 a1 a2 a3 a4 a5 a6) : ∃ a0 a1 a2 a3 a4 a5 a6, τ = f a0 a1 a2 a3 a4 a5 a6 ∧ p a0 a1 a2 a3 a4 a5 a6 := ⟨a0, a1, a2, a3, a4, a5, a6, e, h⟩
theorem xe10 {A0 A1 A2 A3 A4 A5 A6 A7 A8 A9 : Type} {σ : Type} {f : A0 → A1 → A2 → A3 → A4 → A5 → A6 → A7 → A8 → A9 → σ} {p : A0 → A1 → A2 → A3 → A4 → A5 → A6 → A7 → A8 → A9 → Prop} {τ : σ} {C : σ → Prop} (k : ∀ a0 a1 a2 a3 a4 a5 a6 a7 a8 a9, p a0 a1 a2 a3 a4 a5 a6 a7 a8 a9 → C (f a0 a1 a2 a3 a4 a5 a6 a7 a8 a9)) : (∃ a0 a1 a2 a3 a4 a5 a6 a7 a8 a9, τ = f a0 a1 a2 a3 a4 a5 a6 a7 a8 a9 ∧ p a0 a1 a2 a3 a4 a5 a6 a7 a8 a9) → C τ := by
 rintro ⟨a0, a1, a2, a3, a4, a5, a6, a7, a8, a9, e, h⟩; rw [e]; exact k _ _ _ _ _ _ _ _ _ _ h
theorem xi10 {A0 A1 A2 A3 A4 A5 A6 A7 A8 A9 : Type} {σ : Type} {f : A0 → A1 → A2 → A3 → A4 → A5 → A6 → A7 → A8 → A9 → σ} {p : A0 → A1 → A2 → A3 → A4 → A5 → A6 → A7 → A8 → A9 → Prop} {τ : σ} (a0 : A0) (a1 : A1) (a2 : A2) (a3 : A3) (a4 : A4) (a5 : A5) (a6 : A6) (a7 : A7) (a8 : A8) (a9 : A9) (e : τ = f a0 a1 a2 a3 a4 a5 a6 a7 a8 a9) (h : p a0 a1 a2 a3 a4 a5 a6 a7 a8 a9) : ∃ a0 a1 a2 a3 a4 a5 a6 a7 a8 a9, τ = f a0 a1 a2 a3 a4 a5 a6 a7 a8 a9 ∧ p a0 a1 a2 a3 a4 a5 a6 a7 a8 a9 := ⟨a0, a1, a2, a3, a4, a5, a6, a7, a8, a9, e, h⟩
theorem ae2 {a0 a1 C : Prop} (k : a0 → a1 → C) (h : a0 ∧ a1) : C := k h.1 h.2
theorem ae3 {a0 a1 a2 C : Prop} (k : a0 → a1 → a2 → C) (h : a0 ∧ a1 ∧ a2) : C := k h.1 h.2.1 h.2.2
theorem ae4 {a0 a1 a2 a3 C : Prop} (k : a0 → a1 → a2 → a3 → C) (h : a0 ∧ a1 ∧ a2 ∧ a3) : C := k h.1 h.2.1 h.2.2.1 h.2.2.2
theorem ae5 {a0 a1 a2 a3 a4 C : Prop} (k : a0 → a1 → a2 → a3 → a4 → C) (h : a0 ∧ a1 ∧ a2 ∧ a3 ∧ a4) : C := k h.1 h.2.1 h.2.2.1 h.2.2.2.1 h.2.2.2.2
theorem ae6 {a0 a1 a2 a3 a4 a5 C : Prop} (k : a0 → a1 → a2 → a3 → a4 → a5 → C) (h : a0 ∧ a1 ∧ a2 ∧ a3 ∧ a4 ∧ a5) : C := k h.1 h.2.1 h.2.2.1 h.2.2.2.1 h.2.2.2.2.1 h.2.2.2.2.2
theorem ae7 {a0 a1 a2 a3 a4 a5 a6 C : Prop} (k : a0 → a1 → a2 → a3 → a4 → a5 → a6 → C) (h : a0 ∧ a1 ∧ a2 ∧ a3 ∧ a4 ∧ a5 ∧ a6) : C := k h.1 h.2.1 h.2.2.1 h.2.2.2.1 h.2.2.2.2.1 h.2.2.2.2.2.1 h.2.2.2.2.2.2
end L3
namespace L3
open PySem PySem.Spec PyProof.Rows L2
section
variable {X : Cx}
theorem call_sumL (hc : X.calm = true) : CallR X (.builtin "sum") (fun xs H Q => ∃ (p : Addr) (is : List Int), xs = [.ref p] ∧ SqL X.K H p (is.map V.int) ∧ ∀ z, Q (.int z) H) := by
 intro pins s σ H xs us Q I r h
 obtain ⟨p, is, rfl, hx, q⟩ := h
 obtain ⟨u, rfl, ru⟩ := vals1 r
 cases ru
 obtain ⟨its, r', pl, hz⟩ := I.list hx
 obtain ⟨ps, e1, e2⟩ := vals_ints r'
 subst e1
 have eI : (ps.map (fun p => Value.int p.1 p.2)).toArray = intItems ps.toArray := by simp [intItems]
 refine sum_intListG (xs := ps.toArray) (I.ok.hd hc) (eI ▸ pl.isList) fun h' tk t' k => ?_
 exact ⟨.int _, H, I.kept k, ⟨t', rfl⟩, q _⟩
noncomputable def rSum : List T → Gp → VK3 → Prop := fun xs G Q => ∃ (p : Addr) (is : List Int), xs = [.ref p] ∧ G p = some (.lst (is.map T.int)) ∧ ∀ z, Q (.int z) G
theorem c_sum (hc : X.calm = true) : Call3 X (.builtin "sum") rSum :=
 Call3.of (call_sumL hc) fun H G xs as Q hg ra ⟨p, is, e, hG, q⟩ => by
  subst e
  obtain ⟨v, rfl, rv⟩ := reps1 ra
  cases (show v = .ref p from rv)
  obtain ⟨vs, h1, h2⟩ := hg.lst hG
  have e := reps_ints h2
  subst e
  exact ⟨p, is, rfl, .of h1, fun z => ⟨.int z, G, .refl H, hg, rfl, q z⟩⟩
theorem valsPick {xs : List V} {us : List Value} (h : Vals xs us) : ∀ is : List Nat, Vals (is.filterMap (xs[·]?)) (is.filterMap (us[·]?))
 | [] => .nil
 | i :: is => by
  rw [List.filterMap_cons, List.filterMap_cons]
  cases e : xs[i]? with
  | none => rw [h.none_of e]; exact valsPick h is
  | some x =>
   obtain ⟨u, e2, r⟩ := h.get e
   rw [e2]; exact .cons r (valsPick h is)
theorem repsPick {K : PySem.W.Frag} {H : Hp} {xs : List T} {vs : List V} (h : Reps K H xs vs) : ∀ is : List Nat, Reps K H (is.filterMap (xs[·]?)) (is.filterMap (vs[·]?))
 | [] => rfl
 | i :: is => by
  rw [List.filterMap_cons, List.filterMap_cons]
  cases e : xs[i]? with
  | none =>
   have : vs[i]? = none := by
    cases e2 : vs[i]? with
    | none => rfl
    | some v => obtain ⟨x, e3, _⟩ := h.get' e2; rw [e] at e3; cases e3
   rw [this]; exact repsPick h is
  | some x =>
   obtain ⟨v, e2, r⟩ := h.get e
   rw [e2]; exact ⟨v, _, rfl, r, repsPick h is⟩
noncomputable def tSlSt (te : TE3) (tl th tk : TO3) : TE3 := fun τ G Q => te τ G fun x G1 => tl τ G1 fun l G2 => th τ G2 fun u G3 => tk τ G3 fun k G4 => k ≠ some 0 ∧ ∃ xs, listT G4 x = some xs ∧ ∀ (is : List Nat) p, G4 p = none → Q (.ref p) (gup G4 p (.lst (is.filterMap (xs[·]?))))
theorem e_slSt {e st : Expr} {te : TE3} {lo hi : Option Expr} {tl th tk : TO3} {pos p2 : Pos} (he : PE3 X e te) (hl : PO3 X lo tl) (hu : PO3 X hi th) (hk : PO3 X (some st) tk) : PE3 X (.Subscript e (.Slice lo hi (some st) p2) pos) (tSlSt te tl th tk) := by
 intro pins s τ G H Q I h
 refine Subscript_ (thn (he pins s τ G H _ I h) fun v s1 w_ => w_.el fun x G1 H1 e1 I1 r1 q1 => ?_)
 refine wpAny_Slice (thn (hl pins s1 τ G1 H1 _ I1 q1) fun vl s2 ⟨l, G2, H2, e2, I2, pl, q2⟩ => thn (hu pins s2 τ G2 H2 _ I2 q2) fun vu s3 ⟨u, G3, H3, e3, I3, pu, q3⟩ => thn (hk pins s3 τ G3 H3 _ I3 q3) fun vk s4 ⟨k, G4, H4, e4, ⟨σ, I4, hs4, hg4⟩, pk, ek, xs, hx, q4⟩ => ?_)
 have e14 := e2.trans (e3.trans e4)
 have I5 : Inv X pins σ H4 { s4 with heap := s4.heap.push { cls := .type "slice", data := .fields #[vl, vu, vk] } } := I4.kept (t' := s4.toks) fun b ob q => Heap.get?_push_of_some _ q
 obtain ⟨a, ra, rv⟩ := r1.mono e14
 obtain ⟨p, vs, ea, hq, r⟩ := list_now hg4 ra hx
 subst ea
 cases rv
 obtain ⟨its, rr, ht, hz⟩ := I5.list hq
 have hlen := rr.length
 have hg : wpAny (model X.prog X.w) X.A (getItem (.ref p) (.ref s4.heap.objs.size)) (EP3 X pins τ H4 Q) X.xe { s4 with heap := s4.heap.push { cls := .type "slice", data := .fields #[vl, vu, vk] } } := by
  refine wpAny_getItem_list_slice ht.isList (Heap.IsSliceOf.new ..) pl pu pk ek ?_ (by rw [List.size_toArray] <;> omega)
  have hsz := slicePick_size_le its.toArray l u k
  unfold slicePick at hsz ⊢
  generalize sliceRange _ _ _ = is at hsz ⊢
  have ei : is.filterMap (its.toArray[·]?) = is.filterMap (its[·]?) := by congr 1; funext i; exact List.getElem?_toArray
  rw [ei] at hsz ⊢
  have vp := valsPick rr is
  refine of_EP hs4 ⟨.ref _, _, I5.laid (t' := s4.toks) (o := .lst (is.filterMap (vs[·]?))) (fun b ob q => Heap.get?_push_of_some _ q) (Nat.le_refl _) ⟨?_, _, 0, vp, Heap.get?_push_size _ rfl⟩, rfl, ?_⟩
  ·rw [vp.length]; simp at hsz; omega
  ·exact ⟨.ref _, _, .upd (.none (I5.hok.fresh (Nat.le_refl _))), hg4.lstNew (repsPick r is) (.none (I5.hok.fresh (Nat.le_refl _))), rfl, q4 is _ (hg4.fresh (I5.hok.fresh (Nat.le_refl _)))⟩
 show wpAny (model X.prog X.w) X.A (subscriptTail e (.Slice lo hi (some st) p2) (.ref p) (.ref s4.heap.objs.size)) (EP3 X pins τ H Q) X.xe { s4 with heap := s4.heap.push { cls := .type "slice", data := .fields #[vl, vu, vk] } }
 exact thn (tail_any (ops := [.ref p, .ref s4.heap.objs.size]) ht.isList.typeIs slot_list_getitem.lookup hg (by with_unfolding_all rfl)) fun _ _ z => z.ext (e1.trans e14)
noncomputable def rNotInT : R3 := fun x y G Q => ∃ p xs, y = .ref p ∧ G p = some (.lst xs) ∧ eqOk x = true ∧ eqOks xs = true ∧ ∀ b : Bool, Q (.bl b) G
theorem o_notInT (hu : X.A.units + 64 < cLine) : Op3 X (compareOp .NotIn) rNotInT := by
 intro pins s τ G H x y v u Q ⟨σ, I, hs, hg⟩ ⟨a, ra, rv⟩ ⟨b, rb, ru⟩ ⟨p, xs, ey, hp, ox, oxs, q⟩
 subst ey
 cases (show b = .ref p from rb)
 cases ru
 obtain ⟨vs, h1, h2⟩ := hg.lst hp
 obtain ⟨its, r1, ⟨o, n, ho, hc, _, hd⟩, _⟩ := I.list (.of h1)
 simp only [eqOk, eqOks, Bool.and_eq_true, decide_eq_true_eq] at ox oxs
 obtain ⟨as, r3⟩ := reads_Ts I xs oxs.1.1 h2 r1
 obtain ⟨bs, r4⟩ := reads_T I x ox.1.1 ra rv
 have hd' := ox.2
 exact SeqAt.notIn_list_reads (.list ho hc hd (by simpa using r3)) r4 (by simpa [PyData.canLay0] using oxs.1.2) ox.1.2 (by have := Nat.min_le_right (PyData.depthAll (tds xs)) (td x).depth; omega) ⟨.bl _, G, H, .refl H, ⟨σ, I, hs, hg⟩, ⟨.bl _, rfl, rfl⟩, q _⟩
end
end L3
namespace L3
open PySem PySem.Spec PyProof.Rows L2
theorem zipL_go {X : Cx} {elts : List Expr} {k : Nat} {tpos : Pos} {pins : List (Addr × Obj)} {s1 : Shared} {τ : St3} {σ : L2.St} {G1 : Gp} {H H1 : Hp} {R : List T → (Gp → Prop) → Gp → Prop} {x y : T} {xs ys : List T} {v w : V} {u u' : Value} (St : Gp → Prop) (hSt : ∀ G', St G' → listT G' x = some xs ∧ listT G' y = some ys)
  (e1 : Ext H H1) (I1 : Inv X pins σ H1 s1) (hs1 : SRel X.K H1 σ τ) (hg1 : GRel X.K H1 G1) (rv : Rep X.K H1 x v) (rw' : Rep X.K H1 y w) (ru : RelV v u) (ru' : RelV w u') (hx : listT G1 x = some xs) (hy : listT G1 y = some ys) (q : R (zipT xs ys) St G1) :
  wpAny (model X.prog X.w) X.A (call (.type "zip") [u, u']) (fun v s1 => wpAny (model X.prog X.w) X.A (pyIter v) (PIE3 X pins τ H (.Tuple elts k tpos) R) X.xe s1) X.xe s1 := by
 obtain ⟨pa, vs, rfl, hq1, r1⟩ := list_now hg1 rv hx
 obtain ⟨pb, ws, rfl, hq2, r2⟩ := list_now hg1 rw' hy
 cases ru; cases ru'
 obtain ⟨its1, rv1, p1, hz1⟩ := I1.list hq1
 obtain ⟨its2, rv2, p2, hz2⟩ := I1.list hq2
 have hal : pa < s1.heap.objs.size := by obtain ⟨o, ho, _⟩ := p1.isList; exact Heap.lt_size ho
 have hbl : pb < s1.heap.objs.size := by obtain ⟨o, ho, _⟩ := p2.isList; exact Heap.lt_size ho
 refine call_zip_2 p1.isList p2.isList fun h1 hz hTI hTO hi1 hi2 hsz hk => ?_
 have I2 : Inv X pins σ H1 { s1 with heap := h1 } := I1.kept (t' := s1.toks) hk
 refine wpAny_pyIter_zip hz ?_
 have fr : ∀ c ∈ [s1.heap.objs.size + 4, s1.heap.objs.size + 2, s1.heap.objs.size + 3, s1.heap.objs.size, s1.heap.objs.size + 1], FpOk X pins H1 c := fun c hc => by
  simp only [List.mem_cons, List.not_mem_nil, or_false] at hc
  have hle : s1.heap.objs.size ≤ c := by omega
  exact I1.fpOk hle (I1.hok.fresh hle)
 have D : ZipApart (s1.heap.objs.size + 4) (s1.heap.objs.size + 2) (s1.heap.objs.size + 3) s1.heap.objs.size (s1.heap.objs.size + 1) pa pb := zapart hal hbl
 refine ⟨s1.heap.objs.size + 4, _, _, _, zipT xs ys, St, G1, H1, rfl, e1, ⟨σ, I2, hs1, hg1⟩, turn_zipL _ _ _ _ _ pa pb D, ⟨hz, hTI, ⟨_, _, hTO⟩, hi1, hi2⟩, fr, ?_, q⟩
 intro i H2 G2 e2 g2 st0
 have st := hSt G2 st0
 obtain ⟨pa', vs', ea, ha', ra'⟩ := list_now g2 (Rep.mono e2 _ rv) st.1
 obtain ⟨pb', ws', eb, hbq, rb'⟩ := list_now g2 (Rep.mono e2 _ rw') st.2
 cases ea; cases eb
 have hl1 := ra'.length
 have hl2 := rb'.length
 have hzl : (zipT xs ys).length = min xs.length ys.length := by simp [zipT]
 refine ⟨fun hi => ?_, fun hi => ⟨vs', ws', ha', hbq, by omega⟩, fun hi y H' ⟨pp, x1, x2, hn, ey, hy1, hy2, eH⟩ => ?_⟩
 ·exact ⟨vs', ws', vs'[i]'(by omega), ws'[i]'(by omega), ha', hbq, List.getElem?_eq_getElem _, List.getElem?_eq_getElem _⟩
 ·subst ey; subst eH
  obtain ⟨t1, ht1, rt1⟩ := ra'.get' (hy1 vs' ha')
  obtain ⟨t2, ht2, rt2⟩ := rb'.get' (hy2 ws' hbq)
  have hzi : (zipT xs ys)[i]? = some (.tup [t1, t2]) := by
   unfold zipT
   rw [List.getElem?_map, show (xs.zip ys)[i]? = some (t1, t2) from List.getElem?_zip_eq_some.mpr ⟨ht1, ht2⟩]; rfl
  exact ⟨.upd (.none hn), g2.tupNew hn, _, hzi, Rep.tupNew ⟨_, _, rfl, rt1, _, _, rfl, rt2, rfl⟩ hn⟩
theorem zipT_go {X : Cx} {elts : List Expr} {k : Nat} {tpos : Pos} {pins : List (Addr × Obj)} {s1 : Shared} {τ : St3} {σ : L2.St} {G1 : Gp} {H H1 : Hp} {R : List T → (Gp → Prop) → Gp → Prop} {xs ys : List T} {v w : V} {u u' : Value} (St : Gp → Prop)
  (e1 : Ext H H1) (I1 : Inv X pins σ H1 s1) (hs1 : SRel X.K H1 σ τ) (hg1 : GRel X.K H1 G1) (rv : Rep X.K H1 (.tup xs) v) (rw' : Rep X.K H1 (.tup ys) w) (ru : RelV v u) (ru' : RelV w u') (q : R (zipT xs ys) St G1) :
  wpAny (model X.prog X.w) X.A (call (.type "zip") [u, u']) (fun v s1 => wpAny (model X.prog X.w) X.A (pyIter v) (PIE3 X pins τ H (.Tuple elts k tpos) R) X.xe s1) X.xe s1 := by
 obtain ⟨pa, vs, rfl, hq1, r1⟩ := (show ∃ p vs, v = .ref p ∧ H1 p = some (.tup vs) ∧ Reps X.K H1 xs vs from rv)
 obtain ⟨pb, ws, rfl, hq2, r2⟩ := (show ∃ p vs, w = .ref p ∧ H1 p = some (.tup vs) ∧ Reps X.K H1 ys vs from rw')
 cases ru; cases ru'
 obtain ⟨its1, rv1, p1, hz1⟩ := I1.tuple (.of hq1)
 obtain ⟨its2, rv2, p2, hz2⟩ := I1.tuple (.of hq2)
 have hal : pa < s1.heap.objs.size := by obtain ⟨o, ho, _⟩ := p1; exact Heap.lt_size ho
 have hbl : pb < s1.heap.objs.size := by obtain ⟨o, ho, _⟩ := p2; exact Heap.lt_size ho
 refine zip_made (show s1.heap.IsTuple pa its1.toArray from p1) (show s1.heap.IsTuple pb its2.toArray from p2) fun h1 n hn hz hTI hTO hi1 hi2 hk => ?_
 subst hn
 have I2 : Inv X pins σ H1 { s1 with heap := h1 } := I1.kept (t' := s1.toks) hk
 refine wpAny_pyIter_zip hz ?_
 have fr : ∀ c ∈ [s1.heap.objs.size + 4, s1.heap.objs.size + 2, s1.heap.objs.size + 3, s1.heap.objs.size, s1.heap.objs.size + 1], FpOk X pins H1 c := fun c hc => by
  simp only [List.mem_cons, List.not_mem_nil, or_false] at hc
  have hle : s1.heap.objs.size ≤ c := by omega
  exact I1.fpOk hle (I1.hok.fresh hle)
 have D : ZipApart (s1.heap.objs.size + 4) (s1.heap.objs.size + 2) (s1.heap.objs.size + 3) s1.heap.objs.size (s1.heap.objs.size + 1) pa pb := zapart hal hbl
 refine ⟨s1.heap.objs.size + 4, _, _, _, zipT xs ys, St, G1, H1, rfl, e1, ⟨σ, I2, hs1, hg1⟩, turn_zip _ _ _ _ _ pa pb D, ⟨hz, hTI, ⟨_, _, hTO⟩, hi1.1, hi2.1⟩, fr, ?_, q⟩
 intro i H2 G2 e2 g2 _
 obtain ⟨pa', vs', ea, ha', ra'⟩ := (show ∃ p vs, V.ref pa = .ref p ∧ H2 p = some (.tup vs) ∧ Reps X.K H2 xs vs from Rep.mono e2 _ rv)
 obtain ⟨pb', ws', eb, hbq, rb'⟩ := (show ∃ p vs, V.ref pb = .ref p ∧ H2 p = some (.tup vs) ∧ Reps X.K H2 ys vs from Rep.mono e2 _ rw')
 cases ea; cases eb
 have hl1 := ra'.length
 have hl2 := rb'.length
 have hzl : (zipT xs ys).length = min xs.length ys.length := by simp [zipT]
 refine ⟨fun hi => ?_, fun hi => ⟨vs', ws', .of ha', .of hbq, by omega⟩, fun hi y H' ⟨pp, x1, x2, hn, ey, hy1, hy2, eH⟩ => ?_⟩
 ·exact ⟨vs', ws', vs'[i]'(by omega), ws'[i]'(by omega), .of ha', .of hbq, List.getElem?_eq_getElem _, List.getElem?_eq_getElem _⟩
 ·subst ey; subst eH
  obtain ⟨t1, ht1, rt1⟩ := ra'.get' (hy1 vs' (.of ha'))
  obtain ⟨t2, ht2, rt2⟩ := rb'.get' (hy2 ws' (.of hbq))
  have hzi : (zipT xs ys)[i]? = some (.tup [t1, t2]) := by
   unfold zipT
   rw [List.getElem?_map, show (xs.zip ys)[i]? = some (t1, t2) from List.getElem?_zip_eq_some.mpr ⟨ht1, ht2⟩]; rfl
  exact ⟨.upd (.none hn), g2.tupNew hn, _, hzi, Rep.tupNew ⟨_, _, rfl, rt1, _, _, rfl, rt2, rfl⟩ hn⟩
noncomputable def iZipB (ta : TA3) : TI3 := fun τ G R => ta τ G fun vs G1 => ∃ x y xs ys, vs = [x, y] ∧ ((x = .tup xs ∧ y = .tup ys ∧ R (zipT xs ys) (fun _ => True) G1) ∨ (listT G1 x = some xs ∧ listT G1 y = some ys ∧ R (zipT xs ys) (fun G' => listT G' x = some xs ∧ listT G' y = some ys) G1))
theorem i_zipB {X : Cx} {elts : List Expr} {k : Nat} {tpos pos p : Pos} {a b : Expr} {ta : TA3} (hg : Gl X "zip") (hm : X.mg "zip" = none) (hv : bootBuiltins "zip" = some (.type "zip")) (ha : PA3 X [a, b] ta) (hs : starEach [a, b] X.env = [(false, eval a X.env), (false, eval b X.env)] := by rfl) (hs2 : starEach [b] X.env = [(false, eval b X.env)] := by rfl) :
  PI3 X (.Tuple elts k tpos) (.Call (.Name "zip" p) [a, b] [] pos) (iZipB ta) := by
 intro pins s τ G H R I h
 obtain ⟨σ0, I0, hs0, hg0⟩ := id I
 refine Call_ (ld_blt I0 hg hm hv (PyProof.Rows.callWith_type1 (thn (ha pos pins s τ G H _ I h) fun us s1 w_ => w_.el fun xs' G1 H1 e1 i_ r_ q1 => i_.el fun σ I1 hs1 hg1 => r_.el fun as ras rvs => ?_) (by rw [hs, hs2]) (by rw [hs2]; rfl)))
 obtain ⟨x, y, xs, ys, e, hx⟩ := q1
 subst e
 obtain ⟨v, w, rfl, rv, rw'⟩ := reps2 ras
 obtain ⟨u, u', rfl, ru, ru'⟩ := rvs.two
 rcases hx with ⟨rfl, rfl, q⟩ | ⟨hx, hy, q⟩
 ·exact zipT_go _ e1 I1 hs1 hg1 rv rw' ru ru' q
 ·exact zipL_go _ (fun G' h => h) e1 I1 hs1 hg1 rv rw' ru ru' hx hy q
end L3
namespace W
open PySem L3
local macro_rules
 | `(tactic| wp_walk using 1, $ts,*) => do
  let ls ← ts.getElems.mapM fun t => `(Lean.Parser.Tactic.simpLemma| $t:term)
  let ns ← ("tSeq tIfS tTest tOp rGt rLt rGe rSub L3.rI0 L3.rI rIxF tVar tC tAsg tCB tCons tNil rDivmod rLen rAbs rMax rIntOf gTup gCons gNil gSub gName rSetF tRet tRetN tNext tDrop tCall tLst tTup tIf tNot tAnd tOr tAndV tOrV tNotV tPar rAddF rMulF rMod rFdiv rPow rIsN rNotN isNon tTru rTru truT tUn rNeg addR_int mulR_int mulC_int mulC_ref fin_val fin_new ixR_tup ixR_scr at0 at1 at2 ix30 ix31 ix32 seqT_tup setR_gup ixR_gup seqT_gup Option.map_some and_assoc T.int.injEq T.bl.injEq T.tup.injEq T.ref.injEq List.cons.injEq and_true true_and exists_eq_left exists_eq_left' exists_and_left exists_eq_right List.getElem?_cons_zero List.getElem?_cons_succ List.set_cons_zero List.set_cons_succ List.length_cons List.length_nil Nat.reduceAdd Option.some.injEq gup_same gup_gup reduceCtorEq false_and exists_false exists_const Bool.true_eq Bool.not_eq_true' Bool.not_true Bool.not_false if_true if_false decide_eq_true_eq tBM rAppend rInsert rTupleOf tComp_at tTrue GO.lst.injEq msk List.zipWith_cons_cons List.zipWith_nil_left List.zipWith_nil_right Bool.false_eq_true tyT_gup".splitOn " ").toArray.mapM fun n => `(Lean.Parser.Tactic.simpLemma| $(Lean.mkIdent n.toName):term)
  let al := ns ++ ls
  `(tactic| ((try dsimp only [$al,*]); (try simp only [$al,*])))
local macro_rules
 | `(tactic| omega) => `(tactic| first | exact szle rfl | lia)
noncomputable def BoxAt (G : Gp) (b : Addr) (n : Nat) : Prop := ∃ x y z : Int, G b = some (.lst [.int x, .int y, .int z]) ∧ 0 ≤ x ∧ 0 ≤ y ∧ y < 2147483648 ∧ 0 ≤ z ∧ z ≤ n
noncomputable def Keep (b : Addr) (G G' : Gp) : Prop := ∀ c o, c ≠ b → G c = some o → G' c = some o
theorem Keep.refl (b : Addr) (G : Gp) : Keep b G G := fun _ _ _ h => h
theorem Keep.trans {b : Addr} {G G1 G2 : Gp} (h : Keep b G G1) (h' : Keep b G1 G2) : Keep b G G2 := fun c o hc e => h' c o hc (h c o hc e)
theorem Keep.gup {b : Addr} {G : Gp} {o : GO} : Keep b G (gup G b o) := fun c u hc e => by rw [gup_ne hc]; exact e
theorem Keep.new {b p : Addr} {G : Gp} {o : GO} (hp : G p = none) : Keep b G (L3.gup G p o) := fun c u _ e => by rw [gup_ne]; exact e; rintro rfl; rw [hp] at e; cases e
noncomputable abbrev intsT (ns : List Int) : List T := ns.map T.int
theorem sz : sizeLine = 16777216 := PySem.sizeLine_eq
noncomputable abbrev Web := List (List (Nat × Nat))
noncomputable def encE (e : Nat × Nat) : T := .tup [.int e.1, .int e.2]
noncomputable def encR (r : List (Nat × Nat)) : T := .tup (r.map encE)
noncomputable def encW (W : Web) : T := .tup (W.map encR)
noncomputable def en (W : Web) (r i : Nat) : Option (Nat × Nat) := (W[r]?).bind fun es => es[i]?
noncomputable def sw : Nat → Nat
 | 0 => 1
 | 1 => 0
 | n => n
noncomputable def RowsAt (G : Gp) (h : Addr) (Hs : Web) (rs : List Addr) : Prop := G h = some (.lst (rs.map T.ref)) ∧ rs.length = Hs.length ∧ ∀ (i : Nat) (r : Addr), rs[i]? = some r → ∃ hs : List (Nat × Nat), Hs[i]? = some hs ∧ G r = some (.lst (hs.map encE))
theorem RowsAt.sub {G G' : Gp} {h : Addr} {Hs : Web} {rs : List Addr} (s : Sub G G') (x : RowsAt G h Hs rs) : RowsAt G' h Hs rs := ⟨s _ _ x.1, x.2.1, fun i r e => let ⟨hs, h1, h2⟩ := x.2.2 i r e; ⟨hs, h1, s _ _ h2⟩⟩
noncomputable def keyE (e : Nat × Nat) : L2.TKey := [.inl (.inl (e.1 : Int)), .inl (.inl (e.2 : Int))]
theorem valT_put {κ : Type} [DecidableEq κ] (kvs : List (κ × T)) (k j : κ) (v : T) : valT (putT kvs k v) j = if k = j then some v else valT kvs j := by
 unfold putT valT
 by_cases h : (kvs.any fun kv => decide (kv.1 = k)) = true
 ·rw [if_pos h]
  induction kvs with
  | nil => simp at h
  | cons p ps ih =>
   rw [List.map_cons, List.find?_cons, List.find?_cons]
   by_cases hp : p.1 = k
   ·rw [if_pos hp]
    by_cases hj : k = j
    ·simp [hp, hj]
    ·have h1 : ¬ p.1 = j := fun z => hj (hp.symm.trans z)
     simp only [h1, decide_false, hj, if_false]
     by_cases h2 : (ps.any fun kv => decide (kv.1 = k)) = true
     ·have := ih h2; rw [if_neg hj] at this; exact this
     ·have hm : ps.map (fun kv => if kv.1 = k then (kv.1, v) else kv) = ps := by
       rw [List.map_congr_left (g := id)]; · simp
       intro a ha
       have : ¬ a.1 = k := fun z => h2 (List.any_eq_true.mpr ⟨a, ha, by simp [z]⟩)
       simp [this]
      rw [hm]
   ·rw [if_neg hp]
    have h2 : (ps.any fun kv => decide (kv.1 = k)) = true := by
     rw [List.any_cons, decide_eq_false hp, Bool.false_or] at h; exact h
    have := ih h2
    by_cases hj : p.1 = j
    ·have : ¬ k = j := fun z => hp (hj.trans z.symm)
     simp [hj, this]
    ·simp only [hj, decide_false]; exact this
 ·rw [if_neg h, List.find?_append]
  have hn : (kvs.find? fun kv => decide (kv.1 = j)) = none ∨ ∃ p, (kvs.find? fun kv => decide (kv.1 = j)) = some p := by
   cases kvs.find? fun kv => decide (kv.1 = j) with
   | none => exact .inl rfl
   | some p => exact .inr ⟨p, rfl⟩
  by_cases hj : k = j
  ·subst hj
   have : (kvs.find? fun kv => decide (kv.1 = k)) = none := by
    rw [List.find?_eq_none]
    intro a ha z
    exact h (List.any_eq_true.mpr ⟨a, ha, z⟩)
   simp [this]
  ·rcases hn with e | ⟨p, e⟩
   ·simp [e, hj]
   ·simp [e, hj]
theorem putT_len {κ : Type} [DecidableEq κ] (kvs : List (κ × T)) (k : κ) (v : T) : (putT kvs k v).length ≤ kvs.length + 1 := by
 unfold putT; split <;> simp
theorem dAt_dct {G : Gp} {p : Addr} {kvs : List (L2.TKey × T)} {ys : List T} {ks : L2.TKey} (h : G p = some (.dct kvs)) (hk : keysOf ys = some ks) : dAt G (.ref p) (.tup ys) = some (valT kvs ks) := by simp only [dAt, h, hk]
theorem ixR_dct {G : Gp} {p : Addr} {kvs : List (L2.TKey × T)} {ys : List T} {ks : L2.TKey} {t : T} (h : G p = some (.dct kvs)) (hk : keysOf ys = some ks) (ht : valT kvs ks = some t) : ixR G (.ref p) (.tup ys) = some t := by
 simp only [ixR, seqT, h, asL, dAt_dct h hk, ht]
theorem setR_dct {G : Gp} {p : Addr} {kvs : List (L2.TKey × T)} {ys : List T} {ks : L2.TKey} {v : T} (h : G p = some (.dct kvs)) (hk : keysOf ys = some ks) (hz : kvs.length < sizeLine) : setR G (.ref p) (.tup ys) v = some (gup G p (.dct (putT kvs ks v))) := by
 simp only [setR, h, hk, hz, if_true]
theorem en_some {W : Web} {r i : Nat} {e : Nat × Nat} (h : en W r i = some e) : ∃ es, W[r]? = some es ∧ es[i]? = some e := by
 unfold en at h
 cases e1 : W[r]? with
 | none => rw [e1] at h; cases h
 | some es => rw [e1] at h; exact ⟨es, rfl, h⟩
theorem en_of {W : Web} {r i : Nat} {es : List (Nat × Nat)} {e : Nat × Nat} (h1 : W[r]? = some es) (h2 : es[i]? = some e) : en W r i = some e := by unfold en; rw [h1]; exact h2
open Classical in
noncomputable def oth (Hs : Web) (e : Nat × Nat) : Nat × Nat := if h : ∃ p : Nat × Nat, en Hs p.1 p.2 = some (e.1, sw e.2) then h.choose else (0, 0)
theorem rngT_get {n i : Nat} {x : T} (h : (rngT 0 n)[i]? = some x) : i < n ∧ x = .int i := by
 unfold rngT at h
 rw [List.getElem?_map] at h
 have hi : i < n := by
  rcases Nat.lt_or_ge i n with z | z
  ·exact z
  ·rw [List.getElem?_eq_none (by simpa using z)] at h; cases h
 simp [hi] at h
 exact ⟨hi, h.symm⟩
theorem rngT_len {n : Nat} : (rngT 0 n).length = n := by simp [rngT]
theorem BoxAt.mono {G : Gp} {b : Addr} {n m : Nat} (h : BoxAt G b n) (hm : n ≤ m) : BoxAt G b m := by
 obtain ⟨x, y, z, h1, h2, h3, h4, h5, h6⟩ := h
 exact ⟨x, y, z, h1, h2, h3, h4, h5, by omega⟩
theorem BoxAt.some {G : Gp} {b : Addr} {n : Nat} (h : BoxAt G b n) : ∃ o, G b = some o := by
 obtain ⟨x, y, z, h1, _⟩ := h
 exact ⟨_, h1⟩
theorem BoxAt.sub {G G' : Gp} {b : Addr} {n : Nat} (h : BoxAt G b n) (s : Sub G G') : BoxAt G' b n := by
 obtain ⟨x, y, z, h1, h2, h3, h4, h5, h6⟩ := h
 exact ⟨x, y, z, s _ _ h1, h2, h3, h4, h5, h6⟩
theorem BoxAt.gup {G : Gp} {b p : Addr} {n : Nat} {o : GO} (h : BoxAt G b n) (hp : b ≠ p) : BoxAt (gup G p o) b n := by
 obtain ⟨x, y, z, h1, h2, h3, h4, h5, h6⟩ := h
 exact ⟨x, y, z, by rw [gup_ne hp]; exact h1, h2, h3, h4, h5, h6⟩
theorem Keep.sub {b : Addr} {G G' : Gp} (h : Sub G G') : Keep b G G' := fun c o _ e => h c o e
theorem Keep.over {b p : Addr} {G G' : Gp} {o : GO} (h : Keep b G G') (hp : G p = none) : Keep b G (L3.gup G' p o) := fun c u hc e => by rw [gup_ne]; exact h c u hc e; rintro rfl; rw [hp] at e; cases e
theorem RowsAt.keep {b : Addr} {G G' : Gp} {h : Addr} {Hs : Web} {rs : List Addr} (s : Keep b G G') (hb : b ∉ h :: rs) (x : RowsAt G h Hs rs) : RowsAt G' h Hs rs := by
 simp only [List.mem_cons, not_or] at hb
 exact ⟨s _ _ (Ne.symm hb.1) x.1, x.2.1, fun i r e => let ⟨hs, h1, h2⟩ := x.2.2 i r e; ⟨hs, h1, s _ _ (by rintro rfl; exact hb.2 (List.mem_of_getElem? e)) h2⟩⟩
theorem RowsAt.set {G : Gp} {h : Addr} {Hs : Web} {rs : List Addr} {r : Nat} {a : Addr} {hs' : List (Nat × Nat)} (x : RowsAt G h Hs rs) (hn : (h :: rs).Nodup) (hr : rs[r]? = some a) : RowsAt (gup G a (.lst (hs'.map encE))) h (Hs.set r hs') rs := by
 rw [List.nodup_cons] at hn
 have hrl : r < rs.length := (List.getElem?_eq_some_iff.mp hr).1
 refine ⟨by rw [gup_ne]; exact x.1; rintro rfl; exact hn.1 (List.mem_of_getElem? hr), by rw [List.length_set]; exact x.2.1, fun i c e => ?_⟩
 by_cases hi : i = r
 ·subst hi
  rw [hr] at e; cases e
  exact ⟨hs', by rw [List.getElem?_set_self]; rw [← x.2.1]; exact hrl, gup_same⟩
 ·obtain ⟨hs, h1, h2⟩ := x.2.2 i c e
  refine ⟨hs, by rw [List.getElem?_set_ne (Ne.symm hi)]; exact h1, ?_⟩
  rw [gup_ne]; exact h2
  rintro rfl
  have hil : i < rs.length := (List.getElem?_eq_some_iff.mp e).1
  exact hi ((List.getElem?_inj hil hn.2).mp (e.trans hr.symm))
noncomputable def hv (n t : Nat) (p : Nat × Nat) : List (Nat × Nat × Nat) := if p.2 = n then [(p.1, t, 2)] else [(p.1, t, 0), (p.2, t, 1)]
noncomputable def hvs (P : List (Nat × Nat)) (n k : Nat) : List (Nat × Nat × Nat) := (List.range k).flatMap fun t => match P[t]? with
 | some p => hv n t p
 | none => []
structure HalfL (L : List (Nat × Nat × Nat)) (n : Nat) (Hs : Web) : Prop where
 len : Hs.length = n
 perm : ∀ (r : Nat) (hs : List (Nat × Nat)), Hs[r]? = some hs → hs.Perm ((L.filter fun x => x.1 == r).map fun x => x.2)
theorem ins_perm {α : Type} {xs : List α} {k : Nat} {y : α} : (xs.take k ++ y :: xs.drop k).Perm (xs ++ [y]) := by
 have h1 : (xs.take k ++ y :: xs.drop k).Perm (y :: (xs.take k ++ xs.drop k)) := List.perm_middle
 rw [List.take_append_drop] at h1
 exact h1.trans (List.perm_append_comm (l₁ := [y]) (l₂ := xs))
theorem HalfL.ins {L : List (Nat × Nat × Nat)} {n : Nat} {Hs : Web} {r k : Nat} {hs : List (Nat × Nat)} {e : Nat × Nat} (h : HalfL L n Hs) (hr : Hs[r]? = some hs) : HalfL (L ++ [(r, e)]) n (Hs.set r (hs.take k ++ e :: hs.drop k)) where
 len := by rw [List.length_set]; exact h.len
 perm := fun r' hs' h' => by
  have hrl : r < Hs.length := (List.getElem?_eq_some_iff.mp hr).1
  rw [List.filter_append, List.map_append]
  by_cases hi : r' = r
  ·subst hi
   rw [List.getElem?_set_self hrl] at h'
   cases h'
   have := h.perm r' hs hr
   refine ins_perm.trans ?_
   simp
   exact this.append_right [e]
  ·rw [List.getElem?_set_ne (Ne.symm hi)] at h'
   have := h.perm r' hs' h'
   have hne : ¬ r = r' := fun z => hi z.symm
   simp [hne]
   exact this
theorem HalfL.mem {L : List (Nat × Nat × Nat)} {n : Nat} {Hs : Web} {r i : Nat} {e : Nat × Nat} (h : HalfL L n Hs) (he : en Hs r i = some e) : (r, e) ∈ L := by
 obtain ⟨es, h1, h2⟩ := en_some he
 have := (h.perm r es h1).mem_iff.mp (List.mem_of_getElem? h2)
 obtain ⟨⟨r', e'⟩, h3, rfl⟩ := List.mem_map.mp this
 obtain ⟨h4, h5⟩ := List.mem_filter.mp h3
 have : r' = r := by simpa using h5
 subst this; exact h4
theorem HalfL.of {L : List (Nat × Nat × Nat)} {n : Nat} {Hs : Web} {r : Nat} {e : Nat × Nat} (h : HalfL L n Hs) (hr : r < n) (he : (r, e) ∈ L) : ∃ i, en Hs r i = some e := by
 have hrl : r < Hs.length := by rw [h.len]; exact hr
 have h1 : Hs[r]? = some Hs[r] := List.getElem?_eq_getElem hrl
 have : e ∈ Hs[r] := (h.perm r _ h1).mem_iff.mpr (List.mem_map.mpr ⟨(r, e), List.mem_filter.mpr ⟨he, by simp⟩, rfl⟩)
 obtain ⟨i, hi⟩ := List.getElem?_of_mem this
 exact ⟨i, en_of h1 hi⟩
theorem insT_map {xs : List (Nat × Nat)} {k : Nat} {y : Nat × Nat} : insT (xs.map encE) k (encE y) = (xs.take k ++ y :: xs.drop k).map encE := by simp [insT, List.map_take, List.map_drop]
theorem HalfL.len_le {L : List (Nat × Nat × Nat)} {n : Nat} {Hs : Web} {r : Nat} {hs : List (Nat × Nat)} (h : HalfL L n Hs) (hr : Hs[r]? = some hs) : hs.length ≤ L.length := by
 rw [(h.perm r hs hr).length_eq, List.length_map]; exact List.length_filter_le _ _
theorem numT_len {xs : List T} : (numT xs).length = xs.length := by simp [numT]
theorem rngT_map {n : Nat} : rngT 0 n = (List.range n).map fun (k : Nat) => T.int k := by simp [rngT]
theorem flt_succ {L : List (Nat × Nat × Nat)} {k : Nat} : (L.filter fun x => decide (x.1 < k + 1)).length = (L.filter fun x => decide (x.1 < k)).length + (L.filter fun x => x.1 == k).length := by
 induction L with
 | nil => rfl
 | cons a as ih =>
  rw [List.filter_cons, List.filter_cons, List.filter_cons]
  rcases Nat.lt_trichotomy a.1 k with h | h | h
  ·have h1 : a.1 < k + 1 := by omega
   have h2 : ¬ a.1 = k := by omega
   simp [h, h1, h2, ih]; omega
  ·have h1 : a.1 < k + 1 := by omega
   simp [h, ih]; omega
  ·have h1 : ¬ a.1 < k + 1 := by omega
   have h2 : ¬ a.1 = k := by omega
   have h3 : ¬ a.1 < k := by omega
   simp [h1, h2, h3, ih]
theorem pigeon {L : List (Nat × Nat × Nat)} {d : Nat} : ∀ k, (∀ r, r < k → d ≤ (L.filter fun x => x.1 == r).length) → k * d ≤ (L.filter fun x => decide (x.1 < k)).length
 | 0, _ => by simp
 | k + 1, h => by
  rw [flt_succ, Nat.succ_mul]
  have h1 := pigeon k fun r hr => h r (by omega)
  have h2 := h k (by omega)
  omega
theorem allBl_bls {α : Type} {f : α → Bool} : ∀ {es : List α}, allBl (es.map fun e => T.bl (f e)) = some (es.all f)
 | [] => rfl
 | e :: es => by rw [List.map_cons, allBl, allBl_bls, List.all_cons]
structure Fine (W : Web) : Prop where
 len : W.length ≤ 1000
 row : ∀ (r : Nat) (es : List (Nat × Nat)), W[r]? = some es → es.length ≤ 1000
 rng : ∀ r i s j, en W r i = some (s, j) → s < W.length
theorem encW_at {W : Web} {r : Nat} {es : List (Nat × Nat)} (h : W[r]? = some es) : L2.atI (W.map encR) (r : Int) = some (encR es) := by rw [atN]; simp [h]
theorem encR_at {es : List (Nat × Nat)} {i : Nat} {e : Nat × Nat} (h : es[i]? = some e) : L2.atI (es.map encE) (i : Int) = some (encE e) := by rw [atN]; simp [h]
noncomputable def intsN (F : List Nat) : List T := F.map fun e => T.int (e : Nat)
noncomputable def vis (F : List Nat) (es : List (Nat × Nat)) : List Nat := es.foldl (fun F e => if F.contains e.1 = true then F else F ++ [e.1]) F
noncomputable def row (W : Web) (r : Nat) : List (Nat × Nat) := (W[r]?).getD []
theorem row_of {W : Web} {r : Nat} {es : List (Nat × Nat)} (h : W[r]? = some es) : row W r = es := by unfold row; rw [h]; rfl
structure Turn (m : Nat) (σ : List Nat) : Prop where
 len : σ.length = m
 nd : σ.Nodup
 lt : ∀ x, x ∈ σ → x < m
noncomputable def cl (M : List (List T)) (x i : Nat) : Option T := (M[x]?).bind fun ts => ts[i]?
noncomputable def put (M : List (List T)) (x i : Nat) (v : T) : List (List T) := match M[x]? with
 | some ts => M.set x (ts.set i v)
 | none => M
theorem eqG_enc {G : Gp} {e f : Nat × Nat} : eqG G (encE e) (encE f) = some (decide (e = f)) := by
 obtain ⟨a, b⟩ := e; obtain ⟨c, d⟩ := f
 rw [show eqG G (encE (a, b)) (encE (c, d)) = some (eqT (encE (a, b)) (encE (c, d))) from rfl]
 congr 1
 simp only [encE, eqT, eqTs, Bool.and_true]
 by_cases h1 : a = c
 ·by_cases h2 : b = d
  ·simp [h1, h2]
  ·have : ¬ (b : Int) = d := by omega
   simp [h1, h2, this]
 ·have : ¬ (a : Int) = c := by omega
  simp [h1, this]
theorem eqG_nat {G : Gp} {a c : Nat} : eqG G (.int a) (.int c) = some (decide (a = c)) := by
 rw [show eqG G (.int a) (.int c) = some (eqT (.int a) (.int c)) from rfl]
 congr 1
 simp only [eqT]
 by_cases h1 : a = c
 ·simp [h1]
 ·have : ¬ (a : Int) = c := by omega
  simp [h1, this]
theorem comp_some {mask : List Bool} {g : TG3} {tif : TT3} {te : TE3} {τ : St3} {xs : List T} {stay : Gp → Prop} {G : Gp} {Q : VK3} (Pr : T → Prop) (hz : xs.length ≤ sizeLine) (hst : ∀ G', Sub G G' → stay G')
  (h : ∀ (i : Nat) x, xs[i]? = some x → ∀ G' (K : T → Gp → Prop) (K0 : Gp → Prop), Sub G G' → (∀ t G4, Pr t → Sub G' G4 → K t G4) → g x (msk mask τ) G' fun τ2 G2 => tif τ2 G2 fun b G3 => if b = true then te τ2 G3 K else K0 G3)
  (hq : ∀ D ts G', G D = none → G' D = some (.lst ts) → ts.length = xs.length → (∀ t, t ∈ ts → Pr t) → Sub G G' → Q (.ref D) G') : CompAt mask g tif te τ xs stay G Q := by
 intro D hD
 refine ⟨fun i acc G' => acc.length = i ∧ (∀ t, t ∈ acc → Pr t) ∧ Sub G G' ∧ G' D = some (.lst acc), ?_, ?_, ?_, ?_⟩
 ·exact ⟨rfl, fun t z => by simp at z, .new hD, gup_same⟩
 ·rintro i acc G' hi ⟨j1, j2, j4, j5⟩
  exact ⟨hst G' j4, j5⟩
 ·rintro i x acc G3 hx ⟨j1, j2, j4, j5⟩
  have hi : i < xs.length := (List.getElem?_eq_some_iff.mp hx).1
  refine h i x hx G3 _ _ j4 fun t G4 hp kp => ?_
  refine ⟨kp _ _ j5, by omega, by simp [j1], ?_, (j4.trans kp).over hD, gup_same⟩
  intro u hu
  rcases (List.mem_append.mp hu) with hu | hu
  ·exact j2 u hu
  ·rw [List.mem_singleton.mp hu]; exact hp
 ·rintro acc G3 ⟨j1, j2, j4, j5⟩
  exact hq D acc G3 hD j5 j1 j2 j4
theorem ints_of : ∀ (us : List T), (∀ t, t ∈ us → ∃ x : Int, t = .int x) → ∃ ts : List Int, us = intsT ts
 | [], _ => ⟨[], rfl⟩
 | u :: us, h => by
  obtain ⟨x, rfl⟩ := h u (by simp)
  obtain ⟨ts, rfl⟩ := ints_of us fun t ht => h t (List.mem_cons_of_mem _ ht)
  exact ⟨x :: ts, rfl⟩
noncomputable def sp_l_take : Sp3 := fun xs G Q => ∃ (b : Addr) (m : Int) (n : Nat), xs = [.ref b, .int m] ∧ BoxAt G b n ∧ n < 2 ^ 40 ∧ 1 ≤ m ∧ m < 2 ^ 29 ∧ ∀ (r : Int) G', 0 ≤ r → r < m → BoxAt G' b (n + 1) → Keep b G G' → Q (.int r) G'
noncomputable def N_l_take : List Str := ["_law_box_here", "_law_many", "_law_found", "_law_once"]
noncomputable def rd_l_take : TS3 :=
 (tSeq (tIfS (tTest (tOp rGt (tOp rIxF (tVar 0) (tC (.int 0))) (tC (.int 0)))) (tSeq (tAsg (tOp rMod (tOp rIxF (tVar 0) (tC (.int 0))) (tVar 1)) (gName 2))
 (tSeq (tAsg (tOp rFdiv (tOp rIxF (tVar 0) (tC (.int 0))) (tVar 1)) (gSub (tVar 0) (tC (.int 0)) rSetF))
 (tRet (tVar 2)))) tNext)
 (tSeq (tAsg (tOp rAddF (tOp rIxF (tVar 0) (tC (.int 2))) (tC (.int 1))) (gSub (tVar 0) (tC (.int 2)) rSetF))
 (tSeq (tAsg (tOp rMod (tOp rMulF (tOp rAddF (tOp rIxF (tVar 0) (tC (.int 1))) (tOp rMulF (tC (.int 39373)) (tOp rIxF (tVar 0) (tC (.int 2))))) (tOp rAddF (tC (.int 48271)) (tOp rIxF (tVar 0) (tC (.int 2))))) (tC (.int 2147483647))) (gName 3))
 (tSeq (tAsg (tOp rMod (tOp rAddF (tOp rMulF (tVar 3) (tOp rAddF (tOp rMod (tVar 3) (tC (.int 40009))) (tC (.int 7)))) (tOp rIxF (tVar 0) (tC (.int 2)))) (tC (.int 2147483629))) (gSub (tVar 0) (tC (.int 1)) rSetF))
 (tRet (tOp rMod (tOp rFdiv (tOp rMod (tOp rMulF (tOp rIxF (tVar 0) (tC (.int 1))) (tOp rAddF (tOp rMod (tOp rIxF (tVar 0) (tC (.int 1))) (tC (.int 1009))) (tC (.int 3)))) (tC (.int 998244353))) (tC (.int 7))) (tVar 1)))))))
theorem rdok_l_take : ∀ xs G Q, sp_l_take xs G Q → rd_l_take { nx := fun _ G' => Q .non G', rt := Q } (start3 N_l_take xs) G := by
 intro xs G Q; apply xe3; intro b m n; apply ae5; intro q0_ hn hm1 hm2 k
 obtain ⟨x, y, z, hb, hx, hy0, hy1, hz0, hz1⟩ := q0_
 rw [show start3 N_l_take [.ref b, .int m] = [some (.ref b), some (.int m), none, none] from rfl]
 wp_walk using 1, rd_l_take, ixR_lst hb, setR_m hb
 have box : ∀ x' y' z' : Int, 0 ≤ x' → 0 ≤ y' → y' < 2147483648 → 0 ≤ z' → z' ≤ n + 1 → BoxAt (gup G b (.lst [.int x', .int y', .int z'])) b (n + 1) := fun x' y' z' h1 h2 h3 h4 h5 => ⟨x', y', z', gup_same, h1, h2, h3, h4, by omega⟩
 split
 ·exact ⟨by omega, ⟨by omega, by omega⟩, k _ _ (Int.emod_nonneg _ (by omega)) (Int.emod_lt_of_pos _ (by omega)) (box _ _ _ (Int.ediv_nonneg hx (by omega)) hy0 hy1 hz0 (by omega)) .gup⟩
 ·have a0 := Int.emod_nonneg ((y + 39373 * (z + 1)) * (48271 + (z + 1))) (b := 2147483647) (by decide)
  have a1 := Int.emod_lt_of_pos ((y + 39373 * (z + 1)) * (48271 + (z + 1))) (b := 2147483647) (by decide)
  refine ⟨.inl (by decide), .inr ⟨by omega, by omega⟩, by decide, by decide, ?_⟩
  generalize (y + 39373 * (z + 1)) * (48271 + (z + 1)) % 2147483647 = u at a0 a1 ⊢
  have b0 := Int.emod_nonneg (u * (u % 40009 + 7) + (z + 1)) (b := 2147483629) (by decide)
  have b1 := Int.emod_lt_of_pos (u * (u % 40009 + 7) + (z + 1)) (b := 2147483629) (by decide)
  refine ⟨.inl ⟨by omega, by omega⟩, by decide, by decide, ?_⟩
  generalize (u * (u % 40009 + 7) + (z + 1)) % 2147483629 = v at b0 b1 ⊢
  refine ⟨.inl ⟨by omega, by omega⟩, by decide, ⟨by decide, by decide⟩, by omega, ?_⟩
  exact k _ _ (Int.emod_nonneg _ (by omega)) (Int.emod_lt_of_pos _ (by omega)) (box _ _ _ hx b0 (by omega) (by omega) (by omega)) .gup
noncomputable def absZ (v : Int) : Int := if v < 0 then -v else v
noncomputable def boxT (v k : Int) : List T := [.int (if 10 ^ 18 ≤ absZ v then absZ v else 0), .int ((v % 2147483647 + 7919 * k + 11) * 48271 % 2147483629), .int 0]
theorem boxT_at {G : Gp} {b : Addr} {v k : Int} (h : G b = some (.lst (boxT v k))) : BoxAt G b 0 := by
 refine ⟨_, _, _, h, by unfold absZ; split <;> split <;> omega, Int.emod_nonneg _ (by decide), ?_, Int.le_refl _, by simp⟩
 have := Int.emod_lt_of_pos ((v % 2147483647 + 7919 * k + 11) * 48271) (b := 2147483629) (by decide)
 omega
noncomputable def sp_l_box : Sp3 := fun xs G Q => ∃ (c : Addr) (ns : List Int) (k : Nat) (v : Int), xs = [.ref c, .int k] ∧ G c = some (.lst (intsT ns)) ∧ ns[k]? = some v ∧ ns.length ≤ 63 ∧ ∀ p G', G p = none → G' p = some (.lst (boxT v k)) → Sub G G' → Q (.ref p) G'
noncomputable def N_l_box : List Str := ["_law_script", "_law_k", "_law_cell", "_law_digits"]
noncomputable def rd_l_box : TS3 :=
 (tSeq (tAsg (tC (.int 0)) (gName 2))
 (tSeq (tIfS (tTest (tOp rLt (tVar 1) (tCB rLen (tCons (tVar 0) tNil)))) (tAsg (tOp rIxF (tVar 0) (tVar 1)) (gName 2)) tNext)
 (tSeq (tAsg (tC (.int 0)) (gName 3))
 (tSeq (tIfS (tTest (tOp rGe (tCB rAbs (tCons (tVar 2) tNil)) (tOp rPow (tC (.int 10)) (tC (.int 18))))) (tAsg (tCB rAbs (tCons (tVar 2) tNil)) (gName 3)) tNext)
 (tRet (tLst (tCons (tVar 3) (tCons (tOp rMod (tOp rMulF (tOp rAddF (tOp rAddF (tOp rMod (tVar 2) (tC (.int 2147483647))) (tOp rMulF (tC (.int 7919)) (tVar 1))) (tC (.int 11))) (tC (.int 48271))) (tC (.int 2147483629))) (tCons (tC (.int 0)) tNil)))))))))
theorem rdok_l_box : ∀ xs G Q, sp_l_box xs G Q → rd_l_box { nx := fun _ G' => Q .non G', rt := Q } (start3 N_l_box xs) G := by
 intro xs G Q; apply xe4; intro c ns k v; apply ae4; intro hc hv hl kk
 rw [show start3 N_l_box [.ref c, .int k] = [some (.ref c), some (.int k), none, none] from rfl]
 have hs := sz
 have hk : k < ns.length := (List.getElem?_eq_some_iff.mp hv).1
 have hat : L2.atI (intsT ns) (k : Int) = some (.int v) := by rw [atN, List.getElem?_map, hv]; rfl
 wp_walk using 1, rd_l_box, seqT_lst hc, List.length_map, ixR_lst hc, hat
 rw [if_pos (by omega)]
 refine ⟨⟨by decide, by decide, by decide⟩, ?_⟩
 have fin : ∀ x, x = (if 10 ^ 18 ≤ absZ v then absZ v else 0) → 0 < (2147483647 : Int) ∧ L2.CMul 7919 k ∧ L2.CMul (v % 2147483647 + 7919 * k + 11) 48271 ∧ 0 < (2147483629 : Int) ∧ 3 ≤ sizeLine ∧ ∀ p, G p = none → Q (.ref p) (gup G p (.lst [.int x, .int ((v % 2147483647 + 7919 * k + 11) * 48271 % 2147483629), .int 0])) := by
  rintro x rfl
  exact ⟨by decide, .inl (by decide), .inr (by decide), by decide, by omega, fun p hp => kk p _ hp gup_same (.new hp)⟩
 by_cases h : 10 ^ 18 ≤ absZ v
 ·rw [if_pos (show (10 : Int) ^ Int.toNat 18 ≤ (if v < 0 then -v else v) from h)]
  exact fin _ (by rw [if_pos h]; rfl)
 ·rw [if_neg (show ¬ (10 : Int) ^ Int.toNat 18 ≤ (if v < 0 then -v else v) from h)]
  exact fin _ (by rw [if_neg h])
noncomputable def sp_l_boxes : Sp3 := fun xs G Q => ∃ ns : List Int, xs = [.scr (intsT ns), .int 12] ∧ ns.length ≤ 63 ∧ ∀ D rs G', G D = none → G' D = some (.lst (rs.map T.ref)) → rs.length ≤ 12 → (D :: rs).Nodup → (∀ r, r ∈ rs → BoxAt G' r 0) → Sub G G' → Q (.ref D) G'
noncomputable def N_l_boxes : List Str := ["_law_script", "_law_most", "_law_cells", "_law_k"]
noncomputable def rd_l_boxes : TS3 :=
 (tSeq (tAsg (tComp [false, false, false, true] (iRng1 (tCons (tCB rMax (tCons (tC (.int 1)) (tCons (tCB rMin2 (tCons (tVar 1) (tCons (tCB rLen (tCons (tVar 0) tNil)) tNil))) tNil))) tNil)) (gName 3) tTrue (tCB rSum (tCons (tSlSt (tVar 0) (tPart (tVar 3)) (tPart (tC (.int 63))) (tPart (tVar 1))) tNil))) (gName 2))
 (tRet (tComp [false, false, false, true] (iRng1 (tCons (tCB rLen (tCons (tVar 2) tNil)) tNil)) (gName 3) tTrue (tCall sp_l_box (tCons (tVar 2) (tCons (tVar 3) tNil))))))
theorem rdok_l_boxes : ∀ xs G Q, sp_l_boxes xs G Q → rd_l_boxes { nx := fun _ G' => Q .non G', rt := Q } (start3 N_l_boxes xs) G := by
 intro xs G Q; apply xe1; intro ns; apply ae2; intro hl kk
 rw [show start3 N_l_boxes [.scr (intsT ns), .int 12] = [some (.scr (intsT ns)), some (.int 12), none, none] from rfl]
 have hs := sz
 wp_walk using 1, rd_l_boxes, rMin2, rSum, tSlSt, tPart, iRng1
 refine ⟨intsT ns, rfl, ?_⟩
 obtain ⟨N, hN, hN2⟩ : ∃ N : Nat, (if (if ((intsT ns).length : Int) < 12 then ((intsT ns).length : Int) else 12) > 1 then if ((intsT ns).length : Int) < 12 then ((intsT ns).length : Int) else 12 else 1) = (N : Int) ∧ N ≤ 12 := by
  refine ⟨(if (if ((intsT ns).length : Int) < 12 then ((intsT ns).length : Int) else 12) > 1 then if ((intsT ns).length : Int) < 12 then ((intsT ns).length : Int) else 12 else 1).toNat, ?_, ?_⟩ <;> split <;> split <;> omega
 rw [hN]
 refine ⟨by omega, by omega, ?_⟩
 refine comp_some (fun t => ∃ x : Int, t = .int x) (by rw [rngT_len]; omega) (fun _ _ => trivial) ?_ ?_
 ·intro i x hx G' K K0 s hk
  obtain ⟨hi, rfl⟩ := rngT_get hx
  wp_walk using 1, rSum, tSlSt, tPart
  refine ⟨by simp, intsT ns, rfl, fun is p hp => ⟨is.filterMap (ns[·]?), ?_, fun z => hk _ _ ⟨z, rfl⟩ (.new hp)⟩⟩
  rw [List.map_filterMap]
  congr 1; funext j; rw [List.getElem?_map]
 ·intro D ts G1 hD hD1 hlen hts s1
  obtain ⟨ms, rfl⟩ := ints_of ts hts
  rw [rngT_len] at hlen
  have hml : ms.length = N := by simpa using hlen
  refine ⟨intsT ms, seqT_lst hD1, by omega, by omega, ?_⟩
  rw [show (((intsT ms).length : Nat) : Int).toNat = N by simp [hml], rngT_map]
  refine comp_fresh (fun k : Nat => boxT (ms.getD k 0) k) (by simp; omega) (fun _ _ => trivial) ?_ ?_
  ·intro i k hk G' K K0 s hK
   obtain ⟨q1, q2⟩ := List.getElem?_eq_some_iff.mp hk
   simp at q1 q2; subst q2
   wp_walk using 1, tSeq
   refine ⟨D, ms, i, ms.getD i 0, rfl, s _ _ hD1, ?_, by omega, fun p G4 hp h4 s4 => hK p G4 hp h4 s4⟩
   rw [List.getElem?_eq_getElem (by omega), List.getD, List.getElem?_eq_getElem (by omega)]; rfl
  ·intro E rs G2 hE hE2 s2 hrl hnd hrs
   rw [List.length_range] at hrl
   refine kk E rs G2 (s1.none hE) hE2 (by omega) hnd (fun r hr => ?_) (s1.trans s2)
   obtain ⟨j, hj⟩ := List.getElem?_of_mem hr
   have hjl : j < rs.length := (List.getElem?_eq_some_iff.mp hj).1
   exact boxT_at (hrs j r j hj (by rw [List.getElem?_range (by omega)])).2
noncomputable def lastR (r : Nat) (es : List (Nat × Nat)) : Nat := (es.getLast?.map Prod.fst).getD r
noncomputable def goW (W : Web) (r : Nat) (ds : List Nat) : Option (List (Nat × Nat)) := ds.foldl (fun o d => o.bind fun es => (en W (lastR r es) d).map fun e => es ++ [e]) (some [])
theorem goW_snoc {W : Web} {r d : Nat} {ds : List Nat} : goW W r (ds ++ [d]) = (goW W r ds).bind fun es => (en W (lastR r es) d).map fun e => es ++ [e] := by
 unfold goW; rw [List.foldl_append]; rfl
theorem goW_none {W : Web} {r : Nat} {ds ds' : List Nat} (h : goW W r ds = none) : goW W r (ds ++ ds') = none := by
 unfold goW at h ⊢
 rw [List.foldl_append, h]
 induction ds' with
 | nil => rfl
 | cons a as ih => exact ih
theorem lastR_snoc {r : Nat} {es : List (Nat × Nat)} {e : Nat × Nat} : lastR r (es ++ [e]) = e.1 := by simp [lastR]
theorem snocRec {α : Type} {P : List α → Prop} (h0 : P []) (h1 : ∀ ds d, P ds → P (ds ++ [d])) (ds : List α) : P ds := by
 have : ∀ l : List α, P l.reverse := by
  intro l
  induction l with
  | nil => exact h0
  | cons a as ih => rw [List.reverse_cons]; exact h1 _ _ ih
 have h := this ds.reverse
 rwa [List.reverse_reverse] at h
theorem goW_lt {W : Web} (f : Fine W) {r : Nat} (hr : r < W.length) : ∀ {ds : List Nat} {es : List (Nat × Nat)}, goW W r ds = some es → lastR r es < W.length ∧ es.length = ds.length ∧ ∀ e, e ∈ es → e.1 < W.length := by
 intro ds
 refine snocRec (P := fun ds => ∀ {es : List (Nat × Nat)}, goW W r ds = some es → lastR r es < W.length ∧ es.length = ds.length ∧ ∀ e, e ∈ es → e.1 < W.length) ?_ ?_ ds
 ·intro es h; cases h; exact ⟨hr, rfl, fun e he => by cases he⟩
 ·intro ds d ih es h
  rw [goW_snoc] at h
  cases e1 : goW W r ds with
  | none => rw [e1] at h; cases h
  | some es1 =>
   rw [e1] at h
   obtain ⟨a1, a2, a3⟩ := ih e1
   simp only [Option.bind_some] at h
   cases e2 : en W (lastR r es1) d with
   | none => rw [e2] at h; cases h
   | some e =>
    rw [e2] at h; cases h
    have he := f.rng _ _ e.1 e.2 e2
    refine ⟨by rw [lastR_snoc]; exact he, by simp [a2], fun x hx => ?_⟩
    rw [List.mem_append, List.mem_singleton] at hx
    rcases hx with hx | rfl
    ·exact a3 x hx
    ·exact he
theorem goW_take {W : Web} {r i d : Nat} {ds : List Nat} (hd : ds[i]? = some d) : goW W r (ds.take (i + 1)) = (goW W r (ds.take i)).bind fun es => (en W (lastR r es) d).map fun e => es ++ [e] := by
 rw [List.take_succ, hd]; exact goW_snoc
theorem goW_cut {W : Web} {r i d : Nat} {ds : List Nat} {es : List (Nat × Nat)} (hd : ds[i]? = some d) (h : goW W r (ds.take i) = some es) (hn : en W (lastR r es) d = none) : goW W r ds = none := by
 have : goW W r (ds.take (i + 1)) = none := by rw [goW_take hd, h]; simp [hn]
 have h2 := goW_none (ds' := ds.drop (i + 1)) this
 rwa [List.take_append_drop] at h2
noncomputable def sp_ends_on : Sp3 := fun xs G Q => ∃ (W : Web) (r : Nat) (x : T) (ds : List Nat), xs = [encW W, .int r, x] ∧ Fine W ∧ r < W.length ∧ seqT G x = some (intsN ds) ∧ ds.length ≤ 1000 ∧ ∀ G', Sub G G' → (goW W r ds = none → Q .non G') ∧ (∀ es p, goW W r ds = some es → G p = none → G' p = some (.lst (es.map encE)) → Q (.ref p) G')
noncomputable def N_ends_on : List Str := ["web", "room", "way", "ends", "here", "door", "end"]
noncomputable def rd_ends_on : TS3 :=
 (tSeq (tAsg (tLst tNil) (gName 3))
 (tSeq (tAsg (tVar 1) (gName 4))
 (tSeq (tFor (iSeq (tVar 2)) (gName 5) (tSeq (tIfS (tNot (tTest (tChain rLeF rLt (tC (.int 0)) (tVar 5) (tCB rLen (tCons (tOp rIxF (tVar 0) (tVar 4)) tNil))))) (tRet (tC .non)) tNext)
 (tSeq (tAsg (tOp rIxF (tOp rIxF (tVar 0) (tVar 4)) (tVar 5)) (gName 6))
 (tSeq (tDrop (tBM "list" rAppend (tVar 3) (tCons (tVar 6) tNil)))
 (tAsg (tOp rIxF (tVar 6) (tC (.int 0))) (gName 4))))))
 (tRet (tVar 3)))))
theorem row_at {W : Web} {r : Nat} (hr : r < W.length) : ∃ es, W[r]? = some es ∧ ∀ d, en W r d = es[d]? := ⟨W[r], List.getElem?_eq_getElem hr, fun d => by unfold en; rw [List.getElem?_eq_getElem hr]; rfl⟩
theorem rdok_ends_on : ∀ xs G Q, sp_ends_on xs G Q → rd_ends_on { nx := fun _ G' => Q .non G', rt := Q } (start3 N_ends_on xs) G := by
 intro xs G Q; apply xe4; intro W r x ds; apply ae5; intro fine hr hx hdl kk
 rw [show start3 N_ends_on [encW W, .int r, x] = [some (.tup (W.map encR)), some (.int r), some x, none, none, none, none] from rfl]
 have hs := sz
 wp_walk using 1, rd_ends_on, tFor_at, iSeq
 refine ⟨Nat.zero_le _, fun p hp => ?_⟩
 refine ⟨intsN ds, (Sub.new hp).seq hx, ?_⟩
 refine ⟨fun i τ G' => ∃ (v5 v6 : Option T) (es : List (Nat × Nat)), τ = [some (.tup (W.map encR)), some (.int r), some x, some (.ref p), some (.int (lastR r es : Nat)), v5, v6] ∧ goW W r (ds.take i) = some es ∧ G' p = some (.lst (es.map encE)) ∧ Sub G G', ?_, ?_, ?_, ?_⟩
 ·exact ⟨none, none, [], rfl, rfl, gup_same, .new hp⟩
 ·intro i τ G' hi; apply xe3; intro v5 v6 es; apply ae3; intro h1 h2 h3
  exact h3.seq hx
 ·intro i y τ G1 hy; apply xe3; intro v5 v6 es; apply ae3; intro h1 h2 h3
  obtain ⟨d, hd, rfl⟩ := map_get hy
  have hi : i < ds.length := (List.getElem?_eq_some_iff.mp hd).1
  obtain ⟨b1, b2, b3⟩ := goW_lt fine hr h1
  obtain ⟨row, hrow, hen⟩ := row_at b1
  have hrl := fine.row _ _ hrow
  rw [List.length_take] at b2
  have hatR := encW_at hrow
  wp_walk using 1, tChain, rLeF, hatR, encR, List.length_map
  rw [if_pos (by omega)]
  by_cases hdr : d < row.length
  ·have hed : row[d]? = some row[d] := List.getElem?_eq_getElem hdr
   generalize row[d] = e at hed
   have heR := encR_at hed
   wp_walk using 1, heR, show decide ((d : Int) < (row.length : Int)) = true by simp; omega, encE, tyT_lst h2, h2, List.length_map
   refine ⟨by omega, _, _, es ++ [e], by rw [lastR_snoc], rfl, rfl, ?_, by simp [encE], h3.over hp⟩
   rw [goW_take hd, h1]
   simp [hen, hed]
  ·have hnone : row[d]? = none := List.getElem?_eq_none (by omega)
   wp_walk using 1, show decide ((d : Int) < (row.length : Int)) = false by simp; omega
   exact (kk G1 h3).1 (goW_cut hd h1 (by rw [hen]; exact hnone))
 ·intro τ G1; apply xe3; intro v5 v6 es; apply ae3; intro h1 h2 h3
  wp_walk using 1, tSeq
  have e1 : (intsN ds).length = ds.length := by simp [intsN]
  rw [e1, List.take_length] at h1
  exact (kk G1 h3).2 es p h1 hp h2
noncomputable abbrev Stp := Nat × Nat × Nat
noncomputable abbrev Story := Nat × List Stp
noncomputable def encSt (s : Stp) : T := .tup [.int s.1, .int s.2.1, .int s.2.2]
noncomputable def encSy (S : Story) : T := .tup [.int S.1, .tup (S.2.map encSt)]
noncomputable def dg (W : Web) (r : Nat) : Nat := ((W[r]?).getD []).length
theorem dg_at {W : Web} {r : Nat} {es : List (Nat × Nat)} (h : W[r]? = some es) : dg W r = es.length := by rw [dg, h]; rfl
noncomputable def FitR (W : Web) : Nat → List Stp → Prop
 | _, [] => True
 | r, s :: ss => ∃ e, en W r s.1 = some e ∧ e.2 = s.2.1 ∧ dg W e.1 = s.2.2 ∧ FitR W e.1 ss
noncomputable def Fit (W : Web) (r : Nat) (S : Story) : Prop := dg W r = S.1 ∧ FitR W r S.2
theorem goW_from {W : Web} {r : Nat} : ∀ (ds : List Nat) (pre : List (Nat × Nat)), ds.foldl (fun o d => o.bind fun es => (en W (lastR r es) d).map fun e => es ++ [e]) (some pre) = (goW W (lastR r pre) ds).map (pre ++ ·)
 | [], pre => by simp [goW]
 | d :: ds, pre => by
  unfold goW
  rw [List.foldl_cons, (List.foldl_cons)]
  simp only [Option.bind_some]
  rw [show lastR (lastR r pre) [] = lastR r pre from rfl]
  cases e : en W (lastR r pre) d with
  | none =>
   have hn : ∀ (q : Nat) (l : List Nat), l.foldl (fun o d => o.bind fun es => (en W (lastR q es) d).map fun e => es ++ [e]) none = none := by
    intro q l
    induction l with
    | nil => rfl
    | cons a l ih => exact ih
   simp only [Option.map_none]
   rw [hn, hn]; rfl
  | some x =>
   simp only [Option.map_some, List.nil_append]
   rw [goW_from ds (pre ++ [x]), lastR_snoc]
   have := goW_from (W := W) (r := lastR r pre) ds [x]
   rw [this, Option.map_map]
   rw [show lastR (lastR r pre) [x] = x.1 from rfl]
   congr 1; funext l; simp
theorem goW_cons {W : Web} {r d : Nat} {ds : List Nat} : goW W r (d :: ds) = (en W r d).bind fun e => (goW W e.1 ds).map (e :: ·) := by
 unfold goW
 rw [List.foldl_cons]
 simp only [Option.bind_some]
 rw [show lastR r [] = r from rfl]
 cases e : en W r d with
 | none =>
  have hn : ∀ (l : List Nat), l.foldl (fun o d => o.bind fun es => (en W (lastR r es) d).map fun e => es ++ [e]) none = none := by
   intro l
   induction l with
   | nil => rfl
   | cons a l ih => exact ih
  exact hn ds
 | some x =>
  have := goW_from (W := W) (r := r) ds [x]
  rw [show lastR r [x] = x.1 from rfl] at this
  exact this
theorem fitR_go {W : Web} : ∀ (ss : List Stp) (r : Nat), FitR W r ss ↔ ∃ es, goW W r (ss.map (·.1)) = some es ∧ es.map (fun e => (e.2, dg W e.1)) = ss.map fun s => (s.2.1, s.2.2)
 | [], r => ⟨fun _ => ⟨[], rfl, rfl⟩, fun _ => trivial⟩
 | s :: ss, r => by
  rw [List.map_cons, goW_cons]
  constructor
  ·rintro ⟨e, h1, h2, h3, h4⟩
   obtain ⟨es, g1, g2⟩ := (fitR_go ss e.1).mp h4
   exact ⟨e :: es, by rw [h1, Option.bind_some, g1]; rfl, by rw [List.map_cons, List.map_cons, g2, h2, h3]⟩
  ·rintro ⟨es, g1, g2⟩
   cases h : en W r s.1 with
   | none => rw [h] at g1; cases g1
   | some e =>
    rw [h, Option.bind_some] at g1
    cases h2 : goW W e.1 (ss.map (·.1)) with
    | none => rw [h2] at g1; cases g1
    | some fs =>
     rw [h2] at g1
     cases g1
     rw [List.map_cons, List.map_cons, List.cons.injEq, Prod.mk.injEq] at g2
     exact ⟨e, h, g2.1.1, g2.1.2, (fitR_go ss e.1).mpr ⟨fs, h2, g2.2⟩⟩
structure OkD (d : Nat) (x : T) : Prop where
 tr : tree x = true
 lay : (td x).canLay0 = true
 dep : (td x).depth ≤ d
theorem okD_int {i : Int} : OkD 0 (.int i) := ⟨rfl, rfl, Nat.le_of_eq (by simp [td, PyData.depth])⟩
theorem okD_non : OkD 0 .non := ⟨rfl, rfl, Nat.le_of_eq (by simp [td, PyData.depth])⟩
theorem okD_all {d : Nat} : ∀ xs : List T, (∀ x, x ∈ xs → OkD d x) → trees xs = true ∧ PyData.canLayAll0 (tds xs) = true ∧ PyData.depthAll (tds xs) ≤ d
 | [], _ => ⟨rfl, by simp [tds, PyData.canLayAll0], by simp [tds, PyData.depthAll]⟩
 | x :: xs, h => by
  obtain ⟨a1, a2, a3⟩ := okD_all xs fun y hy => h y (List.mem_cons_of_mem _ hy)
  obtain ⟨b1, b2, b3⟩ := h x (List.mem_cons_self ..)
  refine ⟨?_, ?_, ?_⟩
  ·show (tree x && trees xs) = true; rw [a1, b1]; rfl
  ·rw [tds, PyData.canLayAll0, a2, b2]; rfl
  ·rw [tds, PyData.depthAll]; omega
theorem okD_tup {d : Nat} {xs : List T} (h : ∀ x, x ∈ xs → OkD d x) : OkD (d + 1) (.tup xs) := by
 obtain ⟨a1, a2, a3⟩ := okD_all xs h
 exact ⟨a1, by rw [td, PyData.canLay0]; exact a2, by rw [td, PyData.depth]; omega⟩
theorem OkD.mono {d d' : Nat} {x : T} (h : OkD d x) (l : d ≤ d') : OkD d' x := ⟨h.tr, h.lay, Nat.le_trans h.dep l⟩
theorem okD_ints {w : List Nat} : OkD 1 (.tup (intsN w)) := okD_tup fun x hx => by
 obtain ⟨e, _, rfl⟩ := List.mem_map.mp hx; exact okD_int
theorem okD_enc {e : Nat × Nat} : OkD 1 (encE e) := okD_ints (w := [e.1, e.2])
theorem eqG_ok {G : Gp} {x y : T} {d : Nat} (hx : OkD d x) (hy : OkD d y) (hd : d ≤ 50) (hr : ∀ p, x ≠ .ref p) : eqG G x y = some (eqT x y) := by
 have ok : ∀ {z : T}, OkD d z → eqOk z = true := fun {z} h => by
  unfold eqOk
  rw [h.tr, h.lay, decide_eq_true (show (td z).depth ≤ 50 by have := h.dep; omega)]; rfl
 have : eqG G x y = if eqOk x = true ∧ eqOk y = true then some (eqT x y) else none := by
  cases x with
  | ref p => exact absurd rfl (hr p)
  | _ => rfl
 rw [this, if_pos ⟨ok hx, ok hy⟩]
theorem eqT_enc {e f : Nat × Nat} : eqT (encE e) (encE f) = decide (e = f) := by
 have := eqG_enc (G := fun _ => none) (e := e) (f := f)
 rw [eqG_ok okD_enc okD_enc (by decide) (fun p z => by cases z)] at this
 exact Option.some.inj this
theorem eqTs_encs : ∀ {a b : List (Nat × Nat)}, eqTs (a.map encE) (b.map encE) = decide (a = b)
 | [], [] => rfl
 | [], _ :: _ => by simp [eqTs]
 | _ :: _, [] => by simp [eqTs]
 | x :: a, y :: b => by
  rw [List.map_cons, List.map_cons, eqTs, eqT_enc, eqTs_encs]
  simp
noncomputable def seenI (S : Story) : T := .tup (.int S.1 :: S.2.map fun s => encE (s.2.1, s.2.2))
noncomputable def sp_seen : Sp3 := fun xs G Q => ∃ (W : Web) (r : Nat) (x : T) (ds : List Nat), xs = [encW W, .int r, x] ∧ Fine W ∧ r < W.length ∧ seqT G x = some (intsN ds) ∧ ds.length ≤ 1000 ∧ ∀ t G', (t = (match goW W r ds with | none => .non | some es => .tup (.int (dg W r : Nat) :: es.map fun e => encE (e.2, dg W e.1)))) → Sub G G' → Q t G'
noncomputable def N_seen : List Str := ["web", "room", "way", "ends", "end"]
noncomputable def rd_seen : TS3 :=
 (tSeq (tAsg (tCall sp_ends_on (tCons (tVar 0) (tCons (tVar 1) (tCons (tVar 2) tNil)))) (gName 3))
 (tSeq (tIfS (tTest (tOp rIsN (tVar 3) (tC .non))) (tRet (tC .non)) tNext)
 (tRet (tCB rTupleOf (tCons (tOp rAddF (tLst (tCons (tCB rLen (tCons (tOp rIxF (tVar 0) (tVar 1)) tNil)) tNil)) (tComp [false, false, false, false, true] (iSeq (tVar 3)) (gName 4) tTrue (tTup (tCons (tOp rIxF (tVar 4) (tC (.int 1))) (tCons (tCB rLen (tCons (tOp rIxF (tVar 0) (tOp rIxF (tVar 4) (tC (.int 0)))) tNil)) tNil))))) tNil)))))
theorem rdok_seen : ∀ xs G Q, sp_seen xs G Q → rd_seen { nx := fun _ G' => Q .non G', rt := Q } (start3 N_seen xs) G := by
 intro xs G Q; apply xe4; intro W r x ds; apply ae5; intro fine hr hx hdl kk
 rw [show start3 N_seen [encW W, .int r, x] = [some (.tup (W.map encR)), some (.int r), some x, none, none] from rfl]
 have hs := sz
 wp_walk using 1, rd_seen
 refine ⟨W, r, x, ds, rfl, fine, hr, hx, hdl, fun G1 s1 => ⟨fun hn => ?_, fun es p he hp hp1 => ?_⟩⟩
 ·wp_walk using 1, tSeq
  exact kk _ G1 (by rw [hn]) s1
 ·obtain ⟨b1, b2, b3⟩ := goW_lt fine hr he
  obtain ⟨row, hrow, hen⟩ := row_at hr
  wp_walk using 1, iSeq, hp1, encW_at hrow, encR, List.length_map
  refine ⟨by omega, fun q hq => ?_⟩
  have hpq := ne_some_none hp1 hq
  refine ⟨es.map encE, seqT_lst (by rw [gup_ne hpq]; exact hp1), ?_⟩
  refine comp_map (fun e => encE (e.2, dg W e.1)) (by omega) (fun G' s => seqT_lst (s _ _ (by rw [gup_ne hpq]; exact hp1))) ?_ ?_
  ·intro i e hei G2 K K0 s hk
   obtain ⟨row', hrow', _⟩ := row_at (b3 e (List.mem_of_getElem? hei))
   wp_walk using 1, encE, encW_at hrow', encR, List.length_map
   refine ⟨by omega, ?_⟩
   rw [dg_at hrow'] at hk
   exact hk G2 (.refl _)
  ·intro D G2 hD h1 h2
   have hq2 := h2 _ _ (gup_same (G := G1) (a := q) (o := .lst [T.int (row.length : Nat)]))
   refine ⟨_, addR_lst hq2 h1 (by simp; omega), ?_⟩
   rw [fin_new]
   intro u hu
   refine ⟨_, seqT_gup, ?_⟩
   exact kk _ _ (by rw [he, dg_at hrow]; rfl) (((s1.trans (.new hq)).trans h2).trans (.new hu))
noncomputable def sp_way_of : Sp3 := fun xs G Q => ∃ S : Story, xs = [encSy S] ∧ S.2.length ≤ 1000 ∧ ∀ G', Sub G G' → Q (.tup (intsN (S.2.map (·.1)))) G'
noncomputable def N_way_of : List Str := ["story", "step"]
noncomputable def rd_way_of : TS3 :=
 (tRet (tCB rTupleOf (tCons (tComp [false, true] (iSeq (tOp rIxF (tVar 0) (tC (.int 1)))) (gName 1) tTrue (tOp rIxF (tVar 1) (tC (.int 0)))) tNil)))
theorem rdok_way_of : ∀ xs G Q, sp_way_of xs G Q → rd_way_of { nx := fun _ G' => Q .non G', rt := Q } (start3 N_way_of xs) G := by
 intro xs G Q; apply xe1; intro S; apply ae2; intro hl kk
 rw [show start3 N_way_of [encSy S] = [some (.tup [.int S.1, .tup (S.2.map encSt)]), none] from rfl]
 have hs := sz
 wp_walk using 1, rd_way_of, iSeq
 refine comp_map (es := S.2) (enc := encSt) (fun s => T.int (s.1 : Nat)) (by omega) (fun _ _ => trivial) ?_ ?_
 ·intro i s hi G' K K0 sb hk
  wp_walk using 1, encSt
  exact hk G' (.refl _)
 ·intro D G1 hD h1 s1
  refine ⟨_, seqT_lst h1, ?_⟩
  have := kk G1 s1
  rw [intsN, List.map_map] at this
  exact this
noncomputable def sp_seen_in : Sp3 := fun xs G Q => ∃ S : Story, xs = [encSy S] ∧ S.2.length ≤ 1000 ∧ ∀ G', Sub G G' → Q (seenI S) G'
noncomputable def N_seen_in : List Str := ["story", "step"]
noncomputable def rd_seen_in : TS3 :=
 (tRet (tCB rTupleOf (tCons (tOp rAddF (tLst (tCons (tOp rIxF (tVar 0) (tC (.int 0))) tNil)) (tComp [false, true] (iSeq (tOp rIxF (tVar 0) (tC (.int 1)))) (gName 1) tTrue (tTup (tCons (tOp rIxF (tVar 1) (tC (.int 1))) (tCons (tOp rIxF (tVar 1) (tC (.int 2))) tNil))))) tNil)))
theorem rdok_seen_in : ∀ xs G Q, sp_seen_in xs G Q → rd_seen_in { nx := fun _ G' => Q .non G', rt := Q } (start3 N_seen_in xs) G := by
 intro xs G Q; apply xe1; intro S; apply ae2; intro hl kk
 rw [show start3 N_seen_in [encSy S] = [some (.tup [.int S.1, .tup (S.2.map encSt)]), none] from rfl]
 have hs := sz
 wp_walk using 1, rd_seen_in, iSeq
 refine ⟨by omega, fun q hq => ?_⟩
 refine comp_map (es := S.2) (enc := encSt) (fun s => encE (s.2.1, s.2.2)) (by omega) (fun _ _ => trivial) ?_ ?_
 ·intro i s hi G' K K0 sb hk
  wp_walk using 1, encSt
  exact ⟨by omega, hk G' (.refl _)⟩
 ·intro D G1 hD h1 s1
  have hq2 := s1 _ _ (gup_same (G := G) (a := q) (o := .lst [T.int (S.1 : Nat)]))
  refine ⟨_, addR_lst hq2 h1 (by simp; omega), ?_⟩
  rw [fin_new]
  intro u hu
  exact ⟨_, seqT_gup, kk _ (((Sub.new hq).trans s1).trans (.new hu))⟩
theorem okD_seen {n : Nat} {ps : List (Nat × Nat)} : OkD 2 (.tup (.int (n : Nat) :: ps.map encE)) := okD_tup fun x hx => by
 rcases (List.mem_cons.mp hx) with rfl | hx
 ·exact okD_int.mono (by decide)
 ·obtain ⟨e, _, rfl⟩ := List.mem_map.mp hx; exact okD_enc
theorem eqT_seen {n m : Nat} {ps qs : List (Nat × Nat)} : eqT (.tup (.int (n : Nat) :: ps.map encE)) (.tup (.int (m : Nat) :: qs.map encE)) = decide (n = m ∧ ps = qs) := by
 show (eqT (.int n) (.int m) && eqTs (ps.map encE) (qs.map encE)) = _
 rw [eqTs_encs]
 have : eqT (.int (n : Nat)) (.int (m : Nat)) = decide (n = m) := by
  by_cases h : n = m
  ·subst h; simp [eqT]
  ·have h2 : ¬ (n : Int) = m := by omega
   rw [decide_eq_false h]; simpa [eqT] using h2
 rw [this]; simp
noncomputable def sp_fits : Sp3 := fun xs G Q => ∃ (W : Web) (r : Nat) (S : Story), xs = [encW W, .int r, encSy S] ∧ Fine W ∧ r < W.length ∧ S.2.length ≤ 1000 ∧ ∀ (b : Bool) G', (b = true ↔ Fit W r S) → Sub G G' → Q (.bl b) G'
noncomputable def N_fits : List Str := ["web", "room", "story"]
noncomputable def rd_fits : TS3 :=
 (tRet (tOp rEqA (tCall sp_seen (tCons (tVar 0) (tCons (tVar 1) (tCons (tCall sp_way_of (tCons (tVar 2) tNil)) tNil)))) (tCall sp_seen_in (tCons (tVar 2) tNil))))
theorem rdok_fits : ∀ xs G Q, sp_fits xs G Q → rd_fits { nx := fun _ G' => Q .non G', rt := Q } (start3 N_fits xs) G := by
 intro xs G Q; apply xe3; intro W r S; apply ae4; intro fine hr hl kk
 rw [show start3 N_fits [encW W, .int r, encSy S] = [some (encW W), some (.int r), some (encSy S)] from rfl]
 wp_walk using 1, rd_fits, rEqA
 refine ⟨S, rfl, hl, fun G1 s1 => ⟨W, r, _, S.2.map (·.1), rfl, fine, hr, rfl, by simpa using hl, fun t G2 ht s2 => ⟨S, rfl, hl, fun G3 s3 => ?_⟩⟩⟩
 have sb := (s1.trans s2).trans s3
 cases hg : goW W r (S.2.map (·.1)) with
 | none =>
  rw [hg] at ht
  subst ht
  refine ⟨false, ?_, kk false G3 ⟨(fun z => by cases z), fun h => ?_⟩ sb⟩
  ·rw [eqG_ok (d := 2) (okD_non.mono (by decide)) (by unfold seenI; rw [show (S.2.map fun s => encE (s.2.1, s.2.2)) = (S.2.map fun s => (s.2.1, s.2.2)).map encE by rw [List.map_map]; rfl]; exact okD_seen) (by decide) (fun p z => by cases z)]; rfl
  ·obtain ⟨es, h1, _⟩ := (fitR_go S.2 r).mp h.2
   rw [hg] at h1; cases h1
 | some es =>
  rw [hg] at ht
  replace ht : t = .tup (.int (dg W r : Nat) :: es.map fun e => encE (e.2, dg W e.1)) := ht
  subst ht
  have e1 : (es.map fun e => encE (e.2, dg W e.1)) = (es.map fun e => (e.2, dg W e.1)).map encE := by rw [List.map_map]; rfl
  have e2 : (S.2.map fun s => encE (s.2.1, s.2.2)) = (S.2.map fun s => (s.2.1, s.2.2)).map encE := by rw [List.map_map]; rfl
  refine ⟨_, eqG_ok (d := 2) (by rw [e1]; exact okD_seen) (by unfold seenI; rw [e2]; exact okD_seen) (by decide) (fun p z => by cases z), kk _ G3 ?_ sb⟩
  unfold seenI
  rw [e1, e2, eqT_seen, decide_eq_true_eq, Fit, fitR_go]
  constructor
  ·rintro ⟨h1, h2⟩; exact ⟨h1, es, hg, h2⟩
  ·rintro ⟨h1, fs, h2, h3⟩
   rw [hg] at h2; cases h2; exact ⟨h1, h3⟩
noncomputable def goneT (r : Nat) (es : List (Nat × Nat)) : T := match es.getLast? with
 | some e => encE e
 | none => .tup [.int r, .non]
noncomputable def sp_gone : Sp3 := fun xs G Q => ∃ (W : Web) (r : Nat) (x : T) (ds : List Nat), xs = [encW W, .int r, x] ∧ Fine W ∧ r < W.length ∧ seqT G x = some (intsN ds) ∧ ds.length ≤ 1000 ∧ ∀ G', Sub G G' → (goW W r ds = none → Q .non G') ∧ (∀ es, goW W r ds = some es → Q (goneT r es) G')
noncomputable def N_gone : List Str := ["web", "room", "way", "ends"]
noncomputable def rd_gone : TS3 :=
 (tSeq (tAsg (tCall sp_ends_on (tCons (tVar 0) (tCons (tVar 1) (tCons (tVar 2) tNil)))) (gName 3))
 (tSeq (tIfS (tTest (tOp rIsN (tVar 3) (tC .non))) (tRet (tC .non)) tNext)
 (tRet (tIf (tTru rTru (tVar 3)) (tOp rIxF (tVar 3) (tUn rNeg (tC (.int 1)))) (tTup (tCons (tVar 1) (tCons (tC .non) tNil)))))))
theorem rdok_gone : ∀ xs G Q, sp_gone xs G Q → rd_gone { nx := fun _ G' => Q .non G', rt := Q } (start3 N_gone xs) G := by
 intro xs G Q; apply xe4; intro W r x ds; apply ae5; intro fine hr hx hdl kk
 rw [show start3 N_gone [encW W, .int r, x] = [some (encW W), some (.int r), some x, none] from rfl]
 have hs := sz
 wp_walk using 1, rd_gone
 refine ⟨W, r, x, ds, rfl, fine, hr, hx, hdl, fun G1 s1 => ⟨fun hn => ?_, fun es p he hp hp1 => ?_⟩⟩
 ·wp_walk using 1, tSeq
  exact (kk G1 s1).1 hn
 ·wp_walk using 1, seqT_lst hp1, ixR_lst hp1, hp1
  have := (kk G1 s1).2 es he
  rcases es.eq_nil_or_concat with rfl | ⟨l, a, h⟩
  ·exact ⟨by omega, this⟩
  ·rw [List.concat_eq_append] at h; subst h
   rw [if_pos (by simp)]
   refine ⟨encE a, by rw [List.map_append]; exact at_last, ?_⟩
   simpa [goneT] using this
noncomputable def stepsOf (W : Web) (ds : List Nat) (es : List (Nat × Nat)) : List Stp := (ds.zip es).map fun p => (p.1, p.2.2, dg W p.2.1)
theorem stepsOf_snoc {W : Web} {ds : List Nat} {es : List (Nat × Nat)} {d : Nat} {e : Nat × Nat} (h : ds.length = es.length) : stepsOf W (ds ++ [d]) (es ++ [e]) = stepsOf W ds es ++ [(d, e.2, dg W e.1)] := by
 unfold stepsOf
 rw [List.zip_append h, List.map_append]; rfl
theorem stepsOf_len {W : Web} {ds : List Nat} {es : List (Nat × Nat)} : (stepsOf W ds es).length ≤ ds.length := by
 simp [stepsOf]; omega
noncomputable def sp_l_story : Sp3 := fun xs G Q => ∃ (W : Web) (r : Nat) (ds : List Nat) (es : List (Nat × Nat)), xs = [encW W, .int r, .tup (intsN ds)] ∧ Fine W ∧ r < W.length ∧ ds.length ≤ 1000 ∧ goW W r ds = some es ∧ ∀ G', Sub G G' → Q (encSy (dg W r, stepsOf W ds es)) G'
noncomputable def N_l_story : List Str := ["_law_web_here", "_law_room", "_law_way_here", "_law_path", "_law_doors", "_law_door", "_law_came"]
noncomputable def rd_l_story : TS3 :=
 (tSeq (tAsg (tLst tNil) (gName 3))
 (tSeq (tAsg (tCB rLen (tCons (tOp rIxF (tVar 0) (tVar 1)) tNil)) (gName 4))
 (tSeq (tFor (iSeq (tVar 2)) (gName 5) (tSeq (tAsg (tOp rIxF (tOp rIxF (tVar 0) (tVar 1)) (tVar 5)) (gTup 2 (gCons (gName 1) (gCons (gName 6) gNil))))
 (tDrop (tBM "list" rAppend (tVar 3) (tCons (tTup (tCons (tVar 5) (tCons (tVar 6) (tCons (tCB rLen (tCons (tOp rIxF (tVar 0) (tVar 1)) tNil)) tNil)))) tNil)))))
 (tRet (tTup (tCons (tVar 4) (tCons (tCB rTupleOf (tCons (tVar 3) tNil)) tNil)))))))
theorem rdok_l_story : ∀ xs G Q, sp_l_story xs G Q → rd_l_story { nx := fun _ G' => Q .non G', rt := Q } (start3 N_l_story xs) G := by
 intro xs G Q; apply xe4; intro W r ds es; apply ae5; intro fine hr hdl hg kk
 rw [show start3 N_l_story [encW W, .int r, .tup (intsN ds)] = [some (.tup (W.map encR)), some (.int r), some (.tup (intsN ds)), none, none, none, none] from rfl]
 have hs := sz
 obtain ⟨row, hrow, hen⟩ := row_at hr
 have hrl := fine.row _ _ hrow
 wp_walk using 1, rd_l_story, tFor_at, iSeq, encW_at hrow, encR, List.length_map
 refine ⟨Nat.zero_le _, fun p hp => ?_⟩
 let J1 : Nat → St3 → Gp → Prop := fun i τ G' => ∃ (v5 v6 : Option T) (fs : List (Nat × Nat)), τ = [some (.tup (W.map encR)), some (.int (lastR r fs : Nat)), some (.tup (intsN ds)), some (.ref p), some (.int (row.length : Nat)), v5, v6] ∧ goW W r (ds.take i) = some fs ∧ G' p = some (.lst ((stepsOf W (ds.take i) fs).map encSt)) ∧ Sub G G'
 refine ⟨J1, ?_, ?_, ?_, ?_⟩
 ·exact xi3 none none [] rfl ⟨rfl, gup_same, .new hp⟩
 ·intros; trivial
 ·intro i y τ G1 hy; apply xe3; intro v5 v6 fs; apply ae3; intro h1 h2 h3
  obtain ⟨d, hd, rfl⟩ := map_get hy
  have hi : i < ds.length := (List.getElem?_eq_some_iff.mp hd).1
  obtain ⟨c1, c2, c3⟩ := goW_lt fine hr h1
  obtain ⟨row1, hrow1, hen1⟩ := row_at c1
  rw [List.length_take] at c2
  cases he : en W (lastR r fs) d with
  | none => rw [goW_cut hd h1 he] at hg; cases hg
  | some e =>
   have he1 := fine.rng _ _ e.1 e.2 he
   obtain ⟨row2, hrow2, hen2⟩ := row_at he1
   have hr2 := fine.row _ _ hrow2
   have hed : row1[d]? = some e := by rw [← hen1]; exact he
   wp_walk using 1, encW_at hrow1, encR, encR_at hed, encE, encW_at hrow2, List.length_map, tyT_lst h2, h2
   have hl := stepsOf_len (W := W) (ds := ds.take i) (es := fs)
   rw [List.length_take] at hl
   refine ⟨by omega, by omega, xi3 _ _ (fs ++ [e]) (by rw [lastR_snoc]) ⟨?_, ?_, h3.over hp⟩⟩
   ·rw [goW_take hd, h1]; simp [he]
   ·rw [gup_same, List.take_succ, hd]
    rw [show (some d).toList = [d] from rfl, stepsOf_snoc (by rw [List.length_take]; omega), List.map_append, dg_at hrow2]; rfl
 ·intro τ G1; apply xe3; intro v5 v6 fs; apply ae3; intro h1 h2 h3
  have e1 : (intsN ds).length = ds.length := by simp [intsN]
  rw [e1, List.take_length] at h1 h2
  rw [hg] at h1; cases h1
  wp_walk using 1, tSeq
  refine ⟨_, seqT_lst h2, ?_⟩
  have := kk G1 h3
  rw [encSy, dg_at hrow] at this
  exact ⟨by omega, this⟩
noncomputable def lastOf (W : Web) : Nat → List Stp → Nat
 | r, [] => r
 | r, s :: ss => match en W r s.1 with
  | some e => lastOf W e.1 ss
  | none => r
theorem lastOf_cons {W : Web} {r : Nat} {s : Stp} {ss : List Stp} {e : Nat × Nat} (h : en W r s.1 = some e) : lastOf W r (s :: ss) = lastOf W e.1 ss := by rw [lastOf, h]
noncomputable def LastT (W : Web) (r : Nat) (S : Story) (t : T) : Prop := (t = .non ∧ ¬ Fit W r S) ∨ (t = .int (lastOf W r S.2 : Nat) ∧ Fit W r S)
noncomputable def sp_l_last : Sp3 := fun xs G Q => ∃ (W : Web) (r : Nat) (S : Story), xs = [encW W, .int r, encSy S] ∧ Fine W ∧ r < W.length ∧ S.2.length ≤ 1000 ∧ ∀ t G', LastT W r S t → Sub G G' → Q t G'
noncomputable def N_l_last : List Str := ["_law_web_here", "_law_room", "_law_story_here", "_law_door", "_law_came", "_law_doors", "_law_back"]
noncomputable def rd_l_last : TS3 :=
 (tSeq (tIfS (tTest (tOp rNeA (tCB rLen (tCons (tOp rIxF (tVar 0) (tVar 1)) tNil)) (tOp rIxF (tVar 2) (tC (.int 0))))) (tRet (tC .non)) tNext)
 (tSeq (tFor (iSeq (tOp rIxF (tVar 2) (tC (.int 1)))) (gTup 3 (gCons (gName 3) (gCons (gName 4) (gCons (gName 5) gNil)))) (tSeq (tIfS (tTest (tOp rGe (tVar 3) (tCB rLen (tCons (tOp rIxF (tVar 0) (tVar 1)) tNil)))) (tRet (tC .non)) tNext)
 (tSeq (tAsg (tOp rIxF (tOp rIxF (tVar 0) (tVar 1)) (tVar 3)) (gTup 2 (gCons (gName 1) (gCons (gName 6) gNil))))
 (tIfS (tOr (tTest (tOp rNeA (tVar 6) (tVar 4))) (tTest (tOp rNeA (tCB rLen (tCons (tOp rIxF (tVar 0) (tVar 1)) tNil)) (tVar 5)))) (tRet (tC .non)) tNext))))
 (tRet (tVar 1))))
theorem rdok_l_last : ∀ xs G Q, sp_l_last xs G Q → rd_l_last { nx := fun _ G' => Q .non G', rt := Q } (start3 N_l_last xs) G := by
 intro xs G Q; apply xe3; intro W r S; apply ae4; intro fine hr hl kk
 rw [show start3 N_l_last [encW W, .int r, encSy S] = [some (.tup (W.map encR)), some (.int r), some (.tup [.int S.1, .tup (S.2.map encSt)]), none, none, none, none] from rfl]
 have hs := sz
 obtain ⟨row, hrow, hen⟩ := row_at hr
 wp_walk using 1, rd_l_last, tFor_at, iSeq, rNeA, encW_at hrow, encR, List.length_map
 refine ⟨_, eqG_nat, ?_⟩
 by_cases h0 : row.length = S.1
 ·rw [if_neg (by simpa using h0)]
  have hf : Fit W r S ↔ FitR W r S.2 := ⟨fun h => h.2, fun h => ⟨by rw [dg_at hrow]; exact h0, h⟩⟩
  let J1 : Nat → St3 → Gp → Prop := fun i τ G' => ∃ (q : Nat) (v3 v4 v5 v6 : Option T), τ = [some (.tup (W.map encR)), some (.int (q : Nat)), some (.tup [.int S.1, .tup (S.2.map encSt)]), v3, v4, v5, v6] ∧ q < W.length ∧ (Fit W r S ↔ FitR W q (S.2.drop i)) ∧ lastOf W r S.2 = lastOf W q (S.2.drop i) ∧ Sub G G'
  refine ⟨J1, ?_, ?_, ?_, ?_⟩
  ·exact xi5 r _ _ _ _ rfl ⟨hr, hf, rfl, .refl _⟩
  ·intros; trivial
  ·intro i y τ G1 hy; apply xe5; intro q v3 v4 v5 v6; apply ae4; intro hq hi hlo s1
   obtain ⟨s, hsi, rfl⟩ := map_get hy
   have hil : i < S.2.length := (List.getElem?_eq_some_iff.mp hsi).1
   have hdrop : S.2.drop i = s :: S.2.drop (i + 1) := by
    rw [List.drop_eq_getElem_cons hil]
    rw [List.getElem?_eq_getElem hil] at hsi; cases hsi; rfl
   rw [hdrop] at hi hlo
   obtain ⟨row1, hrow1, hen1⟩ := row_at hq
   have hr1 := fine.row _ _ hrow1
   wp_walk using 1, encSt, rNeA, encW_at hrow1, encR, List.length_map
   by_cases hd : s.1 < row1.length
   ·rw [if_neg (by omega)]
    have hed : row1[s.1]? = some row1[s.1] := List.getElem?_eq_getElem hd
    generalize row1[s.1] = e at hed
    have he : en W q s.1 = some e := by rw [hen1]; exact hed
    have he1 := fine.rng _ _ e.1 e.2 he
    obtain ⟨row2, hrow2, hen2⟩ := row_at he1
    wp_walk using 1, encR_at hed, encE, encW_at hrow2, encR, List.length_map
    refine ⟨_, eqG_nat, ?_⟩
    by_cases h1 : e.2 = s.2.1
    ·rw [if_neg (by simpa using h1)]
     refine ⟨_, eqG_nat, ?_⟩
     by_cases h2 : row2.length = s.2.2
     ·rw [if_neg (by simpa using h2)]
      refine xi5 e.1 _ _ _ _ rfl ⟨he1, hi.trans ⟨fun ⟨e', a1, a2, a3, a4⟩ => ?_, fun a4 => ⟨e, he, h1, by rw [dg_at hrow2]; exact h2, a4⟩⟩, hlo.trans (lastOf_cons he), s1⟩
      rw [he] at a1; cases a1; exact a4
     ·rw [if_pos (by simpa using h2)]
      refine kk _ _ (.inl ⟨rfl, fun h => ?_⟩) s1
      obtain ⟨e', a1, a2, a3, a4⟩ := hi.mp h
      rw [he] at a1; cases a1
      rw [dg_at hrow2] at a3; exact h2 a3
    ·rw [if_pos (by simpa using h1)]
     refine kk _ _ (.inl ⟨rfl, fun h => ?_⟩) s1
     obtain ⟨e', a1, a2, a3, a4⟩ := hi.mp h
     rw [he] at a1; cases a1; exact h1 a2
   ·rw [if_pos (by omega)]
    refine kk _ _ (.inl ⟨rfl, fun h => ?_⟩) s1
    obtain ⟨e, h1, _⟩ := hi.mp h
    rw [hen1, List.getElem?_eq_none (by omega)] at h1; cases h1
  ·intro τ G1; apply xe5; intro q v3 v4 v5 v6; apply ae4; intro hq hi hlo s1
   rw [List.length_map, List.drop_length] at hi hlo
   wp_walk using 1, tSeq
   exact kk _ _ (.inr ⟨by rw [hlo]; rfl, hi.mpr trivial⟩) s1
 ·rw [if_pos (by simpa using h0)]
  exact kk _ _ (.inl ⟨rfl, fun h => h0 (by have := h.1; rw [dg_at hrow] at this; exact this)⟩) (.refl _)
noncomputable def PlN : Nat → T → Prop
 | 0, t => (∃ i, t = .int i) ∨ ∃ b, t = .bl b
 | n + 1, t => ((∃ i, t = .int i) ∨ ∃ b, t = .bl b) ∨ ∃ ts, t = .tup ts ∧ ts.length ≤ 2000 ∧ ∀ u, u ∈ ts → PlN n u
noncomputable def AL : Nat → Gp → T → T → Prop
 | 0, _, x, y => x = y ∧ PlN 0 x
 | n + 1, G, x, y => (x = y ∧ PlN (n + 1) x) ∨ ∃ (p q : Addr) (ts : List T), x = .ref p ∧ y = .ref q ∧ G p = some (.lst ts) ∧ G q = some (.lst ts) ∧ ts.length ≤ 2000 ∧ ∀ u, u ∈ ts → PlN n u
noncomputable def sp_al (n : Nat) : Sp3 := fun xs G Q => ∃ x y, xs = [x, y] ∧ AL n G x y ∧ ∀ G', Sub G G' → Q (.bl true) G'
section
variable (sp_l_same : Sp3)
noncomputable def N_l_same : List Str := ["_law_found", "_law_due", "_law_one", "_law_other"]
noncomputable def rd_l_same : TS3 :=
 (tSeq (tIfS (tTest (tCB rIsi (tCons (tVar 1) (tCons (tTup (tCons (tC (.ty "list")) (tCons (tC (.ty "tuple")) tNil))) tNil)))) (tSeq (tIfS (tOr (tNot (tTest (tCB rIsi (tCons (tVar 0) (tCons (tTup (tCons (tC (.ty "list")) (tCons (tC (.ty "tuple")) tNil))) tNil))))) (tTest (tOp rNeA (tCB rIsi (tCons (tVar 0) (tCons (tC (.ty "list")) tNil))) (tCB rIsi (tCons (tVar 1) (tCons (tC (.ty "list")) tNil)))))) (tRet (tC (.bl false))) tNext)
 (tRet (tAndV (tOp rEqA (tCB rLen (tCons (tVar 0) tNil)) (tCB rLen (tCons (tVar 1) tNil))) (tCB rAll (tCons (tComp [false, false, true, true] (iZipB (tCons (tVar 0) (tCons (tVar 1) tNil))) (gTup 2 (gCons (gName 2) (gCons (gName 3) gNil))) tTrue (tCall sp_l_same (tCons (tVar 2) (tCons (tVar 3) tNil)))) tNil))))) tNext)
 (tSeq (tIfS (tTest (tOp rIsN (tVar 1) (tC .non))) (tRet (tOp rIsN (tVar 0) (tC .non))) tNext)
 (tRet (tAndV (tCB rIsi (tCons (tVar 0) (tCons (tC (.ty "int")) tNil))) (tAndV (tOp rEqA (tCB rIsi (tCons (tVar 0) (tCons (tC (.ty "bool")) tNil))) (tCB rIsi (tCons (tVar 1) (tCons (tC (.ty "bool")) tNil)))) (tOp rEqA (tVar 0) (tVar 1)))))))
end
theorem isi_ib {G : Gp} {i : Int} : isiT G (.int i) (.ty "bool") = some false := rfl
theorem isi_il {G : Gp} {i : Int} : isiT G (.int i) (.tup [.ty "list", .ty "tuple"]) = some false := rfl
theorem isi_ii {G : Gp} {i : Int} : isiT G (.int i) (.ty "int") = some true := rfl
theorem isi_bb {G : Gp} {i : Bool} : isiT G (.bl i) (.ty "bool") = some true := rfl
theorem isi_bl {G : Gp} {i : Bool} : isiT G (.bl i) (.tup [.ty "list", .ty "tuple"]) = some false := rfl
theorem isi_bi {G : Gp} {i : Bool} : isiT G (.bl i) (.ty "int") = some true := rfl
theorem isi_tlt {G : Gp} {ts : List T} : isiT G (.tup ts) (.tup [.ty "list", .ty "tuple"]) = some true := rfl
theorem isi_tl {G : Gp} {ts : List T} : isiT G (.tup ts) (.ty "list") = some false := rfl
theorem eqG_bl {G : Gp} {a : Bool} : eqG G (.bl a) (.bl a) = some true := by
 rw [show eqG G (.bl a) (.bl a) = some (eqT (.bl a) (.bl a)) from rfl]
 simp [eqT]
theorem eqG_int {G : Gp} {a : Int} : eqG G (.int a) (.int a) = some true := by
 rw [show eqG G (.int a) (.int a) = some (eqT (.int a) (.int a)) from rfl]
 simp [eqT]
theorem isi_rlt {G : Gp} {p : Addr} {ts : List T} (h : G p = some (.lst ts)) : isiT G (.ref p) (.tup [.ty "list", .ty "tuple"]) = some true := by simp only [isiT, tyOfT, h]; rfl
theorem isi_rl {G : Gp} {p : Addr} {ts : List T} (h : G p = some (.lst ts)) : isiT G (.ref p) (.ty "list") = some true := by simp only [isiT, tyOfT, h]; rfl
theorem rdok_l_same0 (sp : Sp3) : ∀ xs G Q, sp_al 0 xs G Q → rd_l_same sp { nx := fun _ G' => Q .non G', rt := Q } (start3 N_l_same xs) G := by
 intro xs G Q; apply xe2; intro t t'; apply ae2; intro ht kk
 obtain ⟨rfl, ht⟩ := ht
 rw [show start3 N_l_same [t, t] = [some t, some t, none, none] from rfl]
 have hs := sz
 rcases ht with ⟨i, rfl⟩ | ⟨i, rfl⟩
 ·wp_walk using 1, rd_l_same, rIsi, rEqA, eqG_int, eqG_bl, isi_ib, isi_il, isi_ii
  exact ⟨by omega, kk G (.refl _)⟩
 ·wp_walk using 1, rd_l_same, rIsi, rEqA, eqG_int, eqG_bl, isi_bb, isi_bl, isi_bi
  exact ⟨by omega, kk G (.refl _)⟩
theorem zip_self {ts : List T} : zipT ts ts = ts.map fun t => T.tup [t, t] := by
 unfold zipT
 induction ts with
 | nil => rfl
 | cons a as ih => rw [List.zip_cons_cons, List.map_cons, ih]; rfl
theorem al_in {n : Nat} {G : Gp} {u : T} (h : PlN n u) : AL n G u u := by
 cases n with
 | zero => exact ⟨rfl, h⟩
 | succ n => exact .inl ⟨rfl, h⟩
theorem rdok_l_same (n : Nat) : ∀ xs G Q, sp_al (n + 1) xs G Q → rd_l_same (sp_al n) { nx := fun _ G' => Q .non G', rt := Q } (start3 N_l_same xs) G := by
 intro xs G Q; apply xe2; intro x y; apply ae2; intro ht kk
 rcases ht with ⟨rfl, h | ⟨ts, rfl, hl, hts⟩⟩ | ⟨p, q, ts, rfl, rfl, hp, hq, hl, hts⟩
 ·exact rdok_l_same0 _ _ _ _ ⟨x, x, rfl, ⟨rfl, h⟩, kk⟩
 ·rw [show start3 N_l_same [.tup ts, .tup ts] = [some (.tup ts), some (.tup ts), none, none] from rfl]
  have hs := sz
  wp_walk using 1, rd_l_same, rIsi, rEqA, rNeA, iZipB, isi_tlt, isi_tl, eqG_bl, eqG_int
  refine ⟨by omega, by omega, ts, ts, .inl ⟨rfl, rfl, ?_⟩⟩
  rw [zip_self]
  refine comp_map (fun _ => T.bl true) (by omega) (fun _ _ => trivial) ?_ ?_
  ·intro i t ht G' K K0 s hk
   wp_walk using 1, tSeq
   exact ⟨t, t, rfl, al_in (hts t (List.mem_of_getElem? ht)), fun G4 s4 => hk G4 s4⟩
  ·intro D G' hD h1 h2
   refine ⟨D, _, _, rfl, h1, allBl_bls (f := fun _ => true), ?_⟩
   rw [List.all_eq_true.mpr (fun _ _ => rfl)]
   exact kk G' h2
 ·rw [show start3 N_l_same [.ref p, .ref q] = [some (.ref p), some (.ref q), none, none] from rfl]
  have hs := sz
  have lp : ∀ G' a, Sub G G' → G a = some (.lst ts) → listT G' (.ref a) = some ts := fun G' a s h => by rw [show listT G' (.ref a) = asL (G' a) from rfl, s _ _ h]; rfl
  wp_walk using 1, rd_l_same, rIsi, rEqA, rNeA, iZipB, isi_rlt hp, isi_rlt hq, isi_rl hp, isi_rl hq, eqG_bl, eqG_int, seqT_lst hp, seqT_lst hq
  refine ⟨by omega, by omega, ts, ts, .inr ⟨lp G p (.refl _) hp, lp G q (.refl _) hq, ?_⟩⟩
  rw [zip_self]
  refine comp_map (fun _ => T.bl true) (by omega) (fun G' s => ⟨lp G' p s hp, lp G' q s hq⟩) ?_ ?_
  ·intro i t ht G' K K0 s hk
   wp_walk using 1, tSeq
   exact ⟨t, t, rfl, al_in (hts t (List.mem_of_getElem? ht)), fun G4 s4 => hk G4 s4⟩
  ·intro D G' hD h1 h2
   refine ⟨D, _, _, rfl, h1, allBl_bls (f := fun _ => true), ?_⟩
   rw [List.all_eq_true.mpr (fun _ _ => rfl)]
   exact kk G' h2
theorem pl_int {n : Nat} {i : Int} : PlN n (.int i) := by
 cases n with
 | zero => exact .inl ⟨i, rfl⟩
 | succ n => exact .inl (.inl ⟨i, rfl⟩)
noncomputable def sp_l_way : Sp3 := fun xs G Q => ∃ (b : Addr) (W : Web) (r m n : Nat), xs = [.ref b, encW W, .int r, .int m] ∧ BoxAt G b n ∧ n + 300 < 2 ^ 40 ∧ Fine W ∧ r < W.length ∧ m ≤ 60 ∧ ∀ ds es G', goW W r ds = some es → ds.length ≤ 60 → BoxAt G' b (n + 2 * m) → Keep b G G' → Q (.tup (intsN ds)) G'
noncomputable def N_l_way : List Str := ["_law_box_here", "_law_web_here", "_law_room", "_law_many", "_law_way_here", "_law_gone_by", "_law_k", "_law_doors", "_law_fresh", "_law_door"]
noncomputable def rd_l_way : TS3 :=
 (tSeq (tAsg (tLst tNil) (gName 4))
 (tSeq (tAsg (tLst tNil) (gName 5))
 (tSeq (tFor (iRng1 (tCons (tVar 3) tNil)) (gName 6) (tSeq (tAsg (tCB rLen (tCons (tOp rIxF (tVar 1) (tVar 2)) tNil)) (gName 7))
 (tSeq (tIfS (tTest (tOp rEqA (tVar 7) (tC (.int 0)))) (tRet (tCB rTupleOf (tCons (tVar 4) tNil))) tNext)
 (tSeq (tAsg (tComp [false, false, false, false, false, false, false, false, false, true] (iRng1 (tCons (tVar 7) tNil)) (gName 9) (tTest (tOp rNotInT (tTup (tCons (tVar 2) (tCons (tVar 9) tNil))) (tVar 5))) (tVar 9)) (gName 8))
 (tSeq (tIfS (tOr (tTest (tOp rEqA (tVar 8) (tLst tNil))) (tTest (tOp rEqA (tCall sp_l_take (tCons (tVar 0) (tCons (tC (.int 5)) tNil))) (tC (.int 0))))) (tAsg (tListRange (tCons (tVar 7) tNil)) (gName 8)) tNext)
 (tSeq (tAsg (tOp rIxF (tVar 8) (tCall sp_l_take (tCons (tVar 0) (tCons (tCB rLen (tCons (tVar 8) tNil)) tNil)))) (gName 9))
 (tSeq (tDrop (tBM "list" rAppend (tVar 4) (tCons (tVar 9) tNil)))
 (tSeq (tDrop (tBM "list" rAppend (tVar 5) (tCons (tTup (tCons (tVar 2) (tCons (tVar 9) tNil))) tNil)))
 (tSeq (tDrop (tBM "list" rAppend (tVar 5) (tCons (tOp rIxF (tOp rIxF (tVar 1) (tVar 2)) (tVar 9)) tNil)))
 (tAsg (tOp rIxF (tOp rIxF (tOp rIxF (tVar 1) (tVar 2)) (tVar 9)) (tC (.int 0))) (gName 2)))))))))))
 (tRet (tCB rTupleOf (tCons (tVar 4) tNil))))))
theorem comp_any {mask : List Bool} {g : TG3} {tif : TT3} {te : TE3} {τ : St3} {xs : List T} {stay : Gp → Prop} {G : Gp} {Q : VK3} (Pr : T → Prop) (hz : xs.length ≤ sizeLine) (hst : ∀ G', Sub G G' → stay G')
  (h : ∀ (i : Nat) x, xs[i]? = some x → ∀ G' (K : T → Gp → Prop) (K0 : Gp → Prop), Sub G G' → (∀ t G4, Pr t → Sub G' G4 → K t G4) → (∀ G4, Sub G' G4 → K0 G4) → g x (msk mask τ) G' fun τ2 G2 => tif τ2 G2 fun b G3 => if b = true then te τ2 G3 K else K0 G3)
  (hq : ∀ D ts G', G D = none → G' D = some (.lst ts) → ts.length ≤ xs.length → (∀ t, t ∈ ts → Pr t) → Sub G G' → Q (.ref D) G') : CompAt mask g tif te τ xs stay G Q := by
 intro D hD
 refine ⟨fun i acc G' => acc.length ≤ i ∧ (∀ t, t ∈ acc → Pr t) ∧ Sub G G' ∧ G' D = some (.lst acc), ?_, ?_, ?_, ?_⟩
 ·exact ⟨Nat.le_refl _, fun t z => by simp at z, .new hD, gup_same⟩
 ·rintro i acc G' hi ⟨j1, j2, j4, j5⟩
  exact ⟨hst G' j4, j5⟩
 ·rintro i x acc G3 hx ⟨j1, j2, j4, j5⟩
  have hi : i < xs.length := (List.getElem?_eq_some_iff.mp hx).1
  refine h i x hx G3 _ _ j4 (fun t G4 hp kp => ?_) fun G4 kp => ⟨by omega, j2, j4.trans kp, kp _ _ j5⟩
  refine ⟨kp _ _ j5, by omega, by simp; omega, ?_, (j4.trans kp).over hD, gup_same⟩
  intro u hu
  rcases (List.mem_append.mp hu) with hu | hu
  ·exact j2 u hu
  ·rw [List.mem_singleton.mp hu]; exact hp
 ·rintro acc G3 ⟨j1, j2, j4, j5⟩
  exact hq D acc G3 hD j5 j1 j2 j4
theorem natsP {Pr : Nat → Prop} : ∀ (us : List T), (∀ t, t ∈ us → ∃ x : Nat, Pr x ∧ t = .int x) → ∃ ts : List Nat, us = intsN ts ∧ ∀ x, x ∈ ts → Pr x
 | [], _ => ⟨[], rfl, fun x hx => by simp at hx⟩
 | u :: us, h => by
  obtain ⟨x, hx, rfl⟩ := h u (by simp)
  obtain ⟨ts, rfl, h2⟩ := natsP us fun t ht => h t (List.mem_cons_of_mem _ ht)
  refine ⟨x :: ts, rfl, fun y hy => ?_⟩
  rcases (List.mem_cons.mp hy) with rfl | hy
  ·exact hx
  ·exact h2 y hy
theorem okD_oks {xs : List T} (h : ∀ x, x ∈ xs → OkD 40 x) : eqOks xs = true := by
 obtain ⟨a1, a2, a3⟩ := okD_all xs h
 unfold eqOks
 rw [a1, a2, decide_eq_true (show (PyData.list (tds xs)).depth ≤ 50 by rw [PyData.depth]; omega)]; rfl
theorem okD_ok {z : T} (h : OkD 40 z) : eqOk z = true := by
 unfold eqOk
 rw [h.tr, h.lay, decide_eq_true (show (td z).depth ≤ 50 by have := h.dep; omega)]; rfl
theorem eqG_z {G : Gp} {a c : Int} : eqG G (.int a) (.int c) = some (decide (a = c)) := by
 rw [show eqG G (.int a) (.int c) = some (eqT (.int a) (.int c)) from rfl]
 congr 1
theorem eqTs_ints : ∀ {a b : List Nat}, eqTs (intsN a) (intsN b) = decide (a = b)
 | [], [] => rfl
 | [], _ :: _ => by simp [intsN, eqTs]
 | _ :: _, [] => by simp [intsN, eqTs]
 | x :: a, y :: b => by
  show (eqT (.int x) (.int y) && eqTs (intsN a) (intsN b)) = _
  rw [eqTs_ints]
  have : eqT (.int (x : Nat)) (.int (y : Nat)) = decide (x = y) := by
   by_cases h : x = y
   ·subst h; simp [eqT]
   ·have h2 : ¬ (x : Int) = y := by omega
    rw [decide_eq_false h]; simpa [eqT] using h2
  rw [this]; simp
theorem eqG_lists {G : Gp} {p q : Addr} {a b : List Nat} (h1 : G p = some (.lst (intsN a))) (h2 : G q = some (.lst (intsN b))) : eqG G (.ref p) (.ref q) = some (decide (a = b)) := by
 have ok : ∀ F : List Nat, eqOks (intsN F) = true := fun F => okD_oks fun x hx => by
  obtain ⟨e, _, rfl⟩ := List.mem_map.mp hx; exact okD_int.mono (by decide)
 have : eqG G (.ref p) (.ref q) = if eqOks (intsN a) = true ∧ eqOks (intsN b) = true then some (eqTs (intsN a) (intsN b)) else none := by simp only [eqG, h1, h2]
 rw [this, if_pos ⟨ok a, ok b⟩, eqTs_ints]
noncomputable def rd_wayR : TS3 := (tSeq (tAsg (tOp rIxF (tVar 8) (tCall sp_l_take (tCons (tVar 0) (tCons (tCB rLen (tCons (tVar 8) tNil)) tNil)))) (gName 9))
 (tSeq (tDrop (tBM "list" rAppend (tVar 4) (tCons (tVar 9) tNil)))
 (tSeq (tDrop (tBM "list" rAppend (tVar 5) (tCons (tTup (tCons (tVar 2) (tCons (tVar 9) tNil))) tNil)))
 (tSeq (tDrop (tBM "list" rAppend (tVar 5) (tCons (tOp rIxF (tOp rIxF (tVar 1) (tVar 2)) (tVar 9)) tNil)))
 (tAsg (tOp rIxF (tOp rIxF (tOp rIxF (tVar 1) (tVar 2)) (tVar 9)) (tC (.int 0))) (gName 2))))))
theorem rd_way_eq : rd_l_way = (tSeq (tAsg (tLst tNil) (gName 4))
 (tSeq (tAsg (tLst tNil) (gName 5))
 (tSeq (tFor (iRng1 (tCons (tVar 3) tNil)) (gName 6) (tSeq (tAsg (tCB rLen (tCons (tOp rIxF (tVar 1) (tVar 2)) tNil)) (gName 7))
 (tSeq (tIfS (tTest (tOp rEqA (tVar 7) (tC (.int 0)))) (tRet (tCB rTupleOf (tCons (tVar 4) tNil))) tNext)
 (tSeq (tAsg (tComp [false, false, false, false, false, false, false, false, false, true] (iRng1 (tCons (tVar 7) tNil)) (gName 9) (tTest (tOp rNotInT (tTup (tCons (tVar 2) (tCons (tVar 9) tNil))) (tVar 5))) (tVar 9)) (gName 8))
 (tSeq (tIfS (tOr (tTest (tOp rEqA (tVar 8) (tLst tNil))) (tTest (tOp rEqA (tCall sp_l_take (tCons (tVar 0) (tCons (tC (.int 5)) tNil))) (tC (.int 0))))) (tAsg (tListRange (tCons (tVar 7) tNil)) (gName 8)) tNext)
 rd_wayR)))))
 (tRet (tCB rTupleOf (tCons (tVar 4) tNil)))))) := rfl
theorem way_rest {D : Ends3} {b p q f : Addr} {W : Web} {cur m n k : Nat} {v9 : Option T} {ds F : List Nat} {gs row : List (Nat × Nat)} {G : Gp} (hw : W[cur]? = some row) (hf : G f = some (.lst (intsN F))) (hF : 1 ≤ F.length) (hF2 : F.length ≤ 1000) (hFr : ∀ d, d ∈ F → d < row.length) (hp : G p = some (.lst (intsN ds))) (hq : G q = some (.lst (gs.map encE))) (hdl : ds.length ≤ 100) (hgl : gs.length ≤ 200) (hpb : p ≠ b) (hqb : q ≠ b) (hfb : f ≠ b) (hpq : p ≠ q) (hb : BoxAt G b n) (hn : n < 2 ^ 40)
  (kk : ∀ (d : Nat) e G', row[d]? = some e → G' p = some (.lst (intsN (ds ++ [d]))) → G' q = some (.lst ((gs ++ [(cur, d), e]).map encE)) → BoxAt G' b (n + 1) → (∀ c o, c ≠ b → c ≠ p → c ≠ q → G c = some o → G' c = some o) → D.nx [some (.ref b), some (.tup (W.map encR)), some (.int (e.1 : Nat)), some (.int m), some (.ref p), some (.ref q), some (.int k), some (.int (row.length : Nat)), some (.ref f), some (.int (d : Nat))] G') :
  rd_wayR D [some (.ref b), some (.tup (W.map encR)), some (.int (cur : Nat)), some (.int m), some (.ref p), some (.ref q), some (.int k), some (.int (row.length : Nat)), some (.ref f), v9] G := by
 have hs := sz
 wp_walk using 1, rd_wayR, seqT_lst hf
 refine ⟨b, _, n, rfl, hb, hn, by simp [intsN]; omega, by simp [intsN]; omega, fun c G1 c0 c1 bx kp => ?_⟩
 have hcl : c.toNat < F.length := by simp [intsN] at c1; omega
 have hca : L2.atI (intsN F) c = some (.int (F[c.toNat] : Nat)) := by rw [atZ c0]; simp [intsN, hcl]
 have hmem : F[c.toNat] ∈ F := List.getElem_mem hcl
 generalize F[c.toNat] = d at hca hmem
 have hd := hFr d hmem
 have hed : row[d]? = some row[d] := List.getElem?_eq_getElem hd
 generalize row[d] = e at hed
 have hp1 := kp _ _ hpb hp
 have hq1 := kp _ _ hqb hq
 wp_walk using 1, ixR_lst (kp _ _ hfb hf), hca, tyT_lst hp1, hp1, gup_ne hpq.symm, hq1, encW_at hw, encR, encR_at hed, encE
 refine ⟨by simp [intsN]; omega, by rw [tyT_lst (by rw [gup_ne hpq.symm]; exact hq1)]; trivial, by omega, by simp; omega, by simp; omega, kk d e _ hed ?_ ?_ ((bx.gup hpb.symm).gup hqb.symm) ?_⟩
 ·rw [gup_ne hpq, gup_same]; simp [intsN]
 ·rw [gup_same]; simp [encE]
 ·intro c o h1 h2 h3 h4
  rw [gup_ne h3, gup_ne h2]; exact kp _ _ h1 h4
theorem rdok_l_way : ∀ xs G Q, sp_l_way xs G Q → rd_l_way { nx := fun _ G' => Q .non G', rt := Q } (start3 N_l_way xs) G := by
 intro xs G Q; apply xe5; intro b W r m n; apply ae6; intro hb hn fine hr hm kk
 rw [show start3 N_l_way [.ref b, encW W, .int r, .int m] = [some (.ref b), some (.tup (W.map encR)), some (.int r), some (.int m), none, none, none, none, none, none] from rfl]
 have hs := sz
 rw [rd_way_eq]
 wp_walk using 1, tFor_at, iRng1
 refine ⟨by omega, fun p hp => ⟨by omega, fun q hq => ⟨by omega, by omega, ?_⟩⟩⟩
 obtain ⟨hqp, hq0⟩ := gup_none hq
 obtain ⟨bo, hbo⟩ := hb.some
 have hbp := ne_some_none hbo hp
 have hbq := ne_some_none hbo hq0
 let J1 : Nat → St3 → Gp → Prop := fun i τ G' => ∃ (v6 v7 v8 v9 : Option T) (ds : List Nat) (es : List (Nat × Nat)) (gs : List (Nat × Nat)), τ = [some (.ref b), some (.tup (W.map encR)), some (.int (lastR r es : Nat)), some (.int m), some (.ref p), some (.ref q), v6, v7, v8, v9] ∧ goW W r ds = some es ∧ ds.length = i ∧ G' p = some (.lst (intsN ds)) ∧ G' q = some (.lst (gs.map encE)) ∧ gs.length = 2 * i ∧ BoxAt G' b (n + 2 * i) ∧ Keep b G G'
 refine ⟨J1, ?_, ?_, ?_, ?_⟩
 ·exact xi7 none none none none [] [] [] rfl ⟨rfl, rfl, by rw [gup_ne hqp.symm]; exact gup_same, gup_same, rfl, (hb.gup hbp).gup hbq, (Keep.new hp).over hq0⟩
 ·intros; trivial
 ·intro i y τ G1 hy; apply xe7; intro v6 v7 v8 v9 ds es gs; apply ae7; intro h1 h2 h3 h4 h5 h6 h7
  obtain ⟨hi, rfl⟩ := rngT_get hy
  obtain ⟨c1, c2, c3⟩ := goW_lt fine hr h1
  obtain ⟨row, hrow, hen⟩ := row_at c1
  have hrl := fine.row _ _ hrow
  wp_walk using 1, rEqA, iRng1, tListRange, encW_at hrow, encR, List.length_map
  refine ⟨decide (row.length = 0), eqG_nat (c := 0), ?_⟩
  by_cases h0 : row.length = 0
  ·rw [if_pos (decide_eq_true h0)]
   exact ⟨_, seqT_lst h3, kk ds es G1 h1 (by omega) (h6.mono (by omega)) h7⟩
  rw [if_neg (by simpa using (h0))]
  have go : ∀ (f : Addr) (F : List Nat) G2 k, Sub G1 G2 ∨ (Keep b G1 G2) → G2 f = some (.lst (intsN F)) → 1 ≤ F.length → F.length ≤ 1000 → (∀ d, d ∈ F → d < row.length) → f ≠ b → BoxAt G2 b k → k + 1 ≤ n + 2 * (i + 1) → rd_wayR { nx := J1 (i + 1), rt := Q, bk := tRet (tCB rTupleOf (tCons (tVar 4) tNil)) { nx := fun x G' => Q T.non G', rt := Q }, ct := J1 (i + 1) } [some (.ref b), some (.tup (W.map encR)), some (.int (lastR r es : Nat)), some (.int m), some (.ref p), some (.ref q), some (.int i), some (.int (row.length : Nat)), some (.ref f), v9] G2 := by
   intro f F G2 k sk hf hF hF2 hFr hfb bx hk
   have kp : Keep b G1 G2 := sk.elim (fun s c o _ e => s c o e) id
   refine way_rest hrow hf hF hF2 hFr (kp _ _ hbp.symm h3) (kp _ _ hbq.symm h4) (by omega) (by omega) hbp.symm hbq.symm hfb hqp.symm bx (by omega) fun d e G3 he g1 g2 g3 g4 => ?_
   refine xi7 _ _ _ _ (ds ++ [d]) (es ++ [e]) (gs ++ [(lastR r es, d), e]) (by rw [lastR_snoc]) ⟨?_, by simp [h2], g1, g2, by simp [h5]; omega, g3.mono hk, fun c o hc ho => ?_⟩
   ·rw [goW_snoc, h1, Option.bind_some, hen, he]; rfl
   ·exact g4 c o hc (ne_some_none ho hp) (ne_some_none ho hq0) (kp c o hc (h7 c o hc ho))
  refine ⟨by omega, by omega, ?_⟩
  refine comp_any (fun t => ∃ d : Nat, d < row.length ∧ t = .int d) (by rw [rngT_len]; omega) (fun _ _ => trivial) ?_ ?_
  ·intro j x hx G2 K K0 s2 hK hK0
   obtain ⟨hj, rfl⟩ := rngT_get hx
   wp_walk using 1, rNotInT
   refine ⟨by omega, _, s2 _ _ h4, okD_ok ((okD_enc (e := (lastR r es, j))).mono (by decide)), okD_oks fun x hx => ?_, fun c => ?_⟩
   ·obtain ⟨e, _, rfl⟩ := List.mem_map.mp hx; exact okD_enc.mono (by decide)
   ·cases c with
    | true => exact hK _ G2 ⟨j, by omega, rfl⟩ (.refl _)
    | false => exact hK0 G2 (.refl _)
  ·intro D ts G2 hD hD2 hlen hts s2
   obtain ⟨F, rfl, hF⟩ := natsP ts hts
   rw [rngT_len] at hlen
   refine ⟨by omega, fun z hz => ?_⟩
   have hDz : D ≠ z := ne_some_none hD2 hz
   refine ⟨decide (F = []), eqG_lists (b := []) (by rw [gup_ne hDz]; exact hD2) gup_same, ?_⟩
   have sz2 : Sub G1 (gup G2 z (.lst [])) := s2.trans (.new hz)
   have bxz : BoxAt (gup G2 z (.lst [])) b (n + 2 * i) := h6.sub sz2
   have hDz2 : gup G2 z (.lst []) D = some (.lst (intsN F)) := by rw [gup_ne hDz]; exact hD2
   generalize gup G2 z (.lst []) = G3 at sz2 bxz hDz2 ⊢
   obtain ⟨bo3, hbo3⟩ := bxz.some
   have hDb : D ≠ b := fun e => by rw [e] at hD; obtain ⟨o1, ho1⟩ := h6.some; rw [hD] at ho1; cases ho1
   have rng : ∀ G4 k, Keep b G1 G4 → BoxAt G4 b k → k + 1 ≤ n + 2 * (i + 1) → -2 ^ 62 ≤ (row.length : Int) ∧ (row.length : Int) ≤ 2 ^ 20 ∧ ∀ f, G4 f = none → rd_wayR { nx := J1 (i + 1), rt := Q, bk := tRet (tCB rTupleOf (tCons (tVar 4) tNil)) { nx := fun x G' => Q T.non G', rt := Q }, ct := J1 (i + 1) } [some (.ref b), some (.tup (W.map encR)), some (.int (lastR r es : Nat)), some (.int m), some (.ref p), some (.ref q), some (.int i), some (.int (row.length : Nat)), some (.ref f), v9] (gup G4 f (.lst (rngT 0 (row.length : Int).toNat))) := by
    intro G4 k kp bx hk
    refine ⟨by omega, by omega, fun f hf => ?_⟩
    obtain ⟨bo4, hbo4⟩ := bx.some
    have hfb : b ≠ f := ne_some_none hbo4 hf
    refine go f (List.range row.length) _ k (.inr (kp.trans (.new hf))) ?_ (by simp; omega) (by simp; omega) (fun d hd => List.mem_range.mp hd) hfb.symm (bx.gup hfb) hk
    rw [gup_same, show (row.length : Int).toNat = row.length by omega, rngT_map]; rfl
   by_cases hFe : F = []
   ·rw [if_pos (decide_eq_true hFe)]
    exact rng G3 _ (fun c o _ e => sz2 c o e) bxz (by omega)
   ·rw [if_neg (by simpa using hFe)]
    have hF1 : 1 ≤ F.length := by
     cases F with
     | nil => exact absurd rfl hFe
     | cons a F => simp
    refine ⟨b, 5, _, rfl, bxz, by omega, by decide, by decide, fun c G4 c0 c1 bx kp => ⟨_, eqG_z, ?_⟩⟩
    have kp14 : Keep b G1 G4 := fun c o hc e => kp c o hc (sz2 c o e)
    split
    ·exact rng G4 _ kp14 bx (by omega)
    ·exact go D F G4 _ (.inr kp14) (kp _ _ hDb hDz2) hF1 (by simp [intsN] at hlen; omega) hF hDb bx (by omega)
 ·intro τ G1; apply xe7; intro v6 v7 v8 v9 ds es gs; apply ae7; intro h1 h2 h3 h4 h5 h6 h7
  rw [rngT_len] at h2 h6
  wp_walk using 1, tSeq
  exact ⟨_, seqT_lst h3, kk ds es G1 h1 (by omega) (h6.mono (by omega)) h7⟩
noncomputable def sp_l_bent : Sp3 := fun xs G Q => ∃ (b : Addr) (S : Story) (n : Nat), xs = [.ref b, encSy S] ∧ BoxAt G b n ∧ n + 10 < 2 ^ 40 ∧ S.2.length ≤ 60 ∧ ∀ (S' : Story) G', S'.2.length ≤ 60 → BoxAt G' b (n + 4) → Keep b G G' → Q (encSy S') G'
noncomputable def N_l_bent : List Str := ["_law_box_here", "_law_story_here", "_law_doors", "_law_path", "_law_way_here", "_law_at", "_law_step", "_law_spot"]
noncomputable def rd_l_bent : TS3 :=
 (tSeq (tAsg (tVar 1) (gTup 2 (gCons (gName 2) (gCons (gName 3) gNil))))
 (tSeq (tAsg (tCall sp_l_take (tCons (tVar 0) (tCons (tC (.int 5)) tNil))) (gName 4))
 (tSeq (tIfS (tOr (tTest (tOp rEqA (tVar 3) (tTup tNil))) (tTest (tOp rEqA (tVar 4) (tC (.int 0))))) (tRet (tTup (tCons (tCB rMin2 (tCons (tC (.int 6)) (tCons (tCB rMax (tCons (tC (.int 0)) (tCons (tOp rAddG (tVar 2) (tOp rIxF (tLst (tCons (tC (.int 1)) (tCons (tUn rNeg (tC (.int 1))) tNil))) (tCall sp_l_take (tCons (tVar 0) (tCons (tC (.int 2)) tNil))))) tNil))) tNil))) (tCons (tVar 3) tNil)))) tNext)
 (tSeq (tAsg (tCall sp_l_take (tCons (tVar 0) (tCons (tCB rLen (tCons (tVar 3) tNil)) tNil))) (gName 5))
 (tSeq (tIfS (tTest (tOp rEqA (tVar 4) (tC (.int 1)))) (tRet (tTup (tCons (tVar 2) (tCons (tOp rAddG (tSl rSlF (tVar 3) tNoPart (tPart (tVar 5))) (tSl rSlF (tVar 3) (tPart (tOp rAddG (tVar 5) (tC (.int 1)))) tNoPart)) tNil)))) tNext)
 (tSeq (tIfS (tTest (tOp rEqA (tVar 4) (tC (.int 2)))) (tRet (tTup (tCons (tVar 2) (tCons (tSl rSlF (tOp rAddG (tVar 3) (tTup (tCons (tOp rIxF (tVar 3) (tVar 5)) tNil))) tNoPart (tPart (tC (.int 60)))) tNil)))) tNext)
 (tSeq (tAsg (tCB rListA (tCons (tOp rIxF (tVar 3) (tVar 5)) tNil)) (gName 6))
 (tSeq (tAsg (tCall sp_l_take (tCons (tVar 0) (tCons (tC (.int 3)) tNil))) (gName 7))
 (tSeq (tAsg (tCB rMin2 (tCons (tC (.int 6)) (tCons (tCB rMax (tCons (tC (.int 0)) (tCons (tOp rAddG (tOp rIxF (tVar 6) (tVar 7)) (tOp rIxF (tLst (tCons (tC (.int 1)) (tCons (tUn rNeg (tC (.int 1))) tNil))) (tCall sp_l_take (tCons (tVar 0) (tCons (tC (.int 2)) tNil))))) tNil))) tNil))) (gSub (tVar 6) (tVar 7) rSetF))
 (tRet (tTup (tCons (tVar 2) (tCons (tOp rAddG (tOp rAddG (tSl rSlF (tVar 3) tNoPart (tPart (tVar 5))) (tTup (tCons (tCB rTupleOf (tCons (tVar 6) tNil)) tNil))) (tSl rSlF (tVar 3) (tPart (tOp rAddG (tVar 5) (tC (.int 1)))) tNoPart)) tNil)))))))))))))
theorem okD_st {s : Stp} : OkD 1 (encSt s) := okD_ints (w := [s.1, s.2.1, s.2.2])
theorem eqG_path {G : Gp} {ss : List Stp} : eqG G (.tup (ss.map encSt)) (.tup []) = some (decide (ss = [])) := by
 rw [eqG_ok (d := 2) (okD_tup fun x hx => by obtain ⟨s, _, rfl⟩ := List.mem_map.mp hx; exact okD_st) (okD_tup fun x hx => by cases hx) (by decide) (fun p z => by cases z)]
 cases ss with
 | nil => rfl
 | cons a ss => simp [eqT, eqTs]
theorem add_tups {xs ys : List T} {G : Gp} {Q : VK3} (h : xs.length + ys.length ≤ sizeLine) (q : Q (.tup (xs ++ ys)) G) : rAddG (.tup xs) (.tup ys) G Q := by
 cases xs with
 | nil => exact .inr ⟨ys, rfl, rfl, q⟩
 | cons c xs => exact .inl ⟨.val (.tup (c :: xs ++ ys)), by have : xs.length + 1 + ys.length ≤ sizeLine := h; simp [addR, this], q⟩
theorem add_zs {i j : Int} {G : Gp} {Q : VK3} (q : Q (.int (i + j)) G) : rAddG (.int i) (.int j) G Q := .inl ⟨.val (.int (i + j)), rfl, q⟩
noncomputable def clip (x : Int) : Int := if (if x > 0 then x else 0) < 6 then if x > 0 then x else 0 else 6
theorem clip0 {x : Int} : 0 ≤ clip x := by unfold clip; split <;> split <;> omega
theorem pm {b : Addr} {v : Int} {G : Gp} {k : Nat} {K : Int → Gp → Prop} (bx : BoxAt G b k) (hk : k < 2 ^ 40) (kk : ∀ z G', BoxAt G' b (k + 1) → Keep b G G' → K z G') :
  2 ≤ sizeLine ∧ ∀ p, G p = none → sp_l_take [.ref b, .int 2] (gup G p (.lst [.int 1, .int (-1)])) fun y G2 => ∃ t, ixR G2 (.ref p) y = some t ∧ rAddG (.int v) t G2 fun x G3 => ∃ z, x = .int z ∧ K z G3 := by
 have hs := sz
 refine ⟨by omega, fun p hp => ?_⟩
 obtain ⟨bo, hbo⟩ := bx.some
 have hbp := ne_some_none hbo hp
 refine ⟨b, 2, k, rfl, bx.gup hbp, hk, by decide, by decide, fun c G1 c0 c1 b1 k1 => ?_⟩
 have hc : c = 0 ∨ c = 1 := by omega
 have hp1 := k1 _ _ hbp.symm gup_same
 have fin : ∀ u : Int, L2.atI [T.int 1, T.int (-1)] c = some (.int u) → ∃ t, ixR G1 (.ref p) (.int c) = some t ∧ rAddG (.int v) t G1 fun x G3 => ∃ z, x = .int z ∧ K z G3 := fun u hu =>
  ⟨.int u, (ixR_lst hp1).trans hu, add_zs ⟨_, rfl, kk _ G1 b1 ((Keep.new hp).trans k1)⟩⟩
 rcases hc with rfl | rfl
 ·exact fin 1 rfl
 ·exact fin (-1) rfl
theorem rdok_l_bent : ∀ xs G Q, sp_l_bent xs G Q → rd_l_bent { nx := fun _ G' => Q .non G', rt := Q } (start3 N_l_bent xs) G := by
 intro xs G Q; apply xe3; intro b S n; apply ae4; intro hb hn hl kk
 rw [show start3 N_l_bent [.ref b, encSy S] = [some (.ref b), some (.tup [.int S.1, .tup (S.2.map encSt)]), none, none, none, none, none, none] from rfl]
 have hs := sz
 wp_walk using 1, rd_l_bent, rEqA, rMin2, tSl, rSlF, slR, tNoPart, tPart, rListA, rListOf
 refine ⟨b, 5, n, rfl, hb, by omega, by decide, by decide, fun w G1 w0 w1 bx kp => ⟨by omega, _, eqG_path, ?_⟩⟩
 have easy : 2 ≤ sizeLine ∧ ∀ p, G1 p = none → sp_l_take [.ref b, .int 2] (gup G1 p (.lst [.int 1, .int (-1)])) fun y G2 => ∃ t, ixR G2 (.ref p) y = some t ∧ rAddG (.int S.1) t G2 fun x G3 => ∃ z, x = .int z ∧ 2 ≤ sizeLine ∧ Q (.tup [.int (clip z), .tup (S.2.map encSt)]) G3 := by
  refine pm (K := fun z G3 => 2 ≤ sizeLine ∧ Q (.tup [.int (clip z), .tup (S.2.map encSt)]) G3) bx (by omega) fun z G' b1 k1 => ⟨by omega, ?_⟩
  have := kk ((clip z).toNat, S.2) G' hl (b1.mono (by omega)) (kp.trans k1)
  rw [encSy, show (((clip z).toNat : Nat) : Int) = clip z by have := clip0 (x := z); omega] at this
  exact this
 by_cases h0 : S.2 = []
 ·rw [if_pos (decide_eq_true h0)]
  exact easy
 rw [if_neg (by simpa using (h0))]
 refine ⟨_, eqG_z, ?_⟩
 have hl1 : 1 ≤ S.2.length := by
  cases h : S.2 with
  | nil => exact absurd h h0
  | cons a l => simp
 split
 ·exact easy
 ·refine ⟨b, _, n + 1, rfl, bx, by omega, by rw [List.length_map]; omega, by rw [List.length_map]; omega, fun at' G2 a0 a1 b2 k2 => ⟨_, eqG_z, ?_⟩⟩
  rw [List.length_map] at a1
  obtain ⟨i, rfl⟩ := Int.eq_ofNat_of_zero_le a0
  have hi : i < S.2.length := by omega
  have hsi : S.2[i]? = some S.2[i] := List.getElem?_eq_getElem hi
  generalize S.2[i] = s at hsi
  have cut1 : cutT (S.2.map encSt) none (some (i : Int)) = (S.2.take i).map encSt := by
   unfold cutT
   rw [HT.sIx_none, HT.sIx_nat, List.drop_zero, Nat.sub_zero]
   simp [List.map_take]
  have cut2 : cutT (S.2.map encSt) (some ((i : Int) + 1)) none = (S.2.drop (i + 1)).map encSt := by
   rw [show ((i : Int) + 1) = ((i + 1 : Nat) : Int) by omega]
   unfold cutT
   rw [HT.sIx_none, HT.sIx_nat, List.take_of_length_le (by simp), List.length_map, Nat.min_eq_left (by omega), List.map_drop]
  have hat : ixR G2 (.tup (S.2.map encSt)) (.int i) = some (encSt s) := by
   rw [ixR_tup, atN, List.getElem?_map, hsi]; rfl
  have kp2 := kp.trans k2
  split
  ·refine ⟨_, rfl, add_zs ⟨_, rfl, ?_⟩⟩
   rw [cut1, cut2]
   refine add_tups (by simp; omega) ⟨by omega, ?_⟩
   rw [← List.map_append]
   exact kk (S.1, S.2.take i ++ S.2.drop (i + 1)) G2 (by simp; omega) (b2.mono (by omega)) kp2
  ·refine ⟨_, eqG_z, ?_⟩
   split
   ·refine ⟨_, hat, by omega, add_tups (by simp; omega) ⟨_, rfl, ?_⟩⟩
    rw [fin_val]
    refine ⟨by omega, ?_⟩
    have e : cutT (S.2.map encSt ++ [encSt s]) none (some 60) = ((S.2 ++ [s]).take 60).map encSt := by
     rw [show (60 : Int) = ((60 : Nat) : Int) from rfl]
     unfold cutT
     rw [HT.sIx_none, HT.sIx_nat, List.drop_zero, Nat.sub_zero, List.map_take, List.map_append]
     show List.take _ (S.2.map encSt ++ [encSt s]) = List.take 60 (S.2.map encSt ++ [encSt s])
     rw [List.take_eq_take_iff]
     omega
    rw [e]
    exact kk (S.1, (S.2 ++ [s]).take 60) G2 (by simp; omega) (b2.mono (by omega)) kp2
   ·refine ⟨_, hat, [.int s.1, .int s.2.1, .int s.2.2], rfl, fun p hp => ?_⟩
    obtain ⟨bo2, hbo2⟩ := b2.some
    have hbp := ne_some_none hbo2 hp
    refine ⟨b, 3, n + 1 + 1, rfl, b2.gup hbp, by omega, by decide, by decide, fun c G3 c0 c1 b3 k3 => ?_⟩
    have hp3 := k3 _ _ hbp.symm gup_same
    have kp3 := kp2.trans ((Keep.new hp).trans k3)
    have last : ∀ (v : Nat) (j : Nat) (f : Nat → Stp), L2.atI [T.int s.1, .int s.2.1, .int s.2.2] c = some (.int v) → L2.ixN 3 c = some j → (∀ z : Nat, T.tup ([T.int s.1, .int s.2.1, .int s.2.2].set j (.int z)) = encSt (f z)) → ∃ t, ixR G3 (.ref p) (.int c) = some t ∧ 2 ≤ sizeLine ∧ ∀ p_1, G3 p_1 = none → sp_l_take [.ref b, .int 2] (gup G3 p_1 (.lst [.int 1, .int (-1)])) fun y G2 => ∃ t_1, ixR G2 (.ref p_1) y = some t_1 ∧ rAddG t t_1 G2 fun x_1 G1 => ∃ x_2, x_1 = .int x_2 ∧ ∃ G', setR G1 (.ref p) (.int c) (.int (clip x_2)) = some G' ∧ ∃ i_1, T.int (i : Nat) = T.int i_1 ∧ ∃ x, seqT G' (.ref p) = some x ∧ 1 ≤ sizeLine ∧ rAddG (.tup (cutT (S.2.map encSt) none (some i_1))) (.tup [.tup x]) G' fun x G1 => rAddG (.int (i : Nat)) (.int 1) G1 fun x_3 G1 => ∃ i, x_3 = .int i ∧ rAddG x (.tup (cutT (S.2.map encSt) (some i) none)) G1 fun x G1 => 2 ≤ sizeLine ∧ Q (.tup [.int S.1, x]) G1 := by
     intro v j f h1 h2 h3
     refine ⟨.int v, (ixR_lst hp3).trans h1, ?_⟩
     refine pm (v := v) (K := fun z G1 => ∃ G', setR G1 (.ref p) (.int c) (.int (clip z)) = some G' ∧ ∃ i_1, T.int (i : Nat) = T.int i_1 ∧ ∃ x, seqT G' (.ref p) = some x ∧ 1 ≤ sizeLine ∧ rAddG (.tup (cutT (S.2.map encSt) none (some i_1))) (.tup [.tup x]) G' fun x G1 => rAddG (.int (i : Nat)) (.int 1) G1 fun x_3 G1 => ∃ i, x_3 = .int i ∧ rAddG x (.tup (cutT (S.2.map encSt) (some i) none)) G1 fun x G1 => 2 ≤ sizeLine ∧ Q (.tup [.int S.1, x]) G1) b3 (by omega) fun z G4 b4 k4 => ?_
     have hp4 := k4 _ _ hbp.symm hp3
     refine ⟨_, setR_lst hp4 h2, _, rfl, _, seqT_gup, by omega, ?_⟩
     have hz : clip z = ((clip z).toNat : Nat) := by have := clip0 (x := z); omega
     rw [cut1, hz, h3 (clip z).toNat]
     refine add_tups (by simp; omega) (add_zs ⟨_, rfl, ?_⟩)
     rw [cut2]
     refine add_tups (by simp; omega) ⟨by omega, ?_⟩
     have hkeep : Keep b G (gup G4 p (.lst ([T.int s.1, .int s.2.1, .int s.2.2].set j (.int ((clip z).toNat : Nat))))) := fun c' o hc ho => by
      rw [gup_ne (ne_some_none (kp2 c' o hc ho) hp)]; exact (kp3.trans k4) c' o hc ho
     have := kk (S.1, S.2.take i ++ [f (clip z).toNat] ++ S.2.drop (i + 1)) _ (by simp; omega) (b4.gup hbp) hkeep
     rw [encSy, List.map_append, List.map_append] at this
     exact this
    have hc3 : c = 0 ∨ c = 1 ∨ c = 2 := by omega
    rcases hc3 with rfl | rfl | rfl
    ·exact last s.1 0 (fun z => (z, s.2.1, s.2.2)) rfl ix30 fun z => rfl
    ·exact last s.2.1 1 (fun z => (s.1, z, s.2.2)) rfl ix31 fun z => rfl
    ·exact last s.2.2 2 (fun z => (s.1, s.2.1, z)) rfl ix32 fun z => rfl
structure WI (n k : Nat) (L : List (Nat × Nat × Nat)) (kvs : List (L2.Key × T)) : Prop where
 rm : ∀ x, x ∈ L → x.1 < n ∧ x.2.2 ≤ 1 ∧ x.2.1 < k
 ld : ∀ x, x ∈ L → ∃ lp : Bool, valT kvs (.inl (x.2.1 : Nat)) = some (.bl lp) ∧ (lp = true → x.2.2 = 0) ∧ (lp = false → ∃ r, (r, x.2.1, 1 - x.2.2) ∈ L)
 ln : L.length ≤ 2 * k
 tr : k < n → ∀ x, x ∈ L → x.1 ≤ k
 kl : kvs.length ≤ k
theorem WI.skip {n k : Nat} {L : List (Nat × Nat × Nat)} {kvs : List (L2.Key × T)} (h : WI n k L kvs) (hk : n ≤ k + 1) : WI n (k + 1) L kvs :=
 ⟨fun x hx => by have := h.rm x hx; omega, h.ld, by have := h.ln; omega, fun z => by omega, by have := h.kl; omega⟩
theorem WI.step {n k r1 r2 : Nat} {lp : Bool} {L : List (Nat × Nat × Nat)} {kvs : List (L2.Key × T)} (h : WI n k L kvs) (h1 : r1 < n) (h2 : r2 < n) (ht : k + 1 < n → r1 ≤ k + 1 ∧ r2 ≤ k + 1) :
  WI n (k + 1) ((L ++ [(r1, k, 0)]) ++ if lp = true then [] else [(r2, k, 1)]) (putT kvs (.inl (k : Nat)) (.bl lp)) := by
 have mem : ∀ x, x ∈ (L ++ [(r1, k, 0)]) ++ (if lp = true then [] else [(r2, k, 1)]) → x ∈ L ∨ x = (r1, k, 0) ∨ (lp = false ∧ x = (r2, k, 1)) := by
  intro x hx
  rcases (List.mem_append.mp hx) with hx | hx
  ·rcases (List.mem_append.mp hx) with hx | hx
   ·exact .inl hx
   ·exact .inr (.inl (List.mem_singleton.mp hx))
  ·cases lp with
   | true => simp at hx
   | false => exact .inr (.inr ⟨rfl, by simpa using hx⟩)
 have hv : valT (putT kvs (.inl (k : Nat)) (.bl lp)) (.inl ((k : Nat) : Int)) = some (.bl lp) := by rw [valT_put, if_pos rfl]
 refine ⟨fun x hx => ?_, fun x hx => ?_, ?_, fun hk x hx => ?_, ?_⟩
 ·rcases mem x hx with hx | rfl | ⟨_, rfl⟩
  ·have := h.rm x hx; omega
  ·exact ⟨h1, Nat.zero_le _, Nat.lt_succ_self k⟩
  ·exact ⟨h2, Nat.le_refl _, Nat.lt_succ_self k⟩
 ·rcases mem x hx with hx | rfl | ⟨hl, rfl⟩
  ·obtain ⟨lp', a1, a2, a3⟩ := h.ld x hx
   have hxk := (h.rm x hx).2.2
   refine ⟨lp', ?_, a2, fun z => ?_⟩
   ·rw [valT_put, if_neg]; exact a1
    intro e
    have : (k : Int) = (x.2.1 : Nat) := Sum.inl.inj e
    omega
   ·obtain ⟨r, hr⟩ := a3 z
    exact ⟨r, List.mem_append_left _ (List.mem_append_left _ hr)⟩
  ·refine ⟨lp, hv, fun _ => rfl, fun z => ⟨r2, ?_⟩⟩
   subst z; simp
  ·refine ⟨lp, hv, fun z => ?_, fun z => ⟨r1, by simp⟩⟩
   rw [hl] at z; cases z
 ·have := h.ln
  cases lp <;> simp <;> omega
 ·have ht := ht hk
  rcases mem x hx with hx | rfl | ⟨_, rfl⟩
  ·have := h.tr (by omega) x hx; omega
  ·exact ht.1
  ·exact ht.2
 ·have := h.kl; have := putT_len kvs (.inl (k : Nat)) (.bl lp); omega
theorem HalfL.row_len {L : List (Nat × Nat × Nat)} {n r : Nat} {Hs : Web} (h : HalfL L n Hs) (hr : r < n) : (row Hs r).length = (L.filter fun x => x.1 == r).length := by
 have hrl : r < Hs.length := by rw [h.len]; exact hr
 have h1 : Hs[r]? = some Hs[r] := List.getElem?_eq_getElem hrl
 rw [row_of h1, (h.perm r _ h1).length_eq, List.length_map]
theorem WI.free {n k : Nat} {L : List (Nat × Nat × Nat)} {kvs : List (L2.Key × T)} {Hs : Web} (h : WI n k L kvs) (hh : HalfL L n Hs) (hk : k < n) : ∃ r, r < k + 1 ∧ (row Hs r).length < 5 := by
 refine (Classical.byContradiction) fun hn => ?_
 have := pigeon (L := L) (d := 5) (k + 1) fun r hr => by
  rw [← hh.row_len (by omega)]
  exact Nat.le_of_not_lt fun z => hn ⟨r, hr, z⟩
 have h2 := List.length_filter_le (fun x : Nat × Nat × Nat => decide (x.1 < k + 1)) L
 have := h.ln
 omega
theorem RowsAt.get {G : Gp} {h : Addr} {Hs : Web} {rs : List Addr} {x : Nat} (R : RowsAt G h Hs rs) (hx : x < Hs.length) : ∃ a, rs[x]? = some a ∧ L2.atI (rs.map T.ref) (x : Int) = some (.ref a) ∧ G a = some (.lst ((row Hs x).map encE)) := by
 have hxl : x < rs.length := by rw [R.2.1]; exact hx
 have hr : rs[x]? = some rs[x] := List.getElem?_eq_getElem hxl
 obtain ⟨us, h1, h2⟩ := R.2.2 x _ hr
 exact ⟨_, hr, by rw [atN, List.getElem?_map, hr]; rfl, by rw [row_of h1]; exact h2⟩
noncomputable def InsP (b D : Addr) (r k : Nat) (s : Int) (G : Gp) (K : Gp → Prop) : Prop := ∃ t, ixR G (.ref D) (.int (r : Nat)) = some t ∧ tyT G "list" t ∧ ∃ t1, ixR G (.ref D) (.int (r : Nat)) = some t1 ∧ ∃ x, seqT G t1 = some x ∧ sp_l_take [.ref b, .int ((x.length : Int) + 1)] G fun x G1 => 2 ≤ sizeLine ∧ ∃ p, t = .ref p ∧ ∃ x1 x2, x = .int x2 ∧ G1 p = some (.lst x1) ∧ 0 ≤ x2 ∧ x2 ≤ (x1.length : Int) ∧ x1.length < sizeLine ∧ K (gup G1 p (.lst (insT x1 x2.toNat (.tup [.int (k : Nat), .int s]))))
theorem ins_ok {b D : Addr} {rs : List Addr} {n r k s c : Nat} {si : Int} {L : List (Nat × Nat × Nat)} {Hs : Web} {G : Gp} {K : Gp → Prop} (hsi : si = (s : Nat)) (hr : r < n) (hh : HalfL L n Hs) (hl : L.length ≤ 100) (hR : RowsAt G D Hs rs) (hnd : (D :: rs).Nodup) (hbD : b ∉ D :: rs) (hb : BoxAt G b c) (hc : c < 2 ^ 40)
  (kk : ∀ Hs' G', HalfL (L ++ [(r, k, s)]) n Hs' → RowsAt G' D Hs' rs → BoxAt G' b (c + 1) → (∀ a o, a ≠ b → a ∉ D :: rs → G a = some o → G' a = some o) → K G') : InsP b D r k si G K := by
 have hs := sz
 have hrl : r < Hs.length := by rw [hh.len]; exact hr
 obtain ⟨a, a1, a2, a3⟩ := hR.get hrl
 have hrow : Hs[r]? = some (row Hs r) := by rw [row, List.getElem?_eq_getElem hrl]; rfl
 have hlen := hh.len_le hrow
 have ham : a ∈ D :: rs := List.mem_cons_of_mem _ (List.mem_of_getElem? a1)
 have hab : a ≠ b := fun e => hbD (e ▸ ham)
 have hix : ixR G (.ref D) (.int (r : Nat)) = some (.ref a) := (ixR_lst hR.1).trans a2
 refine ⟨_, hix, by rw [tyT_lst a3]; trivial, _, hix, _, seqT_lst a3, b, _, c, rfl, hb, hc, by omega, by rw [List.length_map]; omega, fun x G1 x0 x1 bx kp => ⟨by omega, a, rfl, _, x, rfl, kp _ _ hab a3, x0, by omega, by rw [List.length_map]; omega, ?_⟩⟩
 rw [hsi, show T.tup [T.int (k : Nat), .int (s : Nat)] = encE (k, s) from rfl, insT_map]
 refine kk _ _ (hh.ins hrow) ((hR.keep kp hbD).set hnd a1) (bx.gup hab.symm) fun a' o h1 h2 h3 => ?_
 rw [gup_ne fun e => h2 (by rw [e]; exact ham)]; exact kp _ _ h1 h3
theorem setR_dck {G : Gp} {p : Addr} {kvs : List (L2.Key × T)} {k : Int} {v : T} (h : G p = some (.dck kvs)) (hz : kvs.length < sizeLine) : setR G (.ref p) (.int k) v = some (gup G p (.dck (putT kvs (.inl k) v))) := by
 simp only [setR, h, keyOf]; rw [if_pos hz]
noncomputable def N_l_web : List Str := ["_law_box_here", "_law_size", "_law_more", "_law_sides", "_law_leads", "_law_k", "_law_free", "_law_one", "_law_other", "_law_ahead", "_law_loop", "_law_where", "_law_room", "_law_door", "_law_side", "_law_ends"]
noncomputable def rd_l_web : TS3 :=
 (tSeq (tAsg (tComp [false, false, false, false, false, false, false, false, false, false, false, false, true, false, false, false] (iRng1 (tCons (tVar 1) tNil)) (gName 12) tTrue (tLst tNil)) (gName 3))
 (tSeq (tAsg tDctNew (gName 4))
 (tSeq (tFor (iRng1 (tCons (tOp rAddF (tOp rSub (tVar 1) (tC (.int 1))) (tVar 2)) tNil)) (gName 5) (tSeq (tAsg (tComp [false, false, false, false, false, false, false, false, false, false, false, false, true, false, false, false] (iRng1 (tCons (tVar 1) tNil)) (gName 12) (tTest (tOp rLt (tCB rLen (tCons (tOp rIxF (tVar 3) (tVar 12)) tNil)) (tC (.int 5)))) (tVar 12)) (gName 6))
 (tSeq (tIfS (tTest (tOp rEqA (tVar 6) (tLst tNil))) tCont tNext)
 (tSeq (tAsg (tOp rIxF (tVar 6) (tCall sp_l_take (tCons (tVar 0) (tCons (tCB rLen (tCons (tVar 6) tNil)) tNil)))) (gName 7))
 (tSeq (tAsg (tOp rIxF (tVar 6) (tCall sp_l_take (tCons (tVar 0) (tCons (tCB rLen (tCons (tVar 6) tNil)) tNil)))) (gName 8))
 (tSeq (tIfS (tTest (tOp rLt (tVar 5) (tOp rSub (tVar 1) (tC (.int 1))))) (tSeq (tAsg (tOp rAddF (tVar 5) (tC (.int 1))) (gName 8))
 (tSeq (tAsg (tComp [false, false, false, false, false, false, false, false, false, false, false, false, true, false, false, false] (iSeq (tVar 6)) (gName 12) (tTest (tOp rLeF (tVar 12) (tVar 5))) (tVar 12)) (gName 9))
 (tAsg (tOp rIxF (tVar 9) (tCall sp_l_take (tCons (tVar 0) (tCons (tCB rLen (tCons (tVar 9) tNil)) tNil)))) (gName 7)))) tNext)
 (tSeq (tAsg (tAndV (tOp rGe (tVar 5) (tOp rSub (tVar 1) (tC (.int 1)))) (tOp rEqA (tCall sp_l_take (tCons (tVar 0) (tCons (tC (.int 4)) tNil))) (tC (.int 0)))) (gName 10))
 (tSeq (tAsg (tVar 10) (gSub (tVar 4) (tVar 5) rSetF))
 (tSeq (tDrop (tBM "list" rInsert (tOp rIxF (tVar 3) (tVar 7)) (tCons (tCall sp_l_take (tCons (tVar 0) (tCons (tOp rAddF (tCB rLen (tCons (tOp rIxF (tVar 3) (tVar 7)) tNil)) (tC (.int 1))) tNil))) (tCons (tTup (tCons (tVar 5) (tCons (tC (.int 0)) tNil))) tNil))))
 (tIfS (tNot (tTru rTru (tVar 10))) (tDrop (tBM "list" rInsert (tOp rIxF (tVar 3) (tVar 8)) (tCons (tCall sp_l_take (tCons (tVar 0) (tCons (tOp rAddF (tCB rLen (tCons (tOp rIxF (tVar 3) (tVar 8)) tNil)) (tC (.int 1))) tNil))) (tCons (tTup (tCons (tVar 5) (tCons (tC (.int 1)) tNil))) tNil)))) tNext))))))))))
 (tSeq (tAsg tDctNew (gName 11))
 (tSeq (tFor (iRng1 (tCons (tVar 1) tNil)) (gName 12) (tFor (iEnum (tCons (tOp rIxF (tVar 3) (tVar 12)) tNil)) (gTup 2 (gCons (gName 13) (gCons (gName 14) gNil))) (tAsg (tTup (tCons (tVar 12) (tCons (tVar 13) tNil))) (gSub (tVar 11) (tVar 14) rSetF))))
 (tRet (tCB rTupleOf (tCons (tComp [false, false, false, false, false, false, false, false, false, false, false, false, false, false, false, true] (iSeq (tVar 3)) (gName 15) tTrue (tCB rTupleOf (tCons (tComp [false, false, false, false, false, true, false, false, false, false, false, false, false, false, true, false] (iSeq (tVar 15)) (gTup 2 (gCons (gName 5) (gCons (gName 14) gNil))) tTrue (tOp rIxF (tVar 11) (tTup (tCons (tVar 5) (tCons (tIf (tTest (tOp rIxF (tVar 4) (tVar 5))) (tVar 14) (tOp rSub (tC (.int 1)) (tVar 14))) tNil))))) tNil))) tNil))))))))
noncomputable def rd_webR : TS3 := (tSeq (tAsg (tAndV (tOp rGe (tVar 5) (tOp rSub (tVar 1) (tC (.int 1)))) (tOp rEqA (tCall sp_l_take (tCons (tVar 0) (tCons (tC (.int 4)) tNil))) (tC (.int 0)))) (gName 10))
 (tSeq (tAsg (tVar 10) (gSub (tVar 4) (tVar 5) rSetF))
 (tSeq (tDrop (tBM "list" rInsert (tOp rIxF (tVar 3) (tVar 7)) (tCons (tCall sp_l_take (tCons (tVar 0) (tCons (tOp rAddF (tCB rLen (tCons (tOp rIxF (tVar 3) (tVar 7)) tNil)) (tC (.int 1))) tNil))) (tCons (tTup (tCons (tVar 5) (tCons (tC (.int 0)) tNil))) tNil))))
 (tIfS (tNot (tTru rTru (tVar 10))) (tDrop (tBM "list" rInsert (tOp rIxF (tVar 3) (tVar 8)) (tCons (tCall sp_l_take (tCons (tVar 0) (tCons (tOp rAddF (tCB rLen (tCons (tOp rIxF (tVar 3) (tVar 8)) tNil)) (tC (.int 1))) tNil))) (tCons (tTup (tCons (tVar 5) (tCons (tC (.int 1)) tNil))) tNil)))) tNext))))
noncomputable def rd_webZ : TS3 := (tSeq (tAsg tDctNew (gName 11))
 (tSeq (tFor (iRng1 (tCons (tVar 1) tNil)) (gName 12) (tFor (iEnum (tCons (tOp rIxF (tVar 3) (tVar 12)) tNil)) (gTup 2 (gCons (gName 13) (gCons (gName 14) gNil))) (tAsg (tTup (tCons (tVar 12) (tCons (tVar 13) tNil))) (gSub (tVar 11) (tVar 14) rSetF))))
 (tRet (tCB rTupleOf (tCons (tComp [false, false, false, false, false, false, false, false, false, false, false, false, false, false, false, true] (iSeq (tVar 3)) (gName 15) tTrue (tCB rTupleOf (tCons (tComp [false, false, false, false, false, true, false, false, false, false, false, false, false, false, true, false] (iSeq (tVar 15)) (gTup 2 (gCons (gName 5) (gCons (gName 14) gNil))) tTrue (tOp rIxF (tVar 11) (tTup (tCons (tVar 5) (tCons (tIf (tTest (tOp rIxF (tVar 4) (tVar 5))) (tVar 14) (tOp rSub (tC (.int 1)) (tVar 14))) tNil))))) tNil))) tNil)))))
theorem rd_web_eq : rd_l_web = (tSeq (tAsg (tComp [false, false, false, false, false, false, false, false, false, false, false, false, true, false, false, false] (iRng1 (tCons (tVar 1) tNil)) (gName 12) tTrue (tLst tNil)) (gName 3))
 (tSeq (tAsg tDctNew (gName 4))
 (tSeq (tFor (iRng1 (tCons (tOp rAddF (tOp rSub (tVar 1) (tC (.int 1))) (tVar 2)) tNil)) (gName 5) (tSeq (tAsg (tComp [false, false, false, false, false, false, false, false, false, false, false, false, true, false, false, false] (iRng1 (tCons (tVar 1) tNil)) (gName 12) (tTest (tOp rLt (tCB rLen (tCons (tOp rIxF (tVar 3) (tVar 12)) tNil)) (tC (.int 5)))) (tVar 12)) (gName 6))
 (tSeq (tIfS (tTest (tOp rEqA (tVar 6) (tLst tNil))) tCont tNext)
 (tSeq (tAsg (tOp rIxF (tVar 6) (tCall sp_l_take (tCons (tVar 0) (tCons (tCB rLen (tCons (tVar 6) tNil)) tNil)))) (gName 7))
 (tSeq (tAsg (tOp rIxF (tVar 6) (tCall sp_l_take (tCons (tVar 0) (tCons (tCB rLen (tCons (tVar 6) tNil)) tNil)))) (gName 8))
 (tSeq (tIfS (tTest (tOp rLt (tVar 5) (tOp rSub (tVar 1) (tC (.int 1))))) (tSeq (tAsg (tOp rAddF (tVar 5) (tC (.int 1))) (gName 8))
 (tSeq (tAsg (tComp [false, false, false, false, false, false, false, false, false, false, false, false, true, false, false, false] (iSeq (tVar 6)) (gName 12) (tTest (tOp rLeF (tVar 12) (tVar 5))) (tVar 12)) (gName 9))
 (tAsg (tOp rIxF (tVar 9) (tCall sp_l_take (tCons (tVar 0) (tCons (tCB rLen (tCons (tVar 9) tNil)) tNil)))) (gName 7)))) tNext)
 rd_webR))))))
 rd_webZ))) := rfl
theorem web_rest {E : Ends3} {b D d : Addr} {rs : List Addr} {n m k r1 r2 c : Nat} {v6 v9 v10 v11 v12 v13 v14 v15 : Option T} {L : List (Nat × Nat × Nat)} {Hs : Web} {kvs : List (L2.Key × T)} {G : Gp} (hn : n ≤ 12) (hk : k < 20) (h1 : r1 < n) (h2 : r2 < n) (w : WI n k L kvs) (hh : HalfL L n Hs) (hR : RowsAt G D Hs rs) (hnd : (D :: rs).Nodup) (hbD : b ∉ D :: rs) (hdD : d ∉ D :: rs) (hbd : b ≠ d) (hd : G d = some (.dck kvs)) (hb : BoxAt G b c) (hc : c + 10 < 2 ^ 40)
  (kk : ∀ lp L' Hs' G' v10, L' = (L ++ [(r1, k, 0)]) ++ (if lp = true then [] else [(r2, k, 1)]) → HalfL L' n Hs' → RowsAt G' D Hs' rs → G' d = some (.dck (putT kvs (.inl (k : Nat)) (.bl lp))) → BoxAt G' b (c + 3) → (∀ a o, a ≠ b → a ≠ d → a ∉ D :: rs → G a = some o → G' a = some o) → E.nx [some (.ref b), some (.int n), some (.int m), some (.ref D), some (.ref d), some (.int k), v6, some (.int r1), some (.int r2), v9, v10, v11, v12, v13, v14, v15] G') :
  rd_webR E [some (.ref b), some (.int n), some (.int m), some (.ref D), some (.ref d), some (.int k), v6, some (.int r1), some (.int r2), v9, v10, v11, v12, v13, v14, v15] G := by
 have hs := sz
 wp_walk using 1, rd_webR, rEqA
 have hkl := w.kl
 have hln := w.ln
 have fin : ∀ (lp : Bool) G1 c1 (K1 : Gp → Prop), BoxAt G1 b c1 → c1 ≤ c + 1 → Keep b G G1 → (∀ G2, (if lp = false then InsP b D r2 k 1 G2 (fun G3 => E.nx [some (.ref b), some (.int n), some (.int m), some (.ref D), some (.ref d), some (.int k), v6, some (.int r1), some (.int r2), v9, some (.bl lp), v11, v12, v13, v14, v15] G3) else E.nx [some (.ref b), some (.int n), some (.int m), some (.ref D), some (.ref d), some (.int k), v6, some (.int r1), some (.int r2), v9, some (.bl lp), v11, v12, v13, v14, v15] G2) → K1 G2) → ∃ G', setR G1 (.ref d) (.int (k : Nat)) (.bl lp) = some G' ∧ InsP b D r1 k 0 G' K1 := by
  intro lp G1 c1 K1 bx hc1 kp hK1
  have hd1 := kp _ _ hbd.symm hd
  have hdn : ∀ a, a ∈ D :: rs → a ≠ d := fun a ha e => hdD (e ▸ ha)
  refine ⟨_, setR_dck hd1 (by omega), ?_⟩
  have R1 : RowsAt (gup G1 d (.dck (putT kvs (.inl (k : Nat)) (.bl lp)))) D Hs rs := by
   have R0 := hR.keep kp hbD
   exact ⟨by rw [gup_ne (hdn D (List.mem_cons_self ..))]; exact R0.1, R0.2.1, fun i r e => by
    obtain ⟨h0, e1, e2⟩ := R0.2.2 i r e
    exact ⟨h0, e1, by rw [gup_ne (hdn r (List.mem_cons_of_mem _ (List.mem_of_getElem? e)))]; exact e2⟩⟩
  refine ins_ok (s := 0) (c := c1) rfl h1 hh (by omega) R1 hnd hbD (bx.gup hbd) (by omega) fun Hs1 G2 hh1 R2 b2 g2 => hK1 G2 ?_
  have hd2 := g2 d _ hbd.symm hdD gup_same
  cases lp with
  | true =>
   rw [if_neg (by decide)]
   refine kk true _ Hs1 G2 _ rfl (by simpa using hh1) R2 hd2 (b2.mono (by omega)) fun a o e1 e2 e3 e4 => ?_
   exact g2 a o e1 e3 (by rw [gup_ne e2]; exact kp _ _ e1 e4)
  | false =>
   rw [if_pos rfl]
   refine ins_ok (s := 1) (c := c1 + 1) rfl h2 hh1 (by simp; omega) R2 hnd hbD b2 (by omega) fun Hs2 G3 hh2 R3 b3 g3 => ?_
   refine kk false _ Hs2 G3 _ rfl (by simpa using hh2) R3 (g3 d _ hbd.symm hdD hd2) (b3.mono (by omega)) fun a o e1 e2 e3 e4 => ?_
   exact g3 a o e1 e3 (g2 a o e1 e3 (by rw [gup_ne e2]; exact kp _ _ e1 e4))
 split
 ·refine ⟨b, 4, c, rfl, hb, by omega, by decide, by decide, fun z G1 z0 z1 bx kp => ⟨decide (z = 0), eqG_z, ?_⟩⟩
  exact fin (decide (z = 0)) G1 (c + 1) _ bx (Nat.le_refl _) kp fun _ h => h
 ·exact fin false G c _ hb (by omega) (.refl _ _) fun G2 h => by rw [if_pos rfl] at h; exact h
noncomputable def sp_l_web : Sp3 := fun xs G Q => ∃ (b : Addr) (n m c : Nat), xs = [.ref b, .int n, .int m] ∧ BoxAt G b c ∧ c + 300 < 2 ^ 40 ∧ 1 ≤ n ∧ n ≤ 12 ∧ m ≤ 3 ∧ ∀ (W : Web) G', Fine W → W.length = n → BoxAt G' b (c + 100) → Keep b G G' → Q (encW W) G'
theorem numT_at {xs : List T} {j : Nat} {y : T} (h : (numT xs)[j]? = some y) : ∃ x, xs[j]? = some x ∧ y = .tup [.int j, x] := by
 have hj : j < xs.length := by have := (List.getElem?_eq_some_iff.mp h).1; rwa [numT_length] at this
 refine ⟨xs[j], List.getElem?_eq_getElem hj, ?_⟩
 rw [numT_get (List.getElem?_eq_getElem hj)] at h
 cases h; rfl
noncomputable def Has (n : Nat) (kvs : List (L2.TKey × T)) (x : Nat × Nat) : Prop := ∃ e : Nat × Nat, valT kvs (keyE x) = some (encE e) ∧ e.1 < n
theorem Has.put {n : Nat} {kvs : List (L2.TKey × T)} {x y e : Nat × Nat} (h : Has n kvs x) (he : e.1 < n) : Has n (putT kvs (keyE y) (encE e)) x := by
 obtain ⟨f, h1, h2⟩ := h
 unfold Has
 rw [valT_put]
 by_cases z : keyE y = keyE x
 ·rw [if_pos z]; exact ⟨e, rfl, he⟩
 ·rw [if_neg z]; exact ⟨f, h1, h2⟩
theorem Has.self {n : Nat} {kvs : List (L2.TKey × T)} {y e : Nat × Nat} (he : e.1 < n) : Has n (putT kvs (keyE y) (encE e)) y := ⟨e, by rw [valT_put, if_pos rfl], he⟩
theorem ixR_dck {G : Gp} {p : Addr} {kvs : List (L2.Key × T)} {k : Int} {t : T} (h : G p = some (.dck kvs)) (ht : valT kvs (.inl k) = some t) : ixR G (.ref p) (.int k) = some t := by
 simp only [ixR, seqT, h, asL, dAt, keyOf, ht]
theorem webP {n : Nat} : ∀ (ts : List T), (∀ t, t ∈ ts → ∃ es : List (Nat × Nat), t = encR es ∧ es.length ≤ 100 ∧ ∀ e, e ∈ es → e.1 < n) → ∃ W : Web, ts = W.map encR ∧ ∀ es, es ∈ W → es.length ≤ 100 ∧ ∀ e, e ∈ es → e.1 < n
 | [], _ => ⟨[], rfl, fun es h => by cases h⟩
 | t :: ts, h => by
  obtain ⟨es, rfl, h1⟩ := h t (by simp)
  obtain ⟨W, rfl, h2⟩ := webP ts fun t ht => h t (List.mem_cons_of_mem _ ht)
  refine ⟨es :: W, rfl, fun fs hf => ?_⟩
  rcases (List.mem_cons.mp hf) with rfl | hf
  ·exact h1
  ·exact h2 fs hf
theorem rowP {n : Nat} : ∀ (ts : List T), (∀ t, t ∈ ts → ∃ e : Nat × Nat, t = encE e ∧ e.1 < n) → ∃ es : List (Nat × Nat), ts = es.map encE ∧ ∀ e, e ∈ es → e.1 < n
 | [], _ => ⟨[], rfl, fun es h => by cases h⟩
 | t :: ts, h => by
  obtain ⟨e, rfl, h1⟩ := h t (by simp)
  obtain ⟨es, rfl, h2⟩ := rowP ts fun t ht => h t (List.mem_cons_of_mem _ ht)
  refine ⟨e :: es, rfl, fun f hf => ?_⟩
  rcases (List.mem_cons.mp hf) with rfl | hf
  ·exact h1
  ·exact h2 f hf
theorem web_end {Q : VK3} {b D d : Addr} {rs : List Addr} {n k : Nat} {m : Int} {v5 v6 v7 v8 v9 v10 v12 : Option T} {L : List (Nat × Nat × Nat)} {Hs : Web} {kvs : List (L2.Key × T)} {G : Gp} (hn : n ≤ 12) (w : WI n k L kvs) (hh : HalfL L n Hs) (hR : RowsAt G D Hs rs) (hd : G d = some (.dck kvs)) (hk : k < 20)
  (kk : ∀ (W : Web) G', Fine W → W.length = n → Sub G G' → Q (encW W) G') :
  rd_webZ { nx := fun _ G' => Q .non G', rt := Q } [some (.ref b), some (.int n), some (.int m), some (.ref D), some (.ref d), v5, v6, v7, v8, v9, v10, none, v12, none, none, none] G := by
 have hs := sz
 have hln := w.ln
 wp_walk using 1, rd_webZ, tDctNew, tFor_at, iRng1, iEnum
 refine .inl fun p hp => ⟨by omega, by omega, ?_⟩
 rw [show ((n : Nat) : Int).toNat = n by omega]
 let J1 : Nat → St3 → Gp → Prop := fun r τ G' => ∃ (v12 v13 v14 : Option T) (ws : List (L2.TKey × T)), τ = [some (.ref b), some (.int n), some (.int m), some (.ref D), some (.ref d), v5, v6, v7, v8, v9, v10, some (.ref p), v12, v13, v14, none] ∧ G' p = some (.dct ws) ∧ ws.length ≤ 100 * r ∧ (∀ r', r' < r → ∀ x, x ∈ row Hs r' → Has n ws x) ∧ Sub G G'
 refine ⟨J1, ?_, ?_, ?_, ?_⟩
 ·exact xi4 _ _ _ [] rfl ⟨gup_same, Nat.zero_le _, fun r hr => absurd hr (Nat.not_lt_zero _), .new hp⟩
 ·intros; trivial
 ·intro r y τ G1 hy; apply xe4; intro v12 v13 v14 ws; apply ae4; intro h1 h2 h3 s1
  obtain ⟨hr, rfl⟩ := rngT_get hy
  have hrl : r < Hs.length := by rw [hh.len]; exact hr
  have hrow : Hs[r]? = some (row Hs r) := by rw [row, List.getElem?_eq_getElem hrl]; rfl
  have hlen := hh.len_le hrow
  have R1 := hR.sub s1
  obtain ⟨a, a1, a2, a3⟩ := R1.get hrl
  wp_walk using 1, tFor_at, iEnum, ixR_lst R1.1, a2
  have hla : listT G1 (.ref a) = some ((row Hs r).map encE) := by rw [show listT G1 (.ref a) = asL (G1 a) from rfl, a3]; rfl
  refine ⟨_, hla, ?_⟩
  let J2 : Nat → St3 → Gp → Prop := fun i τ G' => ∃ (v13 v14 : Option T) (ws : List (L2.TKey × T)), τ = [some (.ref b), some (.int n), some (.int m), some (.ref D), some (.ref d), v5, v6, v7, v8, v9, v10, some (.ref p), some (.int r), v13, v14, none] ∧ G' p = some (.dct ws) ∧ ws.length ≤ 100 * r + i ∧ (∀ r', r' < r → ∀ x, x ∈ row Hs r' → Has n ws x) ∧ (∀ x, x ∈ (row Hs r).take i → Has n ws x) ∧ Sub G G'
  refine ⟨J2, ?_, ?_, ?_, ?_⟩
  ·exact xi3 _ _ ws rfl ⟨h1, h2, h3, fun x hx => by simp at hx, s1⟩
  ·intro i τ G' hi; apply xe3; intro v13 v14 ws; apply ae5; intro i1 i2 i3 i4 s2
   obtain ⟨a', b1, b2, b3⟩ := (hR.sub s2).get hrl
   rw [a1] at b1; cases b1
   rw [show listT G' (.ref a) = asL (G' a) from rfl, b3]; rfl
  ·intro i y τ G2 hy; apply xe3; intro v13 v14 ws; apply ae5; intro i1 i2 i3 i4 s2
   obtain ⟨z, hz, rfl⟩ := numT_at hy
   obtain ⟨x, hx, rfl⟩ := map_get hz
   have hi : i < (row Hs r).length := (List.getElem?_eq_some_iff.mp hx).1
   wp_walk using 1, tSeq
   refine ⟨by omega, _, setR_dct i1 (ks := keyE x) rfl (by omega), xi3 _ _ (putT ws (keyE x) (encE (r, i))) rfl ⟨gup_same, by have := putT_len ws (keyE x) (encE (r, i)); omega, fun r' hr' x' hx' => (i3 r' hr' x' hx').put hr, fun x' hx' => ?_, s2.over hp⟩⟩
   rw [List.take_succ, hx] at hx'
   rcases (List.mem_append.mp hx') with hx' | hx'
   ·exact (i4 x' hx').put hr
   ·have : x' = x := by simpa using hx'
    subst this; exact .self hr
  ·intro τ G2; apply xe3; intro v13 v14 ws; apply ae5; intro i1 i2 i3 i4 s2
   rw [numT_len, List.length_map, List.take_length] at i4
   rw [numT_len, List.length_map] at i2
   refine xi4 _ _ _ ws rfl ⟨i1, by omega, fun r' hr' x hx => ?_, s2⟩
   by_cases z : r' = r
   ·subst z; exact i4 x hx
   ·exact i3 r' (by omega) x hx
 ·intro τ G1; apply xe4; intro v12 v13 v14 ws; apply ae4; intro h1 h2 h3 s1
  rw [rngT_len] at h3
  have R1 := hR.sub s1
  wp_walk using 1, iSeq, seqT_lst R1.1
  have hrn : rs.length = n := by rw [hR.2.1]; exact hh.len
  refine comp_some (fun t => ∃ es : List (Nat × Nat), t = encR es ∧ es.length ≤ 100 ∧ ∀ e, e ∈ es → e.1 < n) (by rw [List.length_map]; omega) (fun G' s => seqT_lst (s _ _ R1.1)) ?_ ?_
  ·intro i x hx G2 K K0 s2 hK
   obtain ⟨a, ha, rfl⟩ := map_get hx
   have hi : i < n := by rw [← hrn]; exact (List.getElem?_eq_some_iff.mp ha).1
   have hrl : i < Hs.length := by rw [hh.len]; exact hi
   have hrow : Hs[i]? = some (row Hs i) := by rw [row, List.getElem?_eq_getElem hrl]; rfl
   have hlen := hh.len_le hrow
   obtain ⟨a', b1, b2, b3⟩ := (R1.sub s2).get hrl
   rw [ha] at b1; cases b1
   wp_walk using 1, iSeq, seqT_lst b3
   refine comp_some (fun t => ∃ e : Nat × Nat, t = encE e ∧ e.1 < n) (by rw [List.length_map]; omega) (fun G' s => seqT_lst (s _ _ b3)) ?_ ?_
   ·intro j y hy G3 K2 K3 s3 hK2
    obtain ⟨x, hxj, rfl⟩ := map_get hy
    have hxL : (i, x) ∈ L := hh.mem (en_of hrow hxj)
    obtain ⟨lp, l1, l2, l3⟩ := w.ld _ hxL
    obtain ⟨_, m2, _⟩ := w.rm _ hxL
    have hd3 := s3 _ _ (s2 _ _ (s1 _ _ hd))
    have hp3 := s3 _ _ (s2 _ _ h1)
    have has : ∀ r y, (r, y) ∈ L → Has n ws y := fun r y hy => by
     have hr := (w.rm _ hy).1
     obtain ⟨q, hq⟩ := hh.of hr hy
     obtain ⟨es, e1, e2⟩ := en_some hq
     exact h3 r hr y (by rw [row_of e1]; exact List.mem_of_getElem? e2)
    wp_walk using 1, encE, ixR_dck hd3 l1
    cases lp with
    | true =>
     obtain ⟨e, e1, e2⟩ := has _ _ hxL
     wp_walk using 1, tSeq
     exact ⟨by omega, _, ixR_dct hp3 (ks := keyE x) rfl e1, hK2 _ G3 ⟨e, rfl, e2⟩ (.refl _)⟩
    | false =>
     obtain ⟨r', hr'⟩ := l3 rfl
     obtain ⟨e, e1, e2⟩ := has _ _ hr'
     wp_walk using 1, tSeq
     refine ⟨by omega, _, ixR_dct hp3 (ks := keyE (x.1, 1 - x.2)) ?_ e1, hK2 _ G3 ⟨e, rfl, e2⟩ (.refl _)⟩
     rw [show (1 : Int) - (x.2 : Nat) = ((1 - x.2 : Nat) : Int) by have : x.2 ≤ 1 := m2; omega]; rfl
   ·intro E ts G3 hE hE3 hl hts s3
    obtain ⟨es, rfl, hes⟩ := rowP ts hts
    simp only [List.length_map] at hl
    exact ⟨_, seqT_lst hE3, hK _ G3 ⟨es, rfl, by omega, hes⟩ s3⟩
  ·intro E ts G2 hE hE2 hl hts s2
   obtain ⟨W, rfl, hW⟩ := webP ts hts
   simp only [List.length_map] at hl
   refine ⟨_, seqT_lst hE2, kk W G2 ⟨by omega, fun r es h => ?_, fun r i s j h => ?_⟩ (by omega) (s1.trans s2)⟩
   ·have := (hW es (List.mem_of_getElem? h)).1; omega
   ·obtain ⟨es, e1, e2⟩ := en_some h
    have := (hW es (List.mem_of_getElem? e1)).2 (s, j) (List.mem_of_getElem? e2)
    show s < W.length
    have : s < n := this
    omega
theorem rdok_l_web : ∀ xs G Q, sp_l_web xs G Q → rd_l_web { nx := fun _ G' => Q .non G', rt := Q } (start3 N_l_web xs) G := by
 intro xs G Q; apply xe4; intro b n m c; apply ae6; intro hb hc hn1 hn2 hm kk
 rw [show start3 N_l_web [.ref b, .int n, .int m] = [some (.ref b), some (.int n), some (.int m), none, none, none, none, none, none, none, none, none, none, none, none, none] from rfl]
 have hs := sz
 rw [rd_web_eq]
 wp_walk using 1, tFor_at, iRng1
 refine ⟨by omega, by omega, ?_⟩
 obtain ⟨bo, hbo⟩ := hb.some
 rw [show ((n : Nat) : Int).toNat = n by omega, rngT_map]
 refine comp_fresh (fun _ => []) (by simp; omega) (fun _ _ => trivial) ?_ ?_
 ·intro x x' hx G' K K0 s hk
  wp_walk using 1, tSeq
  exact ⟨by omega, fun p hp => hk p _ hp gup_same (.new hp)⟩
 ·intro D rs G1 hD hD1 s1 hrl hnd hrs
  rw [List.length_range] at hrl
  wp_walk using 1, tDctNew
  refine .inr fun d hd => ⟨by omega, by omega, ?_⟩
  have hdG := s1.none hd
  have hfr : ∀ r, r ∈ D :: rs → G r = none := by
   intro r z
   rcases (List.mem_cons.mp z) with rfl | z
   ·exact hD
   obtain ⟨j, hj⟩ := List.getElem?_of_mem z
   have hjl : j < rs.length := (List.getElem?_eq_some_iff.mp hj).1
   exact (hrs j r j hj (by rw [List.getElem?_range (by omega)])).1
  have hsm : ∀ r, r ∈ D :: rs → ∃ o, G1 r = some o := by
   intro r z
   rcases (List.mem_cons.mp z) with rfl | z
   ·exact ⟨_, hD1⟩
   obtain ⟨j, hj⟩ := List.getElem?_of_mem z
   have hjl : j < rs.length := (List.getElem?_eq_some_iff.mp hj).1
   exact ⟨_, (hrs j r j hj (by rw [List.getElem?_range (by omega)])).2⟩
  have hbD : b ∉ D :: rs := fun z => by have := hfr b z; rw [hbo] at this; cases this
  have hdD : d ∉ D :: rs := fun z => by obtain ⟨o, ho⟩ := hsm d z; rw [hd] at ho; cases ho
  have hbd : b ≠ d := ne_some_none (s1 _ _ hbo) hd
  rw [show (((n : Nat) : Int) - 1 + (m : Nat)).toNat = n - 1 + m by omega]
  let J1 : Nat → St3 → Gp → Prop := fun k τ G' => ∃ (v5 v6 v7 v8 v9 v10 v12 : Option T) (L : List (Nat × Nat × Nat)) (Hs : Web) (kvs : List (L2.Key × T)), τ = [some (.ref b), some (.int n), some (.int m), some (.ref D), some (.ref d), v5, v6, v7, v8, v9, v10, none, v12, none, none, none] ∧ WI n k L kvs ∧ HalfL L n Hs ∧ RowsAt G' D Hs rs ∧ G' d = some (.dck kvs) ∧ BoxAt G' b (c + 6 * k) ∧ Keep b G G'
  refine ⟨J1, ?_, ?_, ?_, ?_⟩
  ·refine xi10 none none none none none none none [] (List.replicate n []) [] rfl ⟨⟨fun x hx => (by cases hx), fun x hx => (by cases hx), Nat.le_refl _, fun _ x hx => (by cases hx), Nat.le_refl _⟩, ⟨by simp, ?_⟩, ⟨?_, by simp [hrl], ?_⟩, gup_same, (hb.sub s1).gup hbd, (Keep.sub s1).over hdG⟩
   ·intro r hs' h
    rw [List.getElem?_replicate] at h
    split at h
    ·cases h; simp
    ·cases h
   ·rw [gup_ne fun e => hdD (by rw [← e]; exact List.mem_cons_self ..)]; exact hD1
   ·intro i r h
    have hi : i < n := by rw [← hrl]; exact (List.getElem?_eq_some_iff.mp h).1
    exact ⟨[], by simp [hi], by rw [gup_ne fun e => hdD (by rw [← e]; exact List.mem_cons_of_mem _ (List.mem_of_getElem? h))]; exact (hrs i r i h (by simp [hi])).2⟩
  ·intros; trivial
  ·intro k y τ G2 hy; apply xe10; intro v5 v6 v7 v8 v9 v10 v12 L Hs kvs; apply ae6; intro hw hh hR hdk hbx hkp
   obtain ⟨hk, rfl⟩ := rngT_get hy
   have hkn : k < 20 := by omega
   have fin : ∀ (r1 r2 : Nat) G8 c8 (u6 u9 : Option T), r1 < n → r2 < n → (k + 1 < n → r1 ≤ k + 1 ∧ r2 ≤ k + 1) → BoxAt G8 b c8 → c8 + 3 ≤ c + 6 * (k + 1) → Keep b G2 G8 → rd_webR { nx := J1 (k + 1), rt := Q, bk := rd_webZ { nx := fun _ G' => Q .non G', rt := Q }, ct := J1 (k + 1) } [some (.ref b), some (.int n), some (.int m), some (.ref D), some (.ref d), some (.int k), u6, some (.int r1), some (.int r2), u9, v10, none, v12, none, none, none] G8 := by
    intro r1 r2 G8 c8 u6 u9 h1 h2 ht bx hc8 kp
    refine web_rest hn2 hkn h1 h2 hw hh (hR.keep kp hbD) hnd hbD hdD hbd (kp _ _ hbd.symm hdk) bx (by omega) fun lp L' Hs' G' u10 eL hh' R' hd' b' g' => ?_
    refine xi10 _ _ _ _ _ _ _ L' Hs' _ rfl ⟨by rw [eL]; exact hw.step h1 h2 ht, hh', R', hd', b'.mono hc8, fun a o ha ho => ?_⟩
    exact g' a o ha (ne_some_none ho hdG) (fun z => by rw [hfr a z] at ho; cases ho) (kp _ _ ha (hkp _ _ ha ho))
   wp_walk using 1, iRng1, rEqA, iSeq, tCont
   refine ⟨by omega, by omega, ?_⟩
   rw [show ((n : Nat) : Int).toNat = n by omega, rngT_map]
   refine comp_opt (fun r => if (row Hs r).length < 5 then some (T.int (r : Nat)) else none) (by simp; omega) (fun _ _ => trivial) ?_ ?_
   ·intro i r hr G3 K K0 s3 hK hK0
    obtain ⟨q1, q2⟩ := List.getElem?_eq_some_iff.mp hr
    simp at q1 q2; subst q2
    obtain ⟨a, a1, a2, a3⟩ := (hR.sub s3).get (x := i) (by rw [hh.len]; exact q1)
    wp_walk using 1, ixR_lst (hR.sub s3).1, a2, seqT_lst a3, List.length_map
    by_cases h5 : (row Hs i).length < 5
    ·rw [if_pos (by omega)]
     exact hK _ _ (by rw [if_pos h5]) (.refl _)
    ·rw [if_neg (by omega)]
     exact hK0 (by rw [if_neg h5]) _ (.refl _)
   ·intro f G3 hf hf3 s3
    obtain ⟨F, hF1, hF2⟩ : ∃ F : List Nat, (List.range n).filterMap (fun r => if (row Hs r).length < 5 then some (T.int (r : Nat)) else none) = intsN F ∧ F = (List.range n).filter fun r => decide ((row Hs r).length < 5) := by
     refine ⟨_, ?_, rfl⟩
     generalize List.range n = l
     induction l with
     | nil => rfl
     | cons a as ih =>
      rw [List.filterMap_cons, List.filter_cons]
      by_cases h : (row Hs a).length < 5 <;> simp [h, ih, intsN]
    rw [hF1] at hf3
    have hFm : ∀ r, r ∈ F ↔ r < n ∧ (row Hs r).length < 5 := fun r => by rw [hF2, List.mem_filter, List.mem_range]; simp
    have hFl : F.length ≤ n := by rw [hF2]; have := List.length_filter_le (fun r => decide ((row Hs r).length < 5)) (List.range n); rw [List.length_range] at this; exact this
    refine ⟨by omega, fun z hz => ?_⟩
    have hfz : f ≠ z := ne_some_none hf3 hz
    refine ⟨decide (F = []), eqG_lists (b := []) (by rw [gup_ne hfz]; exact hf3) gup_same, ?_⟩
    have s4 : Sub G2 (gup G3 z (.lst [])) := s3.trans (.new hz)
    have hf4 : gup G3 z (.lst []) f = some (.lst (intsN F)) := by rw [gup_ne hfz]; exact hf3
    generalize gup G3 z (.lst []) = G4 at s4 hf4 ⊢
    have hfb : f ≠ b := fun e => by rw [e] at hf; obtain ⟨o1, ho1⟩ := hbx.some; rw [hf] at ho1; cases ho1
    by_cases hFe : F = []
    ·rw [if_pos (decide_eq_true hFe)]
     refine xi10 _ _ _ _ _ _ _ L Hs kvs rfl ⟨hw.skip ?_, hh, hR.sub s4, s4 _ _ hdk, (hbx.sub s4).mono (by omega), hkp.trans (.sub s4)⟩
     refine Nat.le_of_not_lt fun hkn' => ?_
     obtain ⟨r, r1, r2⟩ := hw.free hh (by omega)
     have := (hFm r).mpr ⟨by omega, r2⟩
     rw [hFe] at this; cases this
    rw [if_neg (by simpa using hFe)]
    have hF1 : 1 ≤ F.length := by
     cases hF : F with
     | nil => exact absurd hF hFe
     | cons a F => simp
    have pick : ∀ (A : List Nat) (x : Int), 0 ≤ x → x < ((intsN A).length : Int) → ∃ r, r ∈ A ∧ L2.atI (intsN A) x = some (.int (r : Nat)) := by
     intro A x x0 x1
     have hl : x.toNat < A.length := by simp [intsN] at x1; omega
     exact ⟨A[x.toNat], List.getElem_mem hl, by rw [atZ x0]; simp [intsN, hl]⟩
    have iL : (intsN F).length = F.length := by simp [intsN]
    refine ⟨_, seqT_lst hf4, b, _, _, rfl, hbx.sub s4, by omega, by rw [iL]; omega, by rw [iL]; omega, fun x1 G5 x10 x11 bx5 kp5 => ?_⟩
    obtain ⟨r1, hr1, ha1⟩ := pick F x1 x10 x11
    have hf5 := kp5 _ _ hfb hf4
    refine ⟨_, (ixR_lst hf5).trans ha1, _, seqT_lst hf5, b, _, _, rfl, bx5, by omega, by rw [iL]; omega, by rw [iL]; omega, fun x2 G6 x20 x21 bx6 kp6 => ?_⟩
    obtain ⟨r2, hr2, ha2⟩ := pick F x2 x20 x21
    have hf6 := kp6 _ _ hfb hf5
    have kp26 : Keep b G2 G6 := (Keep.sub s4).trans (kp5.trans kp6)
    refine ⟨_, (ixR_lst hf6).trans ha2, ?_⟩
    split
    ·rename_i hkn'
     refine ⟨_, seqT_lst hf6, ?_⟩
     refine comp_opt (es := F) (enc := fun r : Nat => T.int r) (fun r => if r ≤ k then some (T.int (r : Nat)) else none) (by omega) (fun G' s => seqT_lst (s _ _ hf6)) ?_ ?_
     ·intro i r hr G7 K K0 s7 hK hK0
      wp_walk using 1, rLeF
      by_cases h5 : r ≤ k
      ·rw [if_pos (by omega)]
       exact hK _ _ (by rw [if_pos h5]) (.refl _)
      ·rw [if_neg (by omega)]
       exact hK0 (by rw [if_neg h5]) _ (.refl _)
     ·intro g G7 hg hg7 s7
      obtain ⟨A, hA1, hA2⟩ : ∃ A : List Nat, F.filterMap (fun r => if r ≤ k then some (T.int (r : Nat)) else none) = intsN A ∧ A = F.filter fun r => decide (r ≤ k) := by
       refine ⟨_, ?_, rfl⟩
       generalize F = l
       induction l with
       | nil => rfl
       | cons a as ih =>
        rw [List.filterMap_cons, List.filter_cons]
        by_cases h : a ≤ k <;> simp [h, ih, intsN]
      rw [hA1] at hg7
      have hAm : ∀ r, r ∈ A ↔ r ∈ F ∧ r ≤ k := fun r => by rw [hA2, List.mem_filter]; simp
      have hAl : A.length ≤ F.length := by rw [hA2]; exact List.length_filter_le _ _
      have hA1 : 1 ≤ A.length := by
       obtain ⟨r, q1, q2⟩ := hw.free hh (by omega)
       exact List.length_pos_of_mem ((hAm r).mpr ⟨(hFm r).mpr ⟨by omega, q2⟩, by omega⟩)
      have iA : (intsN A).length = A.length := by simp [intsN]
      have hgb : g ≠ b := fun e => by rw [e] at hg; obtain ⟨o1, ho1⟩ := bx6.some; rw [hg] at ho1; cases ho1
      refine ⟨_, seqT_lst hg7, b, _, _, rfl, bx6.sub s7, by omega, by rw [iA]; omega, by rw [iA]; omega, fun x3 G8 x30 x31 bx8 kp8 => ?_⟩
      obtain ⟨r3, hr3, ha3⟩ := pick A x3 x30 x31
      refine ⟨_, (ixR_lst (kp8 _ _ hgb hg7)).trans ha3, ?_⟩
      have h3 := (hAm r3).mp hr3
      have h3n := (hFm r3).mp h3.1
      have := fin r3 (k + 1) G8 _ (some (.ref f)) (some (.ref g)) h3n.1 (by omega) (fun _ => by omega) bx8 (by omega) (kp26.trans ((Keep.sub s7).trans kp8))
      exact this
    ·have h1 := (hFm r1).mp hr1
     have h2 := (hFm r2).mp hr2
     exact fin r1 r2 G6 _ (some (.ref f)) v9 h1.1 h2.1 (fun _ => by omega) bx6 (by omega) kp26
  ·intro τ G2; apply xe10; intro v5 v6 v7 v8 v9 v10 v12 L Hs kvs; apply ae6; intro hw hh hR hdk hbx hkp
   rw [rngT_len] at hw hbx
   refine web_end hn2 hw hh hR hdk (by omega) fun W G3 fW hW s3 => ?_
   exact kk W G3 fW hW ((hbx.sub s3).mono (by omega)) (hkp.trans (.sub s3))
noncomputable abbrev sp_l_same : Sp3 := sp_al 3
theorem lastR_cons {r : Nat} {e : Nat × Nat} {es : List (Nat × Nat)} : lastR r (e :: es) = lastR e.1 es := by
 cases es with
 | nil => rfl
 | cons f es => unfold lastR; rw [List.getLast?_cons_cons, List.getLast?_cons]; rfl
theorem last_go {W : Web} : ∀ (ss : List Stp) (r : Nat) (es : List (Nat × Nat)), goW W r (ss.map (·.1)) = some es → lastR r es = lastOf W r ss
 | [], r, es, h => by cases h; rfl
 | s :: ss, r, es, h => by
  rw [List.map_cons, goW_cons] at h
  cases he : en W r s.1 with
  | none => rw [he] at h; cases h
  | some e =>
   rw [he, Option.bind_some] at h
   cases hf : goW W e.1 (ss.map (·.1)) with
   | none => rw [hf] at h; cases h
   | some fs =>
    rw [hf] at h; cases h
    rw [lastOf_cons he, lastR_cons]
    exact last_go ss e.1 fs hf
theorem gone0 {r : Nat} {es : List (Nat × Nat)} : ∃ t, goneT r es = .tup [.int (lastR r es : Nat), t] := by
 unfold goneT lastR
 cases es.getLast? with
 | none => exact ⟨_, rfl⟩
 | some e => exact ⟨_, rfl⟩
noncomputable def fitB (W : Web) (S : Story) (r : Nat) : Bool := @decide (Fit W r S) (Classical.propDecidable _)
theorem fitB_iff {W : Web} {S : Story} {r : Nat} : fitB W S r = true ↔ Fit W r S := by unfold fitB; simp
noncomputable def stR (W : Web) (S : Story) : List Nat := (List.range W.length).filter (fitB W S)
noncomputable def stL (W : Web) (S : Story) : List (Nat × Nat) := (stR W S).map fun r => (r, lastOf W r S.2)
theorem fm_filter {α β : Type} {p : α → Bool} {f : α → β} : ∀ l : List α, l.filterMap (fun r => if p r = true then some (f r) else none) = (l.filter p).map f
 | [] => rfl
 | a :: l => by
  rw [List.filterMap_cons, List.filter_cons]
  by_cases h : p a = true
  ·rw [if_pos h, if_pos h, List.map_cons, fm_filter l]
  ·rw [if_neg h, if_neg h, fm_filter l]
noncomputable def sp_stands : Sp3 := fun xs G Q => ∃ (W : Web) (S : Story), xs = [encW W, encSy S] ∧ Fine W ∧ S.2.length ≤ 60 ∧ ∀ p G', G p = none → G' p = some (.lst ((stL W S).map encE)) → Sub G G' → Q (.ref p) G'
noncomputable def N_stands : List Str := ["web", "story", "rooms", "room"]
noncomputable def rd_stands : TS3 :=
 (tSeq (tAsg (tComp [false, false, false, true] (iRng1 (tCons (tCB rLen (tCons (tVar 0) tNil)) tNil)) (gName 3) (tTest (tCall sp_fits (tCons (tVar 0) (tCons (tVar 3) (tCons (tVar 1) tNil))))) (tVar 3)) (gName 2))
 (tRet (tComp [false, false, false, true] (iSeq (tVar 2)) (gName 3) tTrue (tTup (tCons (tVar 3) (tCons (tOp rIxF (tCall sp_gone (tCons (tVar 0) (tCons (tVar 3) (tCons (tCall sp_way_of (tCons (tVar 1) tNil)) tNil)))) (tC (.int 0))) tNil))))))
theorem stR_len {W : Web} {S : Story} : (stR W S).length ≤ W.length := by
 unfold stR; have := List.length_filter_le (fitB W S) (List.range W.length); rw [List.length_range] at this; exact this
theorem rdok_stands : ∀ xs G Q, sp_stands xs G Q → rd_stands { nx := fun _ G' => Q .non G', rt := Q } (start3 N_stands xs) G := by
 intro xs G Q; apply xe2; intro W S; apply ae3; intro fW hl kk
 rw [show start3 N_stands [encW W, encSy S] = [some (.tup (W.map encR)), some (encSy S), none, none] from rfl]
 have hs := sz
 have hwl := fW.len
 have hsl := stR_len (W := W) (S := S)
 wp_walk using 1, rd_stands, iRng1, iSeq, List.length_map
 refine ⟨by omega, by omega, ?_⟩
 rw [show ((W.length : Nat) : Int).toNat = W.length by omega, rngT_map]
 refine comp_opt (fun r => if fitB W S r = true then some (T.int (r : Nat)) else none) (by simp; omega) (fun _ _ => trivial) ?_ ?_
 ·intro i r hr G1 K K0 s1 hK hK0
  obtain ⟨q1, q2⟩ := List.getElem?_eq_some_iff.mp hr
  simp at q1 q2; subst q2
  wp_walk using 1, tSeq
  refine ⟨W, i, S, rfl, fW, q1, by omega, fun b G2 hb s2 => ⟨b, rfl, ?_⟩⟩
  by_cases h : fitB W S i = true
  ·rw [if_pos (hb.mpr (fitB_iff.mp h))]
   exact hK _ _ (by rw [if_pos h]) s2
  ·rw [if_neg fun z => h (fitB_iff.mpr (hb.mp z))]
   exact hK0 (by rw [if_neg h]) _ s2
 ·intro D G1 hD hD1 s1
  rw [fm_filter (List.range W.length)] at hD1
  have hD1 : G1 D = some (.lst ((stR W S).map fun r : Nat => T.int r)) := hD1
  wp_walk using 1, seqT_lst hD1
  refine comp_map (es := stR W S) (enc := fun r : Nat => T.int r) (fun r => encE (r, lastOf W r S.2)) (by omega) (fun G' s => seqT_lst (s _ _ hD1)) ?_ ?_
  ·intro i r hr G2 K K0 s2 hK
   have hm := List.mem_filter.mp (List.mem_of_getElem? hr)
   have hrW : r < W.length := List.mem_range.mp hm.1
   have hF := fitB_iff.mp hm.2
   obtain ⟨es, e1, e2⟩ := (fitR_go S.2 r).mp hF.2
   wp_walk using 1, tSeq
   refine ⟨S, rfl, by omega, fun G3 s3 => ⟨W, r, _, S.2.map (·.1), rfl, fW, hrW, rfl, by simpa using (by omega : S.2.length ≤ 1000), fun G4 s4 => ⟨(fun hn => by rw [e1] at hn; cases hn), fun es' he => ?_⟩⟩⟩
   rw [e1] at he; cases he
   obtain ⟨t, ht⟩ := gone0 (r := r) (es := es)
   rw [ht]
   wp_walk using 1, tSeq
   have := hK G4 (s3.trans s4)
   rw [encE, ← last_go S.2 r es e1] at this
   exact ⟨by omega, this⟩
  ·intro E G2 hE hE2 s2
   refine kk E G2 (s1.none hE) ?_ (s1.trans s2)
   rw [hE2, stL, List.map_map]; rfl
noncomputable def lastV (W : Web) (S : Story) (r : Nat) : T := if fitB W S r = true then .int (lastOf W r S.2 : Nat) else .non
theorem lastV_of {W : Web} {S : Story} {r : Nat} {t : T} (h : LastT W r S t) : t = lastV W S r := by
 unfold lastV
 rcases h with ⟨rfl, h⟩ | ⟨rfl, h⟩
 ·rw [if_neg fun z => h (fitB_iff.mp z)]
 ·rw [if_pos (fitB_iff.mpr h)]
noncomputable def sp_l_right : Sp3 := fun xs G Q => ∃ (W : Web) (S : Story), xs = [encW W, encSy S] ∧ Fine W ∧ S.2.length ≤ 60 ∧ ∀ G', Sub G G' → Q (.bl true) G'
noncomputable def N_l_right : List Str := ["_law_web_here", "_law_story_here", "_law_lasts", "_law_due", "_law_turn", "_law_found", "_law_room", "_law_pair"]
noncomputable def rd_l_right : TS3 :=
 (tSeq (tAsg (tComp [false, false, false, false, false, false, true, false] (iRng1 (tCons (tCB rLen (tCons (tVar 0) tNil)) tNil)) (gName 6) tTrue (tTup (tCons (tVar 6) (tCons (tCall sp_l_last (tCons (tVar 0) (tCons (tVar 6) (tCons (tVar 1) tNil)))) tNil)))) (gName 2))
 (tSeq (tAsg (tComp [false, false, false, false, false, false, false, true] (iSeq (tVar 2)) (gName 7) (tTest (tOp rNotN (tOp rIxF (tVar 7) (tC (.int 1))) (tC .non))) (tVar 7)) (gName 3))
 (tSeq (tFor (iRng1 (tCons (tC (.int 2)) tNil)) (gName 4) (tSeq (tAsg (tCall sp_stands (tCons (tVar 0) (tCons (tVar 1) tNil))) (gName 5))
 (tSeq (tIfS (tNot (tTest (tCall sp_l_same (tCons (tVar 5) (tCons (tVar 3) tNil))))) (tRet (tC (.bl false))) tNext)
 (tDrop (tBM "list" rAppend (tVar 5) (tCons (tTup (tCons (tC (.int 0)) (tCons (tC (.int 0)) tNil))) tNil))))))
 (tRet (tC (.bl true))))))
theorem rdok_l_right : ∀ xs G Q, sp_l_right xs G Q → rd_l_right { nx := fun _ G' => Q .non G', rt := Q } (start3 N_l_right xs) G := by
 intro xs G Q; apply xe2; intro W S; apply ae3; intro fW hl kk
 rw [show start3 N_l_right [encW W, encSy S] = [some (.tup (W.map encR)), some (encSy S), none, none, none, none, none, none] from rfl]
 have hs := sz
 have hwl := fW.len
 have hsl := stR_len (W := W) (S := S)
 wp_walk using 1, rd_l_right, iRng1, iSeq, tFor_at, List.length_map
 refine ⟨by omega, by omega, ?_⟩
 rw [show ((W.length : Nat) : Int).toNat = W.length by omega, rngT_map]
 refine comp_map (es := List.range W.length) (enc := fun r : Nat => T.int r) (fun r => T.tup [.int (r : Nat), lastV W S r]) (by simp; omega) (fun _ _ => trivial) ?_ ?_
 ·intro i r hr G1 K K0 s1 hK
  obtain ⟨q1, q2⟩ := List.getElem?_eq_some_iff.mp hr
  simp at q1 q2; subst q2
  wp_walk using 1, tSeq
  refine ⟨W, i, S, rfl, fW, q1, by omega, fun t G2 ht s2 => ⟨by omega, ?_⟩⟩
  rw [lastV_of ht]
  exact hK G2 s2
 ·intro A G1 hA hA1 s1
  wp_walk using 1, seqT_lst hA1
  refine comp_opt (es := List.range W.length) (enc := fun r : Nat => T.tup [.int (r : Nat), lastV W S r]) (fun r => if fitB W S r = true then some (encE (r, lastOf W r S.2)) else none) (by simp; omega) (fun G' s => seqT_lst (s _ _ hA1)) ?_ ?_
  ·intro i r hr G2 K K0 s2 hK hK0
   wp_walk using 1, rNotN
   by_cases h : fitB W S r = true
   ·have e : lastV W S r = .int (lastOf W r S.2 : Nat) := if_pos h
    rw [e, if_pos (by rfl)]
    exact hK _ _ (by rw [if_pos h]; rfl) (.refl _)
   ·have e : lastV W S r = .non := if_neg h
    rw [e, if_neg (by decide)]
    exact hK0 (by rw [if_neg h]) _ (.refl _)
  ·intro E G2 hE hE2 s2
   rw [fm_filter (List.range W.length)] at hE2
   have hE2 : G2 E = some (.lst ((stL W S).map encE)) := by rw [hE2, stL, List.map_map]; rfl
   wp_walk using 1, iRng1, tFor_at
   refine ⟨by decide, by decide, ?_⟩
   let J1 : Nat → St3 → Gp → Prop := fun i τ G' => ∃ (v4 v5 : Option T), τ = [some (.tup (W.map encR)), some (encSy S), some (.ref A), some (.ref E), v4, v5, none, none] ∧ Sub G2 G'
   refine ⟨J1, ?_, ?_, ?_, ?_⟩
   ·exact xi2 _ _ rfl (.refl _)
   ·intros; trivial
   ·intro i y τ G3 hy; apply xe2; intro v4 v5 s3
    wp_walk using 1, tSeq
    refine ⟨W, S, rfl, fW, hl, fun p G4 hp hp4 s4 => ?_⟩
    refine ⟨.ref p, .ref E, rfl, .inr ⟨p, E, _, rfl, rfl, hp4, s4 _ _ (s3 _ _ hE2), by simp [stL]; omega, fun u hu => ?_⟩, fun G5 s5 => ⟨true, rfl, ?_⟩⟩
    ·obtain ⟨e, _, rfl⟩ := List.mem_map.mp hu
     refine .inr ⟨_, rfl, by simp, fun u hu => ?_⟩
     simp only [List.not_mem_nil, List.mem_cons, or_false] at hu
     rcases hu with rfl | rfl <;> exact pl_int
    rw [if_neg (by decide)]
    have hp5 := s5 _ _ hp4
    have hpG := s3.none hp
    wp_walk using 1, tyT_lst hp5, hp5
    exact ⟨by omega, by simp [stL]; omega, xi2 _ _ rfl (((s3.trans s4).trans s5).over hpG)⟩
   ·intro τ G3; apply xe2; intro v4 v5 s3
    wp_walk using 1, tSeq
    exact kk G3 ((s1.trans s2).trans s3)
noncomputable def sp_law : Sp3 := fun xs G Q => ∃ ns : List Int, xs = [.scr (intsT ns)] ∧ ns.length ≤ 63 ∧ ∀ G', Q (.bl true) G'
noncomputable def N_law : List Str := ["_law_script", "_law_box_here", "_law_size", "_law_web_here", "_law_other", "_law_many", "_law_room", "_law_story_here"]
noncomputable def rd_law : TS3 :=
 (tSeq (tFor (iSeq (tCall sp_l_boxes (tCons (tVar 0) (tCons (tC (.int 12)) tNil)))) (gName 1) (tSeq (tAsg (tOp rIxF (tLst (tCons (tOp rAddF (tC (.int 1)) (tCall sp_l_take (tCons (tVar 1) (tCons (tC (.int 6)) tNil)))) (tCons (tOp rAddF (tC (.int 7)) (tCall sp_l_take (tCons (tVar 1) (tCons (tC (.int 6)) tNil)))) tNil))) (tCB rIntOf (tCons (tOp rEqA (tCall sp_l_take (tCons (tVar 1) (tCons (tC (.int 8)) tNil))) (tC (.int 0))) tNil))) (gName 2))
 (tSeq (tAsg (tCall sp_l_web (tCons (tVar 1) (tCons (tVar 2) (tCons (tCall sp_l_take (tCons (tVar 1) (tCons (tC (.int 4)) tNil))) tNil)))) (gName 3))
 (tSeq (tAsg (tCall sp_l_web (tCons (tVar 1) (tCons (tOp rAddF (tC (.int 1)) (tCall sp_l_take (tCons (tVar 1) (tCons (tC (.int 6)) tNil)))) (tCons (tCall sp_l_take (tCons (tVar 1) (tCons (tC (.int 3)) tNil))) tNil)))) (gName 4))
 (tFor (iSeq (tTup (tCons (tC (.int 0)) (tCons (tC (.int 1)) (tCons (tC (.int 2)) (tCons (tCall sp_l_take (tCons (tVar 1) (tCons (tC (.int 9)) tNil))) tNil)))))) (gName 5) (tSeq (tAsg (tCall sp_l_take (tCons (tVar 1) (tCons (tVar 2) tNil))) (gName 6))
 (tSeq (tAsg (tCall sp_l_story (tCons (tVar 3) (tCons (tVar 6) (tCons (tCall sp_l_way (tCons (tVar 1) (tCons (tVar 3) (tCons (tVar 6) (tCons (tVar 5) tNil))))) tNil)))) (gName 7))
 (tSeq (tIfS (tOr (tNot (tTest (tCall sp_l_right (tCons (tVar 3) (tCons (tVar 7) tNil))))) (tNot (tTest (tCall sp_l_right (tCons (tVar 3) (tCons (tCall sp_l_bent (tCons (tVar 1) (tCons (tVar 7) tNil))) tNil)))))) (tRet (tC (.bl false))) tNext)
 (tIfS (tNot (tTest (tCall sp_l_right (tCons (tVar 4) (tCons (tVar 7) tNil))))) (tRet (tC (.bl false))) tNext)))))))))
 (tRet (tC (.bl true))))
theorem rdok_law : ∀ xs G Q, sp_law xs G Q → rd_law { nx := fun _ G' => Q .non G', rt := Q } (start3 N_law xs) G := by
 intro xs G Q; apply xe1; intro ns; apply ae2; intro hns kk
 rw [show start3 N_law [.scr (intsT ns)] = [some (.scr (intsT ns)), none, none, none, none, none, none, none] from rfl]
 have hs := sz
 wp_walk using 1, rd_law, tFor_at, iSeq
 refine ⟨ns, rfl, hns, fun D rs G1 hD hD1 hl hnd hbx s1 => ⟨_, seqT_lst hD1, ?_⟩⟩
 rw [List.nodup_cons] at hnd
 let J1 : Nat → St3 → Gp → Prop := fun i τ G' => ∃ (v1 v2 v3 v4 v5 v6 v7 : Option T), τ = [some (.scr (intsT ns)), v1, v2, v3, v4, v5, v6, v7] ∧ G' D = some (.lst (rs.map T.ref)) ∧ ∀ (j : Nat) (r : Addr), i ≤ j → rs[j]? = some r → BoxAt G' r 0
 refine ⟨J1, ?_, ?_, ?_, ?_⟩
 ·exact xi7 _ _ _ _ _ _ _ rfl ⟨hD1, fun j r _ hj => hbx r (List.mem_of_getElem? hj)⟩
 ·intro i τ G' hi; apply xe7; intro v1 v2 v3 v4 v5 v6 v7; apply ae2; intro h1 h2
  exact seqT_lst h1
 ·intro i y τ G2 hy; apply xe7; intro v1 v2 v3 v4 v5 v6 v7; apply ae2; intro h1 h2
  obtain ⟨b, hbi, rfl⟩ := map_get hy
  have hb2 := h2 i b (Nat.le_refl _) hbi
  have hbm := List.mem_of_getElem? hbi
  have hbD : b ≠ D := fun e => hnd.1 (e ▸ hbm)
  wp_walk using 1, tFor_at, iSeq, iRng1, rEqA, rListA, rListOf
  refine ⟨b, 6, 0, rfl, hb2, by decide, by decide, by decide, fun a G3 a0 a1 b3 k3 => ?_⟩
  wp_walk using 1, tSeq
  refine ⟨b, 6, 1, rfl, b3, by decide, by decide, by decide, fun a' G4 a0' a1' b4 k4 => ?_⟩
  wp_walk using 1, tSeq
  refine ⟨by omega, fun p hp => ?_⟩
  obtain ⟨bo4, hbo4⟩ := b4.some
  have hbp := ne_some_none hbo4 hp
  refine ⟨b, 8, 2, rfl, b4.gup hbp, by decide, by decide, by decide, fun z G5 z0 z1 b5 k5 => ⟨decide (z = 0), eqG_z, ?_⟩⟩
  have hp5 := k5 _ _ hbp.symm gup_same
  have two : ∀ (x y : Int) (c : Bool) (G : Gp) (p : Addr), G p = some (.lst [.int x, .int y]) → ixR G (.ref p) (.int (if c = true then 1 else 0)) = some (.int (if c = true then y else x)) := by
   intro x y c G p h
   rw [ixR_lst h]
   cases c <;> rfl
  obtain ⟨n, hn, hn1, hn2⟩ : ∃ n : Nat, ixR G5 (.ref p) (.int (if decide (z = 0) = true then 1 else 0)) = some (.int (n : Nat)) ∧ 1 ≤ n ∧ n ≤ 12 := by
   rw [two _ _ _ _ _ hp5]
   refine ⟨(if decide (z = 0) = true then 7 + a' else 1 + a).toNat, ?_, ?_, ?_⟩
   ·congr 2; split <;> omega
   ·split <;> omega
   ·split <;> omega
  refine ⟨_, hn, b, 4, 3, rfl, b5, by decide, by decide, by decide, fun mo G6 m0 m1 b6 k6 => ?_⟩
  obtain ⟨m, rfl⟩ := Int.eq_ofNat_of_zero_le m0
  refine ⟨b, n, m, 4, rfl, b6, by decide, hn1, hn2, by omega, fun W G7 fW hW b7 k7 => ?_⟩
  refine ⟨b, 6, 104, rfl, b7, by decide, by decide, by decide, fun n2 G8 n20 n21 b8 k8 => ?_⟩
  obtain ⟨n2, rfl⟩ := Int.eq_ofNat_of_zero_le n20
  wp_walk using 1, tSeq
  refine ⟨b, 3, 105, rfl, b8, by decide, by decide, by decide, fun m2 G9 m20 m21 b9 k9 => ?_⟩
  obtain ⟨m2, rfl⟩ := Int.eq_ofNat_of_zero_le m20
  rw [show (1 : Int) + (n2 : Nat) = ((1 + n2 : Nat) : Int) by omega]
  refine ⟨b, 1 + n2, m2, 106, rfl, b9, by decide, by omega, by omega, by omega, fun V G10 fV hV b10 k10 => ?_⟩
  refine ⟨b, 9, 206, rfl, b10, by decide, by decide, by decide, fun q G11 q0 q1 b11 k11 => ⟨by omega, ?_⟩⟩
  obtain ⟨q, rfl⟩ := Int.eq_ofNat_of_zero_le q0
  have K2 : Keep b G2 G11 := ((((((((k3.trans k4).trans (.new hp)).trans k5).trans k6).trans k7).trans k8).trans k9).trans k10).trans k11
  let J2 : Nat → St3 → Gp → Prop := fun j τ G' => ∃ (v5 v6 v7 : Option T), τ = [some (.scr (intsT ns)), some (.ref b), some (.int n), some (encW W), some (encW V), v5, v6, v7] ∧ BoxAt G' b (207 + 40 * j) ∧ Keep b G2 G'
  refine ⟨J2, ?_, ?_, ?_, ?_⟩
  ·exact xi3 _ _ _ rfl ⟨b11, K2⟩
  ·intros; trivial
  ·intro j y τ G12 hy; apply xe3; intro v5 v6 v7; apply ae2; intro b12 K12
   have hj : j < 4 := (List.getElem?_eq_some_iff.mp hy).1
   obtain ⟨many, hmany, rfl⟩ : ∃ many : Nat, many ≤ 8 ∧ y = .int (many : Nat) := by
    have := List.mem_of_getElem? hy
    simp only [List.mem_cons, List.not_mem_nil, or_false] at this
    rcases this with rfl | rfl | rfl | rfl
    ·exact ⟨0, by omega, rfl⟩
    ·exact ⟨1, by omega, rfl⟩
    ·exact ⟨2, by omega, rfl⟩
    ·exact ⟨q, by omega, rfl⟩
   wp_walk using 1, tSeq
   refine ⟨b, n, _, rfl, b12, by omega, by omega, by omega, fun r' G13 r0 r1 b13 k13 => ?_⟩
   obtain ⟨r, rfl⟩ := Int.eq_ofNat_of_zero_le r0
   have hr : r < W.length := by omega
   refine ⟨b, W, r, many, _, rfl, b13, by omega, fW, hr, by omega, fun ds es G14 hg hdl b14 k14 => ?_⟩
   refine ⟨W, r, ds, es, rfl, fW, hr, by omega, hg, fun G15 s15 => ?_⟩
   have hsl : (stepsOf W ds es).length ≤ 60 := Nat.le_trans stepsOf_len hdl
   refine ⟨W, _, rfl, fW, hsl, fun G16 s16 => ⟨true, rfl, ?_⟩⟩
   rw [if_neg (by decide)]
   have b16 := (b14.sub s15).sub s16
   refine ⟨b, _, _, rfl, b16, by omega, hsl, fun S' G17 hS' b17 k17 => ?_⟩
   refine ⟨W, S', rfl, fW, hS', fun G18 s18 => ⟨true, rfl, ?_⟩⟩
   rw [if_neg (by decide)]
   refine ⟨V, _, rfl, fV, hsl, fun G19 s19 => ⟨true, rfl, ?_⟩⟩
   rw [if_neg (by decide)]
   refine xi3 _ _ _ rfl ⟨((b17.sub s18).sub s19).mono (by omega), ((((K12.trans k13).trans k14).trans (.sub (s15.trans s16))).trans k17).trans (.sub (s18.trans s19))⟩
  ·intro τ G12; apply xe3; intro v5 v6 v7; apply ae2; intro b12 K12
   refine xi7 _ _ _ _ _ _ _ rfl ⟨K12 _ _ hbD.symm h1, fun j r' hj hr' => ?_⟩
   have hne : r' ≠ b := fun e => by
    subst e
    have hjl : j < rs.length := (List.getElem?_eq_some_iff.mp hr').1
    have := (List.getElem?_inj hjl hnd.2).mp (hr'.trans hbi.symm)
    omega
   obtain ⟨x, y, z, e1, e2⟩ := h2 j r' (by omega) hr'
   exact ⟨x, y, z, K12 _ _ hne e1, e2⟩
 ·intro τ G2; apply xe7; intro v1 v2 v3 v4 v5 v6 v7; apply ae2; intro h1 h2
  wp_walk using 1, tSeq
  exact kk G2
end W
namespace W
open PySem PySem.Spec PyProof.Rows L2 L3
noncomputable def top (i : Nat) : Stmt := PySem.Challenge.pw_stonewalker_k49_where_a_story_stands.main.body.getD i (.Pass ⟨0, 0, 0, 0⟩)
structure Txt (mg : Str → Option Value) : Prop where
 n_abs : mg "abs" = none
 n_all : mg "all" = none
 n_bool : mg "bool" = none
 n_enumerate : mg "enumerate" = none
 n_int : mg "int" = none
 n_isinstance : mg "isinstance" = none
 n_len : mg "len" = none
 n_list : mg "list" = none
 n_max : mg "max" = none
 n_min : mg "min" = none
 n_range : mg "range" = none
 n_sum : mg "sum" = none
 n_tuple : mg "tuple" = none
 n_zip : mg "zip" = none
noncomputable abbrev s_ends_on : Stmt := top 1
theorem sc_ends_on : FnScope ["web", "room", "way", "ends", "here", "door", "end"] ["web", "room", "way"] (defScope s_ends_on) := ⟨rfl, rfl, rfl, by decide +kernel, rfl, by decide +kernel, by decide +kernel⟩
theorem ok_ends_on {P : Program} {w : World} {K : PySem.W.Frag} {mg : Str → Option Value} {base : Heap} {f : Addr} {fd : FuncData} (T : Txt mg) (F : Fun K "ends_on" "ends_on" s_ends_on f fd) 
  (h : ∀ xs G Q, sp_ends_on xs G Q → rd_ends_on { nx := fun _ G' => Q .non G', rt := Q } (start3 ["web", "room", "way", "ends", "here", "door", "end"] xs) G) : Fn3 P w K mg base 1 f fd ["web", "room", "way"] sp_ends_on := by
 refine fn3 F sc_ends_on fun cdv A outer s H E hr => ⟨rd_ends_on, ?_, h⟩
 have hu := hu_of hr
 have nd := sc_ends_on.nd
 exact (ss_cons (s_set (i := 3) nd (e_lst a_nil))
   (ss_cons (s_set (i := 4) nd (e_var 1))
   (ss_cons (s_for PassesOwn.never rfl (i_seq (e_var 2)) (g_name (i := 5) nd) (ss_cons (s_if (t_not (t_chain (o_leF hu) o_lt e_int (e_var 5) (e_callB c_len (by rfl) T.n_len PySem.boot_len (a_cons (e_ix (ix_F hu) (e_var 0) (e_var 4) (fun _ _ => rfl)) a_nil)))) (ss_one (s_ret e_non)) ss_nil)
   (ss_cons (s_set (i := 6) nd (e_ix (ix_F hu) (e_ix (ix_F hu) (e_var 0) (e_var 4) (fun _ _ => rfl)) (e_var 5) (fun _ _ => rfl)))
   (ss_cons (s_expr (e_bm PySem.F.plainAttrs_list PySem.F.slot_list_append PySem.F.type_list_append m_append (e_var 3) (a_cons (e_var 6) a_nil)))
   (ss_one (s_set (i := 4) nd (e_ix (ix_F hu) (e_var 6) e_int (fun _ _ => rfl))))))))
   (ss_one (s_ret (e_var 3))))))
noncomputable abbrev s_gone : Stmt := top 2
theorem sc_gone : FnScope ["web", "room", "way", "ends"] ["web", "room", "way"] (defScope s_gone) := ⟨rfl, rfl, rfl, by decide +kernel, rfl, by decide +kernel, by decide +kernel⟩
theorem ok_gone {P : Program} {w : World} {K : PySem.W.Frag} {mg : Str → Option Value} {base : Heap} {f : Addr} {fd : FuncData} (T : Txt mg) (F : Fun K "gone" "gone" s_gone f fd) (C_ends_on : Cal P w K mg base 1 "ends_on" ["web", "room", "way"] sp_ends_on)
  (h : ∀ xs G Q, sp_gone xs G Q → rd_gone { nx := fun _ G' => Q .non G', rt := Q } (start3 ["web", "room", "way", "ends"] xs) G) : Fn3 P w K mg base 2 f fd ["web", "room", "way"] sp_gone := by
 refine fn3 F sc_gone fun cdv A outer s H E hr => ⟨rd_gone, ?_, h⟩
 have hu := hu_of hr
 have nd := sc_gone.nd
 exact (ss_cons (s_set (i := 3) nd (e_cal C_ends_on (hr.mono (by decide)) (a_cons (e_var 0) (a_cons (e_var 1) (a_cons (e_var 2) a_nil)))))
   (ss_cons (s_if (t_cmp o_isN (e_var 3) e_non (nomark3 _)) (ss_one (s_ret e_non)) ss_nil)
   (ss_one (s_ret (e_ifExp (t_tru tru_any (e_var 3)) (e_ix (ix_F hu) (e_var 3) (e_un u_neg e_int) (fun _ _ => rfl)) (e_tup (a_cons (e_var 1) (a_cons e_non a_nil))))))))
noncomputable abbrev s_seen : Stmt := top 3
theorem sc_seen : FnScope ["web", "room", "way", "ends", "end"] ["web", "room", "way"] (defScope s_seen) := ⟨rfl, rfl, rfl, by decide +kernel, rfl, by decide +kernel, by decide +kernel⟩
theorem ok_seen {P : Program} {w : World} {K : PySem.W.Frag} {mg : Str → Option Value} {base : Heap} {f : Addr} {fd : FuncData} (T : Txt mg) (F : Fun K "seen" "seen" s_seen f fd) (C_ends_on : Cal P w K mg base 1 "ends_on" ["web", "room", "way"] sp_ends_on)
  (h : ∀ xs G Q, sp_seen xs G Q → rd_seen { nx := fun _ G' => Q .non G', rt := Q } (start3 ["web", "room", "way", "ends", "end"] xs) G) : Fn3 P w K mg base 2 f fd ["web", "room", "way"] sp_seen := by
 refine fn3 F sc_seen fun cdv A outer s H E hr => ⟨rd_seen, ?_, h⟩
 have hu := hu_of hr
 have nd := sc_seen.nd
 exact (ss_cons (s_set (i := 3) nd (e_cal C_ends_on (hr.mono (by decide)) (a_cons (e_var 0) (a_cons (e_var 1) (a_cons (e_var 2) a_nil)))))
   (ss_cons (s_if (t_cmp o_isN (e_var 3) e_non (nomark3 _)) (ss_one (s_ret e_non)) ss_nil)
   (ss_one (s_ret (e_callTy c_tuple (by rfl) T.n_tuple rfl (a_cons (e_op o_addF (e_lst (a_cons (e_callB c_len (by rfl) T.n_len PySem.boot_len (a_cons (e_ix (ix_F hu) (e_var 0) (e_var 1) (fun _ _ => rfl)) a_nil)) a_nil)) (e_comp (mask := [false, false, false, false, true]) rfl ⟨rfl, rfl, rfl, rfl, rfl, rfl, rfl⟩ (i_seq (e_var 3)) gk_name (fun C fp s H => (g_name (i := 4) nd)) (fun C fp s H => if_nil) (fun C fp s H => (e_tup (a_cons (e_ix (ix_F hu) (e_var 4) e_int (fun _ _ => rfl)) (a_cons (e_callB c_len (by rfl) T.n_len PySem.boot_len (a_cons (e_ix (ix_F hu) (e_var 0) (e_ix (ix_F hu) (e_var 4) e_int (fun _ _ => rfl)) (fun _ _ => rfl)) a_nil)) a_nil)))))) a_nil))))))
noncomputable abbrev s_way_of : Stmt := top 5
theorem sc_way_of : FnScope ["story", "step"] ["story"] (defScope s_way_of) := ⟨rfl, rfl, rfl, by decide +kernel, rfl, by decide +kernel, by decide +kernel⟩
theorem ok_way_of {P : Program} {w : World} {K : PySem.W.Frag} {mg : Str → Option Value} {base : Heap} {f : Addr} {fd : FuncData} (T : Txt mg) (F : Fun K "way_of" "way_of" s_way_of f fd) 
  (h : ∀ xs G Q, sp_way_of xs G Q → rd_way_of { nx := fun _ G' => Q .non G', rt := Q } (start3 ["story", "step"] xs) G) : Fn3 P w K mg base 1 f fd ["story"] sp_way_of := by
 refine fn3 F sc_way_of fun cdv A outer s H E hr => ⟨rd_way_of, ?_, h⟩
 have hu := hu_of hr
 have nd := sc_way_of.nd
 exact (ss_one (s_ret (e_callTy c_tuple (by rfl) T.n_tuple rfl (a_cons (e_comp (mask := [false, true]) rfl ⟨rfl, rfl, rfl, rfl, rfl, rfl, rfl⟩ (i_seq (e_ix (ix_F hu) (e_var 0) e_int (fun _ _ => rfl))) gk_name (fun C fp s H => (g_name (i := 1) nd)) (fun C fp s H => if_nil) (fun C fp s H => (e_ix (ix_F hu) (e_var 1) e_int (fun _ _ => rfl)))) a_nil))))
noncomputable abbrev s_seen_in : Stmt := top 6
theorem sc_seen_in : FnScope ["story", "step"] ["story"] (defScope s_seen_in) := ⟨rfl, rfl, rfl, by decide +kernel, rfl, by decide +kernel, by decide +kernel⟩
theorem ok_seen_in {P : Program} {w : World} {K : PySem.W.Frag} {mg : Str → Option Value} {base : Heap} {f : Addr} {fd : FuncData} (T : Txt mg) (F : Fun K "seen_in" "seen_in" s_seen_in f fd) 
  (h : ∀ xs G Q, sp_seen_in xs G Q → rd_seen_in { nx := fun _ G' => Q .non G', rt := Q } (start3 ["story", "step"] xs) G) : Fn3 P w K mg base 1 f fd ["story"] sp_seen_in := by
 refine fn3 F sc_seen_in fun cdv A outer s H E hr => ⟨rd_seen_in, ?_, h⟩
 have hu := hu_of hr
 have nd := sc_seen_in.nd
 exact (ss_one (s_ret (e_callTy c_tuple (by rfl) T.n_tuple rfl (a_cons (e_op o_addF (e_lst (a_cons (e_ix (ix_F hu) (e_var 0) e_int (fun _ _ => rfl)) a_nil)) (e_comp (mask := [false, true]) rfl ⟨rfl, rfl, rfl, rfl, rfl, rfl, rfl⟩ (i_seq (e_ix (ix_F hu) (e_var 0) e_int (fun _ _ => rfl))) gk_name (fun C fp s H => (g_name (i := 1) nd)) (fun C fp s H => if_nil) (fun C fp s H => (e_tup (a_cons (e_ix (ix_F hu) (e_var 1) e_int (fun _ _ => rfl)) (a_cons (e_ix (ix_F hu) (e_var 1) e_int (fun _ _ => rfl)) a_nil)))))) a_nil))))
noncomputable abbrev s_fits : Stmt := top 7
theorem sc_fits : FnScope ["web", "room", "story"] ["web", "room", "story"] (defScope s_fits) := ⟨rfl, rfl, rfl, by decide +kernel, rfl, by decide +kernel, by decide +kernel⟩
theorem ok_fits {P : Program} {w : World} {K : PySem.W.Frag} {mg : Str → Option Value} {base : Heap} {f : Addr} {fd : FuncData} (T : Txt mg) (F : Fun K "fits" "fits" s_fits f fd) (C_seen : Cal P w K mg base 2 "seen" ["web", "room", "way"] sp_seen) (C_way_of : Cal P w K mg base 1 "way_of" ["story"] sp_way_of) (C_seen_in : Cal P w K mg base 1 "seen_in" ["story"] sp_seen_in)
  (h : ∀ xs G Q, sp_fits xs G Q → rd_fits { nx := fun _ G' => Q .non G', rt := Q } (start3 ["web", "room", "story"] xs) G) : Fn3 P w K mg base 3 f fd ["web", "room", "story"] sp_fits := by
 refine fn3 F sc_fits fun cdv A outer s H E hr => ⟨rd_fits, ?_, h⟩
 have hu := hu_of hr
 have nd := sc_fits.nd
 exact (ss_one (s_ret (e_cmp (o_eqA hr.units) (e_cal C_seen (hr.mono (by decide)) (a_cons (e_var 0) (a_cons (e_var 1) (a_cons (e_cal C_way_of (hr.mono (by decide)) (a_cons (e_var 2) a_nil)) a_nil)))) (e_cal C_seen_in (hr.mono (by decide)) (a_cons (e_var 2) a_nil)) (nomark3 _))))
noncomputable abbrev s_stands : Stmt := top 8
theorem sc_stands : FnScope ["web", "story", "rooms", "room"] ["web", "story"] (defScope s_stands) := ⟨rfl, rfl, rfl, by decide +kernel, rfl, by decide +kernel, by decide +kernel⟩
theorem ok_stands {P : Program} {w : World} {K : PySem.W.Frag} {mg : Str → Option Value} {base : Heap} {f : Addr} {fd : FuncData} (T : Txt mg) (F : Fun K "stands" "stands" s_stands f fd) (C_fits : Cal P w K mg base 3 "fits" ["web", "room", "story"] sp_fits) (C_gone : Cal P w K mg base 2 "gone" ["web", "room", "way"] sp_gone) (C_way_of : Cal P w K mg base 1 "way_of" ["story"] sp_way_of)
  (h : ∀ xs G Q, sp_stands xs G Q → rd_stands { nx := fun _ G' => Q .non G', rt := Q } (start3 ["web", "story", "rooms", "room"] xs) G) : Fn3 P w K mg base 4 f fd ["web", "story"] sp_stands := by
 refine fn3 F sc_stands fun cdv A outer s H E hr => ⟨rd_stands, ?_, h⟩
 have hu := hu_of hr
 have nd := sc_stands.nd
 exact (ss_cons (s_comp (i := 2) (mask := [false, false, false, true]) rfl nd ⟨rfl, rfl, rfl, rfl, rfl, rfl, rfl⟩ (i_range1 rfl T.n_range (a_cons (e_callB c_len (by rfl) T.n_len PySem.boot_len (a_cons (e_var 0) a_nil)) a_nil)) gk_name (fun C fp s H => (g_name (i := 3) nd)) (fun C fp s H => (if_one (t_val (e_cal C_fits (hr.mono (by decide)) (a_cons (e_var 0) (a_cons (e_var 3) (a_cons (e_var 1) a_nil))))))) (fun C fp s H => (e_var 3)))
   (ss_one (s_ret (e_comp (mask := [false, false, false, true]) rfl ⟨rfl, rfl, rfl, rfl, rfl, rfl, rfl⟩ (i_seq (e_var 2)) gk_name (fun C fp s H => (g_name (i := 3) nd)) (fun C fp s H => if_nil) (fun C fp s H => (e_tup (a_cons (e_var 3) (a_cons (e_ix (ix_F hu) (e_cal C_gone (hr.mono (by decide)) (a_cons (e_var 0) (a_cons (e_var 3) (a_cons (e_cal C_way_of (hr.mono (by decide)) (a_cons (e_var 1) a_nil)) a_nil)))) e_int (fun _ _ => rfl)) a_nil))))))))
noncomputable abbrev s_l_box : Stmt := top 10
theorem sc_l_box : FnScope ["_law_script", "_law_k", "_law_cell", "_law_digits"] ["_law_script", "_law_k"] (defScope s_l_box) := ⟨rfl, rfl, rfl, by decide +kernel, rfl, by decide +kernel, by decide +kernel⟩
theorem ok_l_box {P : Program} {w : World} {K : PySem.W.Frag} {mg : Str → Option Value} {base : Heap} {f : Addr} {fd : FuncData} (T : Txt mg) (F : Fun K "_law_box" "_law_box" s_l_box f fd) 
  (h : ∀ xs G Q, sp_l_box xs G Q → rd_l_box { nx := fun _ G' => Q .non G', rt := Q } (start3 ["_law_script", "_law_k", "_law_cell", "_law_digits"] xs) G) : Fn3 P w K mg base 1 f fd ["_law_script", "_law_k"] sp_l_box := by
 refine fn3 F sc_l_box fun cdv A outer s H E hr => ⟨rd_l_box, ?_, h⟩
 have hu := hu_of hr
 have nd := sc_l_box.nd
 exact (ss_cons (s_set (i := 2) nd e_int)
   (ss_cons (s_if (t_cmp o_lt (e_var 1) (e_callB c_len (by rfl) T.n_len PySem.boot_len (a_cons (e_var 0) a_nil)) (nomark3 _)) (ss_one (s_set (i := 2) nd (e_ix (ix_F hu) (e_var 0) (e_var 1) (fun _ _ => rfl)))) ss_nil)
   (ss_cons (s_set (i := 3) nd e_int)
   (ss_cons (s_if (t_cmp o_ge (e_callB c_abs (by rfl) T.n_abs rfl (a_cons (e_var 2) a_nil)) (e_op o_pow e_int e_int) (nomark3 _)) (ss_one (s_set (i := 3) nd (e_callB c_abs (by rfl) T.n_abs rfl (a_cons (e_var 2) a_nil)))) ss_nil)
   (ss_one (s_ret (e_lst (a_cons (e_var 3) (a_cons (e_op o_mod (e_op o_mulF (e_op o_addF (e_op o_addF (e_op o_mod (e_var 2) e_int) (e_op o_mulF e_int (e_var 1))) e_int) e_int) e_int) (a_cons e_int a_nil))))))))))
noncomputable abbrev s_l_take : Stmt := top 11
theorem sc_l_take : FnScope ["_law_box_here", "_law_many", "_law_found", "_law_once"] ["_law_box_here", "_law_many"] (defScope s_l_take) := ⟨rfl, rfl, rfl, by decide +kernel, rfl, by decide +kernel, by decide +kernel⟩
theorem ok_l_take {P : Program} {w : World} {K : PySem.W.Frag} {mg : Str → Option Value} {base : Heap} {f : Addr} {fd : FuncData} (T : Txt mg) (F : Fun K "_law_take" "_law_take" s_l_take f fd) 
  (h : ∀ xs G Q, sp_l_take xs G Q → rd_l_take { nx := fun _ G' => Q .non G', rt := Q } (start3 ["_law_box_here", "_law_many", "_law_found", "_law_once"] xs) G) : Fn3 P w K mg base 1 f fd ["_law_box_here", "_law_many"] sp_l_take := by
 refine fn3 F sc_l_take fun cdv A outer s H E hr => ⟨rd_l_take, ?_, h⟩
 have hu := hu_of hr
 have nd := sc_l_take.nd
 exact (ss_cons (s_if (t_cmp o_gt (e_ix (ix_F hu) (e_var 0) e_int (fun _ _ => rfl)) e_int (nomark3 _)) (ss_cons (s_set (i := 2) nd (e_op o_mod (e_ix (ix_F hu) (e_var 0) e_int (fun _ _ => rfl)) (e_var 1)))
   (ss_cons (s_asg (e_op o_fdiv (e_ix (ix_F hu) (e_var 0) e_int (fun _ _ => rfl)) (e_var 1)) (g_sub (e_var 0) e_int (s_F hu)))
   (ss_one (s_ret (e_var 2))))) ss_nil)
   (ss_cons (s_asg (e_op o_addF (e_ix (ix_F hu) (e_var 0) e_int (fun _ _ => rfl)) e_int) (g_sub (e_var 0) e_int (s_F hu)))
   (ss_cons (s_set (i := 3) nd (e_op o_mod (e_op o_mulF (e_op o_addF (e_ix (ix_F hu) (e_var 0) e_int (fun _ _ => rfl)) (e_op o_mulF e_int (e_ix (ix_F hu) (e_var 0) e_int (fun _ _ => rfl)))) (e_op o_addF e_int (e_ix (ix_F hu) (e_var 0) e_int (fun _ _ => rfl)))) e_int))
   (ss_cons (s_asg (e_op o_mod (e_op o_addF (e_op o_mulF (e_var 3) (e_op o_addF (e_op o_mod (e_var 3) e_int) e_int)) (e_ix (ix_F hu) (e_var 0) e_int (fun _ _ => rfl))) e_int) (g_sub (e_var 0) e_int (s_F hu)))
   (ss_one (s_ret (e_op o_mod (e_op o_fdiv (e_op o_mod (e_op o_mulF (e_ix (ix_F hu) (e_var 0) e_int (fun _ _ => rfl)) (e_op o_addF (e_op o_mod (e_ix (ix_F hu) (e_var 0) e_int (fun _ _ => rfl)) e_int) e_int)) e_int) e_int) (e_var 1))))))))
noncomputable abbrev s_l_boxes : Stmt := top 12
theorem sc_l_boxes : FnScope ["_law_script", "_law_most", "_law_cells", "_law_k"] ["_law_script", "_law_most"] (defScope s_l_boxes) := ⟨rfl, rfl, rfl, by decide +kernel, rfl, by decide +kernel, by decide +kernel⟩
theorem ok_l_boxes {P : Program} {w : World} {K : PySem.W.Frag} {mg : Str → Option Value} {base : Heap} {f : Addr} {fd : FuncData} (T : Txt mg) (F : Fun K "_law_boxes" "_law_boxes" s_l_boxes f fd) (C_l_box : Cal P w K mg base 1 "_law_box" ["_law_script", "_law_k"] sp_l_box)
  (h : ∀ xs G Q, sp_l_boxes xs G Q → rd_l_boxes { nx := fun _ G' => Q .non G', rt := Q } (start3 ["_law_script", "_law_most", "_law_cells", "_law_k"] xs) G) : Fn3 P w K mg base 2 f fd ["_law_script", "_law_most"] sp_l_boxes := by
 refine fn3 F sc_l_boxes fun cdv A outer s H E hr => ⟨rd_l_boxes, ?_, h⟩
 have hu := hu_of hr
 have nd := sc_l_boxes.nd
 exact (ss_cons (s_set (i := 2) nd (e_comp (mask := [false, false, false, true]) rfl ⟨rfl, rfl, rfl, rfl, rfl, rfl, rfl⟩ (i_range1 rfl T.n_range (a_cons (e_callB (c_max rfl) (by rfl) T.n_max rfl (a_cons e_int (a_cons (e_callB (c_min2 rfl) (by rfl) T.n_min rfl (a_cons (e_var 1) (a_cons (e_callB c_len (by rfl) T.n_len PySem.boot_len (a_cons (e_var 0) a_nil)) a_nil))) a_nil))) a_nil)) gk_name (fun C fp s H => (g_name (i := 3) nd)) (fun C fp s H => if_nil) (fun C fp s H => (e_callB (c_sum rfl) (by rfl) T.n_sum rfl (a_cons (e_slSt (e_var 0) (p_some (e_var 3)) (p_some e_int) (p_some (e_var 1))) a_nil)))))
   (ss_one (s_ret (e_comp (mask := [false, false, false, true]) rfl ⟨rfl, rfl, rfl, rfl, rfl, rfl, rfl⟩ (i_range1 rfl T.n_range (a_cons (e_callB c_len (by rfl) T.n_len PySem.boot_len (a_cons (e_var 2) a_nil)) a_nil)) gk_name (fun C fp s H => (g_name (i := 3) nd)) (fun C fp s H => if_nil) (fun C fp s H => (e_cal C_l_box (hr.mono (by decide)) (a_cons (e_var 2) (a_cons (e_var 3) a_nil))))))))
noncomputable abbrev s_l_web : Stmt := top 13
theorem sc_l_web : FnScope ["_law_box_here", "_law_size", "_law_more", "_law_sides", "_law_leads", "_law_k", "_law_free", "_law_one", "_law_other", "_law_ahead", "_law_loop", "_law_where", "_law_room", "_law_door", "_law_side", "_law_ends"] ["_law_box_here", "_law_size", "_law_more"] (defScope s_l_web) := ⟨rfl, rfl, rfl, by decide +kernel, rfl, by decide +kernel, by decide +kernel⟩
theorem ok_l_web {P : Program} {w : World} {K : PySem.W.Frag} {mg : Str → Option Value} {base : Heap} {f : Addr} {fd : FuncData} (T : Txt mg) (F : Fun K "_law_web" "_law_web" s_l_web f fd) (C_l_take : Cal P w K mg base 1 "_law_take" ["_law_box_here", "_law_many"] sp_l_take)
  (h : ∀ xs G Q, sp_l_web xs G Q → rd_l_web { nx := fun _ G' => Q .non G', rt := Q } (start3 ["_law_box_here", "_law_size", "_law_more", "_law_sides", "_law_leads", "_law_k", "_law_free", "_law_one", "_law_other", "_law_ahead", "_law_loop", "_law_where", "_law_room", "_law_door", "_law_side", "_law_ends"] xs) G) : Fn3 P w K mg base 2 f fd ["_law_box_here", "_law_size", "_law_more"] sp_l_web := by
 refine fn3 F sc_l_web fun cdv A outer s H E hr => ⟨rd_l_web, ?_, h⟩
 have hu := hu_of hr
 have nd := sc_l_web.nd
 exact (ss_cons (s_set (i := 3) nd (e_comp (mask := [false, false, false, false, false, false, false, false, false, false, false, false, true, false, false, false]) rfl ⟨rfl, rfl, rfl, rfl, rfl, rfl, rfl⟩ (i_range1 rfl T.n_range (a_cons (e_var 1) a_nil)) gk_name (fun C fp s H => (g_name (i := 12) nd)) (fun C fp s H => if_nil) (fun C fp s H => (e_lst a_nil))))
   (ss_cons (s_set (i := 4) nd e_dct)
   (ss_cons (s_for PassesOwn.never rfl (i_range1 rfl T.n_range (a_cons (e_op o_addF (e_op o_sub (e_var 1) e_int) (e_var 2)) a_nil)) (g_name (i := 5) nd) (ss_cons (s_comp (i := 6) (mask := [false, false, false, false, false, false, false, false, false, false, false, false, true, false, false, false]) rfl nd ⟨rfl, rfl, rfl, rfl, rfl, rfl, rfl⟩ (i_range1 rfl T.n_range (a_cons (e_var 1) a_nil)) gk_name (fun C fp s H => (g_name (i := 12) nd)) (fun C fp s H => (if_one (t_cmp o_lt (e_callB c_len (by rfl) T.n_len PySem.boot_len (a_cons (e_ix (ix_F hu) (e_var 3) (e_var 12) (fun _ _ => rfl)) a_nil)) e_int (nomark3 _)))) (fun C fp s H => (e_var 12)))
   (ss_cons (s_if (t_cmp (o_eqA hr.units) (e_var 6) (e_lst a_nil) (nomark3 _)) (ss_one s_cont) ss_nil)
   (ss_cons (s_set (i := 7) nd (e_ix (ix_F hu) (e_var 6) (e_cal C_l_take (hr.mono (by decide)) (a_cons (e_var 0) (a_cons (e_callB c_len (by rfl) T.n_len PySem.boot_len (a_cons (e_var 6) a_nil)) a_nil))) (fun _ _ => rfl)))
   (ss_cons (s_set (i := 8) nd (e_ix (ix_F hu) (e_var 6) (e_cal C_l_take (hr.mono (by decide)) (a_cons (e_var 0) (a_cons (e_callB c_len (by rfl) T.n_len PySem.boot_len (a_cons (e_var 6) a_nil)) a_nil))) (fun _ _ => rfl)))
   (ss_cons (s_if (t_cmp o_lt (e_var 5) (e_op o_sub (e_var 1) e_int) (nomark3 _)) (ss_cons (s_set (i := 8) nd (e_op o_addF (e_var 5) e_int))
   (ss_cons (s_comp (i := 9) (mask := [false, false, false, false, false, false, false, false, false, false, false, false, true, false, false, false]) rfl nd ⟨rfl, rfl, rfl, rfl, rfl, rfl, rfl⟩ (i_seq (e_var 6)) gk_name (fun C fp s H => (g_name (i := 12) nd)) (fun C fp s H => (if_one (t_cmp (o_leF hu) (e_var 12) (e_var 5) (nomark3 _)))) (fun C fp s H => (e_var 12)))
   (ss_one (s_set (i := 7) nd (e_ix (ix_F hu) (e_var 9) (e_cal C_l_take (hr.mono (by decide)) (a_cons (e_var 0) (a_cons (e_callB c_len (by rfl) T.n_len PySem.boot_len (a_cons (e_var 9) a_nil)) a_nil))) (fun _ _ => rfl)))))) ss_nil)
   (ss_cons (s_set (i := 10) nd (e_and (e_cmp o_ge (e_var 5) (e_op o_sub (e_var 1) e_int) (nomark3 _)) (e_one (e_cmp (o_eqA hr.units) (e_cal C_l_take (hr.mono (by decide)) (a_cons (e_var 0) (a_cons e_int a_nil))) e_int (nomark3 _)))))
   (ss_cons (s_asg (e_var 10) (g_sub (e_var 4) (e_var 5) (s_F hu)))
   (ss_cons (s_expr (e_bm PySem.F.plainAttrs_list PySem.F.slot_list_insert PySem.F.type_list_insert m_insert (e_ix (ix_F hu) (e_var 3) (e_var 7) (fun _ _ => rfl)) (a_cons (e_cal C_l_take (hr.mono (by decide)) (a_cons (e_var 0) (a_cons (e_op o_addF (e_callB c_len (by rfl) T.n_len PySem.boot_len (a_cons (e_ix (ix_F hu) (e_var 3) (e_var 7) (fun _ _ => rfl)) a_nil)) e_int) a_nil))) (a_cons (e_tup (a_cons (e_var 5) (a_cons e_int a_nil))) a_nil))))
   (ss_one (s_if (t_not (t_tru tru_any (e_var 10))) (ss_one (s_expr (e_bm PySem.F.plainAttrs_list PySem.F.slot_list_insert PySem.F.type_list_insert m_insert (e_ix (ix_F hu) (e_var 3) (e_var 8) (fun _ _ => rfl)) (a_cons (e_cal C_l_take (hr.mono (by decide)) (a_cons (e_var 0) (a_cons (e_op o_addF (e_callB c_len (by rfl) T.n_len PySem.boot_len (a_cons (e_ix (ix_F hu) (e_var 3) (e_var 8) (fun _ _ => rfl)) a_nil)) e_int) a_nil))) (a_cons (e_tup (a_cons (e_var 5) (a_cons e_int a_nil))) a_nil))))) ss_nil)))))))))))
   (ss_cons (s_set (i := 11) nd e_dct)
   (ss_cons (s_for PassesOwn.never rfl (i_range1 rfl T.n_range (a_cons (e_var 1) a_nil)) (g_name (i := 12) nd) (ss_one (s_for PassesOwn.never rfl (i_enum rfl T.n_enumerate rfl (a_cons (e_ix (ix_F hu) (e_var 3) (e_var 12) (fun _ _ => rfl)) a_nil)) (g_tup rfl (gs_cons (g_name (i := 13) nd) (gs_cons (g_name (i := 14) nd) gs_nil))) (ss_one (s_asg (e_tup (a_cons (e_var 12) (a_cons (e_var 13) a_nil))) (g_sub (e_var 11) (e_var 14) (s_F hu)))))))
   (ss_one (s_ret (e_callTy c_tuple (by rfl) T.n_tuple rfl (a_cons (e_comp (mask := [false, false, false, false, false, false, false, false, false, false, false, false, false, false, false, true]) rfl ⟨rfl, rfl, rfl, rfl, rfl, rfl, rfl⟩ (i_seq (e_var 3)) gk_name (fun C fp s H => (g_name (i := 15) nd)) (fun C fp s H => if_nil) (fun C fp s H => (e_callTy c_tuple (by rfl) T.n_tuple rfl (a_cons (e_comp (mask := [false, false, false, false, false, true, false, false, false, false, false, false, false, false, true, false]) rfl ⟨rfl, rfl, rfl, rfl, rfl, rfl, rfl⟩ (i_seq (e_var 15)) (gk_tup (gk_cons gk_name gm_name (gk_cons gk_name gm_name gk_nil gm_nil) (gm_cons gm_name gm_nil))) (fun C fp s H => (g_tup rfl (gs_cons (g_name (i := 5) nd) (gs_cons (g_name (i := 14) nd) gs_nil)))) (fun C fp s H => if_nil) (fun C fp s H => (e_ix (ix_F hu) (e_var 11) (e_tup (a_cons (e_var 5) (a_cons (e_ifExp (t_val (e_ix (ix_F hu) (e_var 4) (e_var 5) (fun _ _ => rfl))) (e_var 14) (e_op o_sub e_int (e_var 14))) a_nil))) (fun _ _ => rfl)))) a_nil)))) a_nil)))))))))
noncomputable abbrev s_l_way : Stmt := top 14
theorem sc_l_way : FnScope ["_law_box_here", "_law_web_here", "_law_room", "_law_many", "_law_way_here", "_law_gone_by", "_law_k", "_law_doors", "_law_fresh", "_law_door"] ["_law_box_here", "_law_web_here", "_law_room", "_law_many"] (defScope s_l_way) := ⟨rfl, rfl, rfl, by decide +kernel, rfl, by decide +kernel, by decide +kernel⟩
theorem ok_l_way {P : Program} {w : World} {K : PySem.W.Frag} {mg : Str → Option Value} {base : Heap} {f : Addr} {fd : FuncData} (T : Txt mg) (F : Fun K "_law_way" "_law_way" s_l_way f fd) (C_l_take : Cal P w K mg base 1 "_law_take" ["_law_box_here", "_law_many"] sp_l_take)
  (h : ∀ xs G Q, sp_l_way xs G Q → rd_l_way { nx := fun _ G' => Q .non G', rt := Q } (start3 ["_law_box_here", "_law_web_here", "_law_room", "_law_many", "_law_way_here", "_law_gone_by", "_law_k", "_law_doors", "_law_fresh", "_law_door"] xs) G) : Fn3 P w K mg base 2 f fd ["_law_box_here", "_law_web_here", "_law_room", "_law_many"] sp_l_way := by
 refine fn3 F sc_l_way fun cdv A outer s H E hr => ⟨rd_l_way, ?_, h⟩
 have hu := hu_of hr
 have nd := sc_l_way.nd
 exact (ss_cons (s_set (i := 4) nd (e_lst a_nil))
   (ss_cons (s_set (i := 5) nd (e_lst a_nil))
   (ss_cons (s_for PassesOwn.never rfl (i_range1 rfl T.n_range (a_cons (e_var 3) a_nil)) (g_name (i := 6) nd) (ss_cons (s_set (i := 7) nd (e_callB c_len (by rfl) T.n_len PySem.boot_len (a_cons (e_ix (ix_F hu) (e_var 1) (e_var 2) (fun _ _ => rfl)) a_nil)))
   (ss_cons (s_if (t_cmp (o_eqA hr.units) (e_var 7) e_int (nomark3 _)) (ss_one (s_ret (e_callTy c_tuple (by rfl) T.n_tuple rfl (a_cons (e_var 4) a_nil)))) ss_nil)
   (ss_cons (s_comp (i := 8) (mask := [false, false, false, false, false, false, false, false, false, true]) rfl nd ⟨rfl, rfl, rfl, rfl, rfl, rfl, rfl⟩ (i_range1 rfl T.n_range (a_cons (e_var 7) a_nil)) gk_name (fun C fp s H => (g_name (i := 9) nd)) (fun C fp s H => (if_one (t_cmp (o_notInT hr.units) (e_tup (a_cons (e_var 2) (a_cons (e_var 9) a_nil))) (e_var 5) (nomark3 _)))) (fun C fp s H => (e_var 9)))
   (ss_cons (s_if (PW3.pt (w_or (t_cmp (o_eqA hr.units) (e_var 8) (e_lst a_nil) (nomark3 _)) (w_or1 (t_cmp (o_eqA hr.units) (e_cal C_l_take (hr.mono (by decide)) (a_cons (e_var 0) (a_cons e_int a_nil))) e_int (nomark3 _))))) (ss_one (s_set (i := 8) nd (e_listRange rfl T.n_list rfl T.n_range rfl (a_cons (e_var 7) a_nil)))) ss_nil)
   (ss_cons (s_set (i := 9) nd (e_ix (ix_F hu) (e_var 8) (e_cal C_l_take (hr.mono (by decide)) (a_cons (e_var 0) (a_cons (e_callB c_len (by rfl) T.n_len PySem.boot_len (a_cons (e_var 8) a_nil)) a_nil))) (fun _ _ => rfl)))
   (ss_cons (s_expr (e_bm PySem.F.plainAttrs_list PySem.F.slot_list_append PySem.F.type_list_append m_append (e_var 4) (a_cons (e_var 9) a_nil)))
   (ss_cons (s_expr (e_bm PySem.F.plainAttrs_list PySem.F.slot_list_append PySem.F.type_list_append m_append (e_var 5) (a_cons (e_tup (a_cons (e_var 2) (a_cons (e_var 9) a_nil))) a_nil)))
   (ss_cons (s_expr (e_bm PySem.F.plainAttrs_list PySem.F.slot_list_append PySem.F.type_list_append m_append (e_var 5) (a_cons (e_ix (ix_F hu) (e_ix (ix_F hu) (e_var 1) (e_var 2) (fun _ _ => rfl)) (e_var 9) (fun _ _ => rfl)) a_nil)))
   (ss_one (s_set (i := 2) nd (e_ix (ix_F hu) (e_ix (ix_F hu) (e_ix (ix_F hu) (e_var 1) (e_var 2) (fun _ _ => rfl)) (e_var 9) (fun _ _ => rfl)) e_int (fun _ _ => rfl)))))))))))))
   (ss_one (s_ret (e_callTy c_tuple (by rfl) T.n_tuple rfl (a_cons (e_var 4) a_nil)))))))
noncomputable abbrev s_l_same : Stmt := top 15
theorem sc_l_same : FnScope ["_law_found", "_law_due", "_law_one", "_law_other"] ["_law_found", "_law_due"] (defScope s_l_same) := ⟨rfl, rfl, rfl, by decide +kernel, rfl, by decide +kernel, by decide +kernel⟩
theorem ok_l_same {P : Program} {w : World} {K : PySem.W.Frag} {mg : Str → Option Value} {base : Heap} {f : Addr} {fd : FuncData} {k : Nat} {sp sp' : Sp3} (T : Txt mg) (F : Fun K "_law_same" "_law_same" s_l_same f fd) (C_l_same : Cal P w K mg base k "_law_same" ["_law_found", "_law_due"] sp)
  (h : ∀ xs G Q, sp' xs G Q → rd_l_same sp { nx := fun _ G' => Q .non G', rt := Q } (start3 ["_law_found", "_law_due", "_law_one", "_law_other"] xs) G) : Fn3 P w K mg base (k + 1) f fd ["_law_found", "_law_due"] sp' := by
 refine fn3 F sc_l_same fun cdv A outer s H E hr => ⟨rd_l_same sp, ?_, h⟩
 have hu := hu_of hr
 have nd := sc_l_same.nd
 exact (ss_cons (s_if (t_val (e_callB c_isi (by rfl) T.n_isinstance rfl (a_cons (e_var 1) (a_cons (e_tup (a_cons (e_ty rfl T.n_list rfl) (a_cons (e_ty rfl T.n_tuple rfl) a_nil))) a_nil)))) (ss_cons (s_if (PW3.pt (w_or (t_not (t_val (e_callB c_isi (by rfl) T.n_isinstance rfl (a_cons (e_var 0) (a_cons (e_tup (a_cons (e_ty rfl T.n_list rfl) (a_cons (e_ty rfl T.n_tuple rfl) a_nil))) a_nil))))) (w_or1 (t_cmp (o_neA hr.units) (e_callB c_isi (by rfl) T.n_isinstance rfl (a_cons (e_var 0) (a_cons (e_ty rfl T.n_list rfl) a_nil))) (e_callB c_isi (by rfl) T.n_isinstance rfl (a_cons (e_var 1) (a_cons (e_ty rfl T.n_list rfl) a_nil))) (nomark3 _))))) (ss_one (s_ret e_bl)) ss_nil)
   (ss_one (s_ret (e_and (e_cmp (o_eqA hr.units) (e_callB c_len (by rfl) T.n_len PySem.boot_len (a_cons (e_var 0) a_nil)) (e_callB c_len (by rfl) T.n_len PySem.boot_len (a_cons (e_var 1) a_nil)) (nomark3 _)) (e_one (e_callB (c_all rfl) (by rfl) T.n_all rfl (a_cons (e_comp (mask := [false, false, true, true]) rfl ⟨rfl, rfl, rfl, rfl, rfl, rfl, rfl⟩ (i_zipB rfl T.n_zip rfl (a_cons (e_var 0) (a_cons (e_var 1) a_nil))) (gk_tup (gk_cons gk_name gm_name (gk_cons gk_name gm_name gk_nil gm_nil) (gm_cons gm_name gm_nil))) (fun C fp s H => (g_tup rfl (gs_cons (g_name (i := 2) nd) (gs_cons (g_name (i := 3) nd) gs_nil)))) (fun C fp s H => if_nil) (fun C fp s H => (e_cal C_l_same hr (a_cons (e_var 2) (a_cons (e_var 3) a_nil))))) a_nil))))))) ss_nil)
   (ss_cons (s_if (t_cmp o_isN (e_var 1) e_non (nomark3 _)) (ss_one (s_ret (e_cmp o_isN (e_var 0) e_non (nomark3 _)))) ss_nil)
   (ss_one (s_ret (e_and (e_callB c_isi (by rfl) T.n_isinstance rfl (a_cons (e_var 0) (a_cons (e_ty rfl T.n_int rfl) a_nil))) (e_and (e_cmp (o_eqA hr.units) (e_callB c_isi (by rfl) T.n_isinstance rfl (a_cons (e_var 0) (a_cons (e_ty rfl T.n_bool rfl) a_nil))) (e_callB c_isi (by rfl) T.n_isinstance rfl (a_cons (e_var 1) (a_cons (e_ty rfl T.n_bool rfl) a_nil))) (nomark3 _)) (e_one (e_cmp (o_eqA hr.units) (e_var 0) (e_var 1) (nomark3 _)))))))))
noncomputable abbrev s_l_story : Stmt := top 16
theorem sc_l_story : FnScope ["_law_web_here", "_law_room", "_law_way_here", "_law_path", "_law_doors", "_law_door", "_law_came"] ["_law_web_here", "_law_room", "_law_way_here"] (defScope s_l_story) := ⟨rfl, rfl, rfl, by decide +kernel, rfl, by decide +kernel, by decide +kernel⟩
theorem ok_l_story {P : Program} {w : World} {K : PySem.W.Frag} {mg : Str → Option Value} {base : Heap} {f : Addr} {fd : FuncData} (T : Txt mg) (F : Fun K "_law_story" "_law_story" s_l_story f fd) 
  (h : ∀ xs G Q, sp_l_story xs G Q → rd_l_story { nx := fun _ G' => Q .non G', rt := Q } (start3 ["_law_web_here", "_law_room", "_law_way_here", "_law_path", "_law_doors", "_law_door", "_law_came"] xs) G) : Fn3 P w K mg base 1 f fd ["_law_web_here", "_law_room", "_law_way_here"] sp_l_story := by
 refine fn3 F sc_l_story fun cdv A outer s H E hr => ⟨rd_l_story, ?_, h⟩
 have hu := hu_of hr
 have nd := sc_l_story.nd
 exact (ss_cons (s_set (i := 3) nd (e_lst a_nil))
   (ss_cons (s_set (i := 4) nd (e_callB c_len (by rfl) T.n_len PySem.boot_len (a_cons (e_ix (ix_F hu) (e_var 0) (e_var 1) (fun _ _ => rfl)) a_nil)))
   (ss_cons (s_for PassesOwn.never rfl (i_seq (e_var 2)) (g_name (i := 5) nd) (ss_cons (s_asg (e_ix (ix_F hu) (e_ix (ix_F hu) (e_var 0) (e_var 1) (fun _ _ => rfl)) (e_var 5) (fun _ _ => rfl)) (g_tup rfl (gs_cons (g_name (i := 1) nd) (gs_cons (g_name (i := 6) nd) gs_nil))))
   (ss_one (s_expr (e_bm PySem.F.plainAttrs_list PySem.F.slot_list_append PySem.F.type_list_append m_append (e_var 3) (a_cons (e_tup (a_cons (e_var 5) (a_cons (e_var 6) (a_cons (e_callB c_len (by rfl) T.n_len PySem.boot_len (a_cons (e_ix (ix_F hu) (e_var 0) (e_var 1) (fun _ _ => rfl)) a_nil)) a_nil)))) a_nil))))))
   (ss_one (s_ret (e_tup (a_cons (e_var 4) (a_cons (e_callTy c_tuple (by rfl) T.n_tuple rfl (a_cons (e_var 3) a_nil)) a_nil))))))))
noncomputable abbrev s_l_last : Stmt := top 17
theorem sc_l_last : FnScope ["_law_web_here", "_law_room", "_law_story_here", "_law_door", "_law_came", "_law_doors", "_law_back"] ["_law_web_here", "_law_room", "_law_story_here"] (defScope s_l_last) := ⟨rfl, rfl, rfl, by decide +kernel, rfl, by decide +kernel, by decide +kernel⟩
theorem ok_l_last {P : Program} {w : World} {K : PySem.W.Frag} {mg : Str → Option Value} {base : Heap} {f : Addr} {fd : FuncData} (T : Txt mg) (F : Fun K "_law_last" "_law_last" s_l_last f fd) 
  (h : ∀ xs G Q, sp_l_last xs G Q → rd_l_last { nx := fun _ G' => Q .non G', rt := Q } (start3 ["_law_web_here", "_law_room", "_law_story_here", "_law_door", "_law_came", "_law_doors", "_law_back"] xs) G) : Fn3 P w K mg base 1 f fd ["_law_web_here", "_law_room", "_law_story_here"] sp_l_last := by
 refine fn3 F sc_l_last fun cdv A outer s H E hr => ⟨rd_l_last, ?_, h⟩
 have hu := hu_of hr
 have nd := sc_l_last.nd
 exact (ss_cons (s_if (t_cmp (o_neA hr.units) (e_callB c_len (by rfl) T.n_len PySem.boot_len (a_cons (e_ix (ix_F hu) (e_var 0) (e_var 1) (fun _ _ => rfl)) a_nil)) (e_ix (ix_F hu) (e_var 2) e_int (fun _ _ => rfl)) (nomark3 _)) (ss_one (s_ret e_non)) ss_nil)
   (ss_cons (s_for PassesOwn.never rfl (i_seq (e_ix (ix_F hu) (e_var 2) e_int (fun _ _ => rfl))) (g_tup rfl (gs_cons (g_name (i := 3) nd) (gs_cons (g_name (i := 4) nd) (gs_cons (g_name (i := 5) nd) gs_nil)))) (ss_cons (s_if (t_cmp o_ge (e_var 3) (e_callB c_len (by rfl) T.n_len PySem.boot_len (a_cons (e_ix (ix_F hu) (e_var 0) (e_var 1) (fun _ _ => rfl)) a_nil)) (nomark3 _)) (ss_one (s_ret e_non)) ss_nil)
   (ss_cons (s_asg (e_ix (ix_F hu) (e_ix (ix_F hu) (e_var 0) (e_var 1) (fun _ _ => rfl)) (e_var 3) (fun _ _ => rfl)) (g_tup rfl (gs_cons (g_name (i := 1) nd) (gs_cons (g_name (i := 6) nd) gs_nil))))
   (ss_one (s_if (PW3.pt (w_or (t_cmp (o_neA hr.units) (e_var 6) (e_var 4) (nomark3 _)) (w_or1 (t_cmp (o_neA hr.units) (e_callB c_len (by rfl) T.n_len PySem.boot_len (a_cons (e_ix (ix_F hu) (e_var 0) (e_var 1) (fun _ _ => rfl)) a_nil)) (e_var 5) (nomark3 _))))) (ss_one (s_ret e_non)) ss_nil)))))
   (ss_one (s_ret (e_var 1)))))
noncomputable abbrev s_l_bent : Stmt := top 18
theorem sc_l_bent : FnScope ["_law_box_here", "_law_story_here", "_law_doors", "_law_path", "_law_way_here", "_law_at", "_law_step", "_law_spot"] ["_law_box_here", "_law_story_here"] (defScope s_l_bent) := ⟨rfl, rfl, rfl, by decide +kernel, rfl, by decide +kernel, by decide +kernel⟩
theorem ok_l_bent {P : Program} {w : World} {K : PySem.W.Frag} {mg : Str → Option Value} {base : Heap} {f : Addr} {fd : FuncData} (T : Txt mg) (F : Fun K "_law_bent" "_law_bent" s_l_bent f fd) (C_l_take : Cal P w K mg base 1 "_law_take" ["_law_box_here", "_law_many"] sp_l_take)
  (h : ∀ xs G Q, sp_l_bent xs G Q → rd_l_bent { nx := fun _ G' => Q .non G', rt := Q } (start3 ["_law_box_here", "_law_story_here", "_law_doors", "_law_path", "_law_way_here", "_law_at", "_law_step", "_law_spot"] xs) G) : Fn3 P w K mg base 2 f fd ["_law_box_here", "_law_story_here"] sp_l_bent := by
 refine fn3 F sc_l_bent fun cdv A outer s H E hr => ⟨rd_l_bent, ?_, h⟩
 have hu := hu_of hr
 have nd := sc_l_bent.nd
 exact (ss_cons (s_asg (e_var 1) (g_tup rfl (gs_cons (g_name (i := 2) nd) (gs_cons (g_name (i := 3) nd) gs_nil))))
   (ss_cons (s_set (i := 4) nd (e_cal C_l_take (hr.mono (by decide)) (a_cons (e_var 0) (a_cons e_int a_nil))))
   (ss_cons (s_if (PW3.pt (w_or (t_cmp (o_eqA hr.units) (e_var 3) (e_tup a_nil) (nomark3 _)) (w_or1 (t_cmp (o_eqA hr.units) (e_var 4) e_int (nomark3 _))))) (ss_one (s_ret (e_tup (a_cons (e_callB (c_min2 rfl) (by rfl) T.n_min rfl (a_cons e_int (a_cons (e_callB (c_max rfl) (by rfl) T.n_max rfl (a_cons e_int (a_cons (e_op o_addG (e_var 2) (e_ix (ix_F hu) (e_lst (a_cons e_int (a_cons (e_un u_neg e_int) a_nil))) (e_cal C_l_take (hr.mono (by decide)) (a_cons (e_var 0) (a_cons e_int a_nil))) (fun _ _ => rfl))) a_nil))) a_nil))) (a_cons (e_var 3) a_nil))))) ss_nil)
   (ss_cons (s_set (i := 5) nd (e_cal C_l_take (hr.mono (by decide)) (a_cons (e_var 0) (a_cons (e_callB c_len (by rfl) T.n_len PySem.boot_len (a_cons (e_var 3) a_nil)) a_nil))))
   (ss_cons (s_if (t_cmp (o_eqA hr.units) (e_var 4) e_int (nomark3 _)) (ss_one (s_ret (e_tup (a_cons (e_var 2) (a_cons (e_op o_addG (e_slice sl_F (e_var 3) p_none (p_some (e_var 5))) (e_slice sl_F (e_var 3) (p_some (e_op o_addG (e_var 5) e_int)) p_none)) a_nil))))) ss_nil)
   (ss_cons (s_if (t_cmp (o_eqA hr.units) (e_var 4) e_int (nomark3 _)) (ss_one (s_ret (e_tup (a_cons (e_var 2) (a_cons (e_slice sl_F (e_op o_addG (e_var 3) (e_tup (a_cons (e_ix (ix_F hu) (e_var 3) (e_var 5) (fun _ _ => rfl)) a_nil))) p_none (p_some e_int)) a_nil))))) ss_nil)
   (ss_cons (s_set (i := 6) nd (e_callTy c_listA (by rfl) T.n_list rfl (a_cons (e_ix (ix_F hu) (e_var 3) (e_var 5) (fun _ _ => rfl)) a_nil)))
   (ss_cons (s_set (i := 7) nd (e_cal C_l_take (hr.mono (by decide)) (a_cons (e_var 0) (a_cons e_int a_nil))))
   (ss_cons (s_asg (e_callB (c_min2 rfl) (by rfl) T.n_min rfl (a_cons e_int (a_cons (e_callB (c_max rfl) (by rfl) T.n_max rfl (a_cons e_int (a_cons (e_op o_addG (e_ix (ix_F hu) (e_var 6) (e_var 7) (fun _ _ => rfl)) (e_ix (ix_F hu) (e_lst (a_cons e_int (a_cons (e_un u_neg e_int) a_nil))) (e_cal C_l_take (hr.mono (by decide)) (a_cons (e_var 0) (a_cons e_int a_nil))) (fun _ _ => rfl))) a_nil))) a_nil))) (g_sub (e_var 6) (e_var 7) (s_F hu)))
   (ss_one (s_ret (e_tup (a_cons (e_var 2) (a_cons (e_op o_addG (e_op o_addG (e_slice sl_F (e_var 3) p_none (p_some (e_var 5))) (e_tup (a_cons (e_callTy c_tuple (by rfl) T.n_tuple rfl (a_cons (e_var 6) a_nil)) a_nil))) (e_slice sl_F (e_var 3) (p_some (e_op o_addG (e_var 5) e_int)) p_none)) a_nil))))))))))))))
noncomputable abbrev s_l_right : Stmt := top 19
theorem sc_l_right : FnScope ["_law_web_here", "_law_story_here", "_law_lasts", "_law_due", "_law_turn", "_law_found", "_law_room", "_law_pair"] ["_law_web_here", "_law_story_here"] (defScope s_l_right) := ⟨rfl, rfl, rfl, by decide +kernel, rfl, by decide +kernel, by decide +kernel⟩
theorem ok_l_right {P : Program} {w : World} {K : PySem.W.Frag} {mg : Str → Option Value} {base : Heap} {f : Addr} {fd : FuncData} (T : Txt mg) (F : Fun K "_law_right" "_law_right" s_l_right f fd) (C_l_last : Cal P w K mg base 1 "_law_last" ["_law_web_here", "_law_room", "_law_story_here"] sp_l_last) (C_stands : Cal P w K mg base 4 "stands" ["web", "story"] sp_stands) (C_l_same : Cal P w K mg base 4 "_law_same" ["_law_found", "_law_due"] sp_l_same)
  (h : ∀ xs G Q, sp_l_right xs G Q → rd_l_right { nx := fun _ G' => Q .non G', rt := Q } (start3 ["_law_web_here", "_law_story_here", "_law_lasts", "_law_due", "_law_turn", "_law_found", "_law_room", "_law_pair"] xs) G) : Fn3 P w K mg base 5 f fd ["_law_web_here", "_law_story_here"] sp_l_right := by
 refine fn3 F sc_l_right fun cdv A outer s H E hr => ⟨rd_l_right, ?_, h⟩
 have hu := hu_of hr
 have nd := sc_l_right.nd
 exact (ss_cons (s_comp (i := 2) (mask := [false, false, false, false, false, false, true, false]) rfl nd ⟨rfl, rfl, rfl, rfl, rfl, rfl, rfl⟩ (i_range1 rfl T.n_range (a_cons (e_callB c_len (by rfl) T.n_len PySem.boot_len (a_cons (e_var 0) a_nil)) a_nil)) gk_name (fun C fp s H => (g_name (i := 6) nd)) (fun C fp s H => if_nil) (fun C fp s H => (e_tup (a_cons (e_var 6) (a_cons (e_cal C_l_last (hr.mono (by decide)) (a_cons (e_var 0) (a_cons (e_var 6) (a_cons (e_var 1) a_nil)))) a_nil)))))
   (ss_cons (s_comp (i := 3) (mask := [false, false, false, false, false, false, false, true]) rfl nd ⟨rfl, rfl, rfl, rfl, rfl, rfl, rfl⟩ (i_seq (e_var 2)) gk_name (fun C fp s H => (g_name (i := 7) nd)) (fun C fp s H => (if_one (t_cmp o_notN (e_ix (ix_F hu) (e_var 7) e_int (fun _ _ => rfl)) e_non (nomark3 _)))) (fun C fp s H => (e_var 7)))
   (ss_cons (s_for PassesOwn.never rfl (i_range1 rfl T.n_range (a_cons e_int a_nil)) (g_name (i := 4) nd) (ss_cons (s_set (i := 5) nd (e_cal C_stands (hr.mono (by decide)) (a_cons (e_var 0) (a_cons (e_var 1) a_nil))))
   (ss_cons (s_if (t_not (t_val (e_cal C_l_same (hr.mono (by decide)) (a_cons (e_var 5) (a_cons (e_var 3) a_nil))))) (ss_one (s_ret e_bl)) ss_nil)
   (ss_one (s_expr (e_bm PySem.F.plainAttrs_list PySem.F.slot_list_append PySem.F.type_list_append m_append (e_var 5) (a_cons (e_tup (a_cons e_int (a_cons e_int a_nil))) a_nil)))))))
   (ss_one (s_ret e_bl)))))
noncomputable abbrev s_law : Stmt := top 20
theorem sc_law : FnScope ["_law_script", "_law_box_here", "_law_size", "_law_web_here", "_law_other", "_law_many", "_law_room", "_law_story_here"] ["_law_script"] (defScope s_law) := ⟨rfl, rfl, rfl, by decide +kernel, rfl, by decide +kernel, by decide +kernel⟩
theorem ok_law {P : Program} {w : World} {K : PySem.W.Frag} {mg : Str → Option Value} {base : Heap} {f : Addr} {fd : FuncData} (T : Txt mg) (F : Fun K "law" "law" s_law f fd) (C_l_boxes : Cal P w K mg base 2 "_law_boxes" ["_law_script", "_law_most"] sp_l_boxes) (C_l_take : Cal P w K mg base 1 "_law_take" ["_law_box_here", "_law_many"] sp_l_take) (C_l_web : Cal P w K mg base 2 "_law_web" ["_law_box_here", "_law_size", "_law_more"] sp_l_web) (C_l_story : Cal P w K mg base 1 "_law_story" ["_law_web_here", "_law_room", "_law_way_here"] sp_l_story) (C_l_way : Cal P w K mg base 2 "_law_way" ["_law_box_here", "_law_web_here", "_law_room", "_law_many"] sp_l_way) (C_l_right : Cal P w K mg base 5 "_law_right" ["_law_web_here", "_law_story_here"] sp_l_right) (C_l_bent : Cal P w K mg base 2 "_law_bent" ["_law_box_here", "_law_story_here"] sp_l_bent)
  (h : ∀ xs G Q, sp_law xs G Q → rd_law { nx := fun _ G' => Q .non G', rt := Q } (start3 ["_law_script", "_law_box_here", "_law_size", "_law_web_here", "_law_other", "_law_many", "_law_room", "_law_story_here"] xs) G) : Fn3 P w K mg base 6 f fd ["_law_script"] sp_law := by
 refine fn3 F sc_law fun cdv A outer s H E hr => ⟨rd_law, ?_, h⟩
 have hu := hu_of hr
 have nd := sc_law.nd
 exact (ss_cons (s_for PassesOwn.never rfl (i_seq (e_cal C_l_boxes (hr.mono (by decide)) (a_cons (e_var 0) (a_cons e_int a_nil)))) (g_name (i := 1) nd) (ss_cons (s_set (i := 2) nd (e_ix (ix_F hu) (e_lst (a_cons (e_op o_addF e_int (e_cal C_l_take (hr.mono (by decide)) (a_cons (e_var 1) (a_cons e_int a_nil)))) (a_cons (e_op o_addF e_int (e_cal C_l_take (hr.mono (by decide)) (a_cons (e_var 1) (a_cons e_int a_nil)))) a_nil))) (e_callTy c_int (by rfl) T.n_int rfl (a_cons (e_cmp (o_eqA hr.units) (e_cal C_l_take (hr.mono (by decide)) (a_cons (e_var 1) (a_cons e_int a_nil))) e_int (nomark3 _)) a_nil)) (fun _ _ => rfl)))
   (ss_cons (s_set (i := 3) nd (e_cal C_l_web (hr.mono (by decide)) (a_cons (e_var 1) (a_cons (e_var 2) (a_cons (e_cal C_l_take (hr.mono (by decide)) (a_cons (e_var 1) (a_cons e_int a_nil))) a_nil)))))
   (ss_cons (s_set (i := 4) nd (e_cal C_l_web (hr.mono (by decide)) (a_cons (e_var 1) (a_cons (e_op o_addF e_int (e_cal C_l_take (hr.mono (by decide)) (a_cons (e_var 1) (a_cons e_int a_nil)))) (a_cons (e_cal C_l_take (hr.mono (by decide)) (a_cons (e_var 1) (a_cons e_int a_nil))) a_nil)))))
   (ss_one (s_for PassesOwn.never rfl (i_seq (e_tup (a_cons e_int (a_cons e_int (a_cons e_int (a_cons (e_cal C_l_take (hr.mono (by decide)) (a_cons (e_var 1) (a_cons e_int a_nil))) a_nil)))))) (g_name (i := 5) nd) (ss_cons (s_set (i := 6) nd (e_cal C_l_take (hr.mono (by decide)) (a_cons (e_var 1) (a_cons (e_var 2) a_nil))))
   (ss_cons (s_set (i := 7) nd (e_cal C_l_story (hr.mono (by decide)) (a_cons (e_var 3) (a_cons (e_var 6) (a_cons (e_cal C_l_way (hr.mono (by decide)) (a_cons (e_var 1) (a_cons (e_var 3) (a_cons (e_var 6) (a_cons (e_var 5) a_nil))))) a_nil)))))
   (ss_cons (s_if (PW3.pt (w_or (t_not (t_val (e_cal C_l_right (hr.mono (by decide)) (a_cons (e_var 3) (a_cons (e_var 7) a_nil))))) (w_or1 (t_not (t_val (e_cal C_l_right (hr.mono (by decide)) (a_cons (e_var 3) (a_cons (e_cal C_l_bent (hr.mono (by decide)) (a_cons (e_var 1) (a_cons (e_var 7) a_nil))) a_nil)))))))) (ss_one (s_ret e_bl)) ss_nil)
   (ss_one (s_if (t_not (t_val (e_cal C_l_right (hr.mono (by decide)) (a_cons (e_var 4) (a_cons (e_var 7) a_nil))))) (ss_one (s_ret e_bl)) ss_nil)))))))))))
   (ss_one (s_ret e_bl)))
end W
namespace W
open PySem PySem.Spec PyProof.Rows L2 L3
theorem fn_false {P : Program} {w : World} {K : PySem.W.Frag} {mg : Str → Option Value} {base : Heap} {k : Nat} {f : Addr} {fd : FuncData} {ps : List Str} : Fn3 P w K mg base k f fd ps (fun _ _ _ => False) := by
 refine ⟨fun vs H Q E h => h.1, ?_⟩
 intros
 rename_i h
 exact absurd h (by rintro ⟨_, _, _, _, _, h⟩; exact h)
theorem ln1 {α : Type} {us : List α} {C : List α → Prop} (h : us.length = 1) (k : ∀ a0, C [a0]) : C us := by
 match us, h with
 | [a0], _ => exact k a0
theorem ln2 {α : Type} {us : List α} {C : List α → Prop} (h : us.length = 2) (k : ∀ a0 a1, C [a0, a1]) : C us := by
 match us, h with
 | [a0, a1], _ => exact k a0 a1
theorem ln3 {α : Type} {us : List α} {C : List α → Prop} (h : us.length = 3) (k : ∀ a0 a1 a2, C [a0, a1, a2]) : C us := by
 match us, h with
 | [a0, a1, a2], _ => exact k a0 a1 a2
theorem ln4 {α : Type} {us : List α} {C : List α → Prop} (h : us.length = 4) (k : ∀ a0 a1 a2 a3, C [a0, a1, a2, a3]) : C us := by
 match us, h with
 | [a0, a1, a2, a3], _ => exact k a0 a1 a2 a3
theorem mono_ends_on : Mono sp_ends_on := by
 unfold sp_ends_on; (intro xs G Q Q' hq; (repeat' (first | (refine Exists.imp fun _ => ?_) | (refine And.imp_right ?_))); intro k G' s; refine ⟨fun a => hq _ _ ((k G' s).1 a), ?_⟩; intros; apply hq; apply (k G' s).2 <;> assumption)
theorem len_ends_on : ∀ xs G Q, sp_ends_on xs G Q → xs.length = (["web", "room", "way"] : List Str).length := by
 intro xs G Q h; unfold sp_ends_on at h; repeat (obtain ⟨_, h⟩ := h)
 subst_vars; rfl
theorem mono_gone : Mono sp_gone := by
 unfold sp_gone; (intro xs G Q Q' hq; (repeat' (first | (refine Exists.imp fun _ => ?_) | (refine And.imp_right ?_))); intro k G' s; refine ⟨fun a => hq _ _ ((k G' s).1 a), ?_⟩; intros; apply hq; apply (k G' s).2 <;> assumption)
theorem len_gone : ∀ xs G Q, sp_gone xs G Q → xs.length = (["web", "room", "way"] : List Str).length := by
 intro xs G Q h; unfold sp_gone at h; repeat (obtain ⟨_, h⟩ := h)
 subst_vars; rfl
theorem mono_seen : Mono sp_seen := by
 unfold sp_seen; (intro xs G Q Q' hq; (repeat' (first | (refine Exists.imp fun _ => ?_) | (refine And.imp_right ?_))); intro k; intros; apply hq; apply k <;> assumption)
theorem len_seen : ∀ xs G Q, sp_seen xs G Q → xs.length = (["web", "room", "way"] : List Str).length := by
 intro xs G Q h; unfold sp_seen at h; repeat (obtain ⟨_, h⟩ := h)
 subst_vars; rfl
theorem mono_way_of : Mono sp_way_of := by
 unfold sp_way_of; (intro xs G Q Q' hq; (repeat' (first | (refine Exists.imp fun _ => ?_) | (refine And.imp_right ?_))); intro k; intros; apply hq; apply k <;> assumption)
theorem len_way_of : ∀ xs G Q, sp_way_of xs G Q → xs.length = (["story"] : List Str).length := by
 intro xs G Q h; unfold sp_way_of at h; repeat (obtain ⟨_, h⟩ := h)
 subst_vars; rfl
theorem mono_seen_in : Mono sp_seen_in := by
 unfold sp_seen_in; (intro xs G Q Q' hq; (repeat' (first | (refine Exists.imp fun _ => ?_) | (refine And.imp_right ?_))); intro k; intros; apply hq; apply k <;> assumption)
theorem len_seen_in : ∀ xs G Q, sp_seen_in xs G Q → xs.length = (["story"] : List Str).length := by
 intro xs G Q h; unfold sp_seen_in at h; repeat (obtain ⟨_, h⟩ := h)
 subst_vars; rfl
theorem mono_fits : Mono sp_fits := by
 unfold sp_fits; (intro xs G Q Q' hq; (repeat' (first | (refine Exists.imp fun _ => ?_) | (refine And.imp_right ?_))); intro k; intros; apply hq; apply k <;> assumption)
theorem len_fits : ∀ xs G Q, sp_fits xs G Q → xs.length = (["web", "room", "story"] : List Str).length := by
 intro xs G Q h; unfold sp_fits at h; repeat (obtain ⟨_, h⟩ := h)
 subst_vars; rfl
theorem mono_stands : Mono sp_stands := by
 unfold sp_stands; (intro xs G Q Q' hq; (repeat' (first | (refine Exists.imp fun _ => ?_) | (refine And.imp_right ?_))); intro k; intros; apply hq; apply k <;> assumption)
theorem len_stands : ∀ xs G Q, sp_stands xs G Q → xs.length = (["web", "story"] : List Str).length := by
 intro xs G Q h; unfold sp_stands at h; repeat (obtain ⟨_, h⟩ := h)
 subst_vars; rfl
theorem mono_l_box : Mono sp_l_box := by
 unfold sp_l_box; (intro xs G Q Q' hq; (repeat' (first | (refine Exists.imp fun _ => ?_) | (refine And.imp_right ?_))); intro k; intros; apply hq; apply k <;> assumption)
theorem len_l_box : ∀ xs G Q, sp_l_box xs G Q → xs.length = (["_law_script", "_law_k"] : List Str).length := by
 intro xs G Q h; unfold sp_l_box at h; repeat (obtain ⟨_, h⟩ := h)
 subst_vars; rfl
theorem mono_l_take : Mono sp_l_take := by
 unfold sp_l_take; (intro xs G Q Q' hq; (repeat' (first | (refine Exists.imp fun _ => ?_) | (refine And.imp_right ?_))); intro k; intros; apply hq; apply k <;> assumption)
theorem len_l_take : ∀ xs G Q, sp_l_take xs G Q → xs.length = (["_law_box_here", "_law_many"] : List Str).length := by
 intro xs G Q h; unfold sp_l_take at h; repeat (obtain ⟨_, h⟩ := h)
 subst_vars; rfl
theorem mono_l_boxes : Mono sp_l_boxes := by
 unfold sp_l_boxes; (intro xs G Q Q' hq; (repeat' (first | (refine Exists.imp fun _ => ?_) | (refine And.imp_right ?_))); intro k; intros; apply hq; apply k <;> assumption)
theorem len_l_boxes : ∀ xs G Q, sp_l_boxes xs G Q → xs.length = (["_law_script", "_law_most"] : List Str).length := by
 intro xs G Q h; unfold sp_l_boxes at h; repeat (obtain ⟨_, h⟩ := h)
 subst_vars; rfl
theorem mono_l_web : Mono sp_l_web := by
 unfold sp_l_web; (intro xs G Q Q' hq; (repeat' (first | (refine Exists.imp fun _ => ?_) | (refine And.imp_right ?_))); intro k; intros; apply hq; apply k <;> assumption)
theorem len_l_web : ∀ xs G Q, sp_l_web xs G Q → xs.length = (["_law_box_here", "_law_size", "_law_more"] : List Str).length := by
 intro xs G Q h; unfold sp_l_web at h; repeat (obtain ⟨_, h⟩ := h)
 subst_vars; rfl
theorem mono_l_way : Mono sp_l_way := by
 unfold sp_l_way; (intro xs G Q Q' hq; (repeat' (first | (refine Exists.imp fun _ => ?_) | (refine And.imp_right ?_))); intro k; intros; apply hq; apply k <;> assumption)
theorem len_l_way : ∀ xs G Q, sp_l_way xs G Q → xs.length = (["_law_box_here", "_law_web_here", "_law_room", "_law_many"] : List Str).length := by
 intro xs G Q h; unfold sp_l_way at h; repeat (obtain ⟨_, h⟩ := h)
 subst_vars; rfl
theorem mono_l_story : Mono sp_l_story := by
 unfold sp_l_story; (intro xs G Q Q' hq; (repeat' (first | (refine Exists.imp fun _ => ?_) | (refine And.imp_right ?_))); intro k; intros; apply hq; apply k <;> assumption)
theorem len_l_story : ∀ xs G Q, sp_l_story xs G Q → xs.length = (["_law_web_here", "_law_room", "_law_way_here"] : List Str).length := by
 intro xs G Q h; unfold sp_l_story at h; repeat (obtain ⟨_, h⟩ := h)
 subst_vars; rfl
theorem mono_l_last : Mono sp_l_last := by
 unfold sp_l_last; (intro xs G Q Q' hq; (repeat' (first | (refine Exists.imp fun _ => ?_) | (refine And.imp_right ?_))); intro k; intros; apply hq; apply k <;> assumption)
theorem len_l_last : ∀ xs G Q, sp_l_last xs G Q → xs.length = (["_law_web_here", "_law_room", "_law_story_here"] : List Str).length := by
 intro xs G Q h; unfold sp_l_last at h; repeat (obtain ⟨_, h⟩ := h)
 subst_vars; rfl
theorem mono_l_bent : Mono sp_l_bent := by
 unfold sp_l_bent; (intro xs G Q Q' hq; (repeat' (first | (refine Exists.imp fun _ => ?_) | (refine And.imp_right ?_))); intro k; intros; apply hq; apply k <;> assumption)
theorem len_l_bent : ∀ xs G Q, sp_l_bent xs G Q → xs.length = (["_law_box_here", "_law_story_here"] : List Str).length := by
 intro xs G Q h; unfold sp_l_bent at h; repeat (obtain ⟨_, h⟩ := h)
 subst_vars; rfl
theorem mono_l_right : Mono sp_l_right := by
 unfold sp_l_right; (intro xs G Q Q' hq; (repeat' (first | (refine Exists.imp fun _ => ?_) | (refine And.imp_right ?_))); intro k; intros; apply hq; apply k <;> assumption)
theorem len_l_right : ∀ xs G Q, sp_l_right xs G Q → xs.length = (["_law_web_here", "_law_story_here"] : List Str).length := by
 intro xs G Q h; unfold sp_l_right at h; repeat (obtain ⟨_, h⟩ := h)
 subst_vars; rfl
theorem mono_al (n : Nat) : Mono (sp_al n) := by
 unfold sp_al; (intro xs G Q Q' hq; (repeat' (first | (refine Exists.imp fun _ => ?_) | (refine And.imp_right ?_))); intro k; intros; apply hq; apply k <;> assumption)
theorem len_al (n : Nat) : ∀ xs G Q, sp_al n xs G Q → xs.length = (["_law_found", "_law_due"] : List Str).length := by
 intro xs G Q h; unfold sp_al at h; repeat (obtain ⟨_, h⟩ := h)
 subst_vars; rfl
noncomputable def spLaw (K : PySem.W.Frag) : Sp := dn K 1 sp_law
theorem all_mk {l : PySem.W.OpenLaw} {w : World} {K : PySem.W.Frag} {h : Heap} {mg : Str → Option Value} {fa : Addr} {f0 f1 f2 f3 f4 f5 f6 f7 f8 f9 f10 f11 f12 f13 f14 f15 f16 f17 : Addr}
  (X : K.In h) (G : h.Ns mainGlobals mg) (hfa : mg "law" = some (.ref fa))
  {od0 an0 od1 an1 od2 an2 od3 an3 od4 an4 od5 an5 od6 an6 od7 an7 od8 an8 od9 an9 od10 an10 od11 an11 od12 an12 od13 an13 od14 an14 od15 an15 od16 an16 od17 an17 : Option Addr} {sl0 sl1 sl2 sl3 sl4 sl5 sl6 sl7 sl8 sl9 sl10 sl11 sl12 sl13 sl14 sl15 sl16 sl17 : Array (Option Value)} {oc0 kV0 dc0 pm0 cd0 ct0 oc1 kV1 dc1 pm1 cd1 ct1 oc2 kV2 dc2 pm2 cd2 ct2 oc3 kV3 dc3 pm3 cd3 ct3 oc4 kV4 dc4 pm4 cd4 ct4 oc5 kV5 dc5 pm5 cd5 ct5 oc6 kV6 dc6 pm6 cd6 ct6 oc7 kV7 dc7 pm7 cd7 ct7 oc8 kV8 dc8 pm8 cd8 ct8 oc9 kV9 dc9 pm9 cd9 ct9 oc10 kV10 dc10 pm10 cd10 ct10 oc11 kV11 dc11 pm11 cd11 ct11 oc12 kV12 dc12 pm12 cd12 ct12 oc13 kV13 dc13 pm13 cd13 ct13 oc14 kV14 dc14 pm14 cd14 ct14 oc15 kV15 dc15 pm15 cd15 ct15 oc16 kV16 dc16 pm16 cd16 ct16 oc17 kV17 dc17 pm17 cd17 ct17 : Value}
  (a0 : PySem.W.nsIn K mainGlobals "ends_on" = some (some (.ref f0))) (l0 : K.lookup f0 = some ⟨oc0, od0, .func (PySem.W.fnOf "ends_on" "ends_on" (defArgs s_ends_on) (defBody s_ends_on) (defScope s_ends_on) .none kV0 dc0 pm0 an0 cd0 ct0), sl0⟩) (c0 : PySem.W.codeIn K cd0 "ends_on" = true) (k0 : PySem.W.keepIn K (.ref f0) = true)
  (a1 : PySem.W.nsIn K mainGlobals "gone" = some (some (.ref f1))) (l1 : K.lookup f1 = some ⟨oc1, od1, .func (PySem.W.fnOf "gone" "gone" (defArgs s_gone) (defBody s_gone) (defScope s_gone) .none kV1 dc1 pm1 an1 cd1 ct1), sl1⟩) (c1 : PySem.W.codeIn K cd1 "gone" = true) (k1 : PySem.W.keepIn K (.ref f1) = true)
  (a2 : PySem.W.nsIn K mainGlobals "seen" = some (some (.ref f2))) (l2 : K.lookup f2 = some ⟨oc2, od2, .func (PySem.W.fnOf "seen" "seen" (defArgs s_seen) (defBody s_seen) (defScope s_seen) .none kV2 dc2 pm2 an2 cd2 ct2), sl2⟩) (c2 : PySem.W.codeIn K cd2 "seen" = true) (k2 : PySem.W.keepIn K (.ref f2) = true)
  (a3 : PySem.W.nsIn K mainGlobals "way_of" = some (some (.ref f3))) (l3 : K.lookup f3 = some ⟨oc3, od3, .func (PySem.W.fnOf "way_of" "way_of" (defArgs s_way_of) (defBody s_way_of) (defScope s_way_of) .none kV3 dc3 pm3 an3 cd3 ct3), sl3⟩) (c3 : PySem.W.codeIn K cd3 "way_of" = true) (k3 : PySem.W.keepIn K (.ref f3) = true)
  (a4 : PySem.W.nsIn K mainGlobals "seen_in" = some (some (.ref f4))) (l4 : K.lookup f4 = some ⟨oc4, od4, .func (PySem.W.fnOf "seen_in" "seen_in" (defArgs s_seen_in) (defBody s_seen_in) (defScope s_seen_in) .none kV4 dc4 pm4 an4 cd4 ct4), sl4⟩) (c4 : PySem.W.codeIn K cd4 "seen_in" = true) (k4 : PySem.W.keepIn K (.ref f4) = true)
  (a5 : PySem.W.nsIn K mainGlobals "fits" = some (some (.ref f5))) (l5 : K.lookup f5 = some ⟨oc5, od5, .func (PySem.W.fnOf "fits" "fits" (defArgs s_fits) (defBody s_fits) (defScope s_fits) .none kV5 dc5 pm5 an5 cd5 ct5), sl5⟩) (c5 : PySem.W.codeIn K cd5 "fits" = true) (k5 : PySem.W.keepIn K (.ref f5) = true)
  (a6 : PySem.W.nsIn K mainGlobals "stands" = some (some (.ref f6))) (l6 : K.lookup f6 = some ⟨oc6, od6, .func (PySem.W.fnOf "stands" "stands" (defArgs s_stands) (defBody s_stands) (defScope s_stands) .none kV6 dc6 pm6 an6 cd6 ct6), sl6⟩) (c6 : PySem.W.codeIn K cd6 "stands" = true) (k6 : PySem.W.keepIn K (.ref f6) = true)
  (a7 : PySem.W.nsIn K mainGlobals "_law_box" = some (some (.ref f7))) (l7 : K.lookup f7 = some ⟨oc7, od7, .func (PySem.W.fnOf "_law_box" "_law_box" (defArgs s_l_box) (defBody s_l_box) (defScope s_l_box) .none kV7 dc7 pm7 an7 cd7 ct7), sl7⟩) (c7 : PySem.W.codeIn K cd7 "_law_box" = true) (k7 : PySem.W.keepIn K (.ref f7) = true)
  (a8 : PySem.W.nsIn K mainGlobals "_law_take" = some (some (.ref f8))) (l8 : K.lookup f8 = some ⟨oc8, od8, .func (PySem.W.fnOf "_law_take" "_law_take" (defArgs s_l_take) (defBody s_l_take) (defScope s_l_take) .none kV8 dc8 pm8 an8 cd8 ct8), sl8⟩) (c8 : PySem.W.codeIn K cd8 "_law_take" = true) (k8 : PySem.W.keepIn K (.ref f8) = true)
  (a9 : PySem.W.nsIn K mainGlobals "_law_boxes" = some (some (.ref f9))) (l9 : K.lookup f9 = some ⟨oc9, od9, .func (PySem.W.fnOf "_law_boxes" "_law_boxes" (defArgs s_l_boxes) (defBody s_l_boxes) (defScope s_l_boxes) .none kV9 dc9 pm9 an9 cd9 ct9), sl9⟩) (c9 : PySem.W.codeIn K cd9 "_law_boxes" = true) (k9 : PySem.W.keepIn K (.ref f9) = true)
  (a10 : PySem.W.nsIn K mainGlobals "_law_web" = some (some (.ref f10))) (l10 : K.lookup f10 = some ⟨oc10, od10, .func (PySem.W.fnOf "_law_web" "_law_web" (defArgs s_l_web) (defBody s_l_web) (defScope s_l_web) .none kV10 dc10 pm10 an10 cd10 ct10), sl10⟩) (c10 : PySem.W.codeIn K cd10 "_law_web" = true) (k10 : PySem.W.keepIn K (.ref f10) = true)
  (a11 : PySem.W.nsIn K mainGlobals "_law_way" = some (some (.ref f11))) (l11 : K.lookup f11 = some ⟨oc11, od11, .func (PySem.W.fnOf "_law_way" "_law_way" (defArgs s_l_way) (defBody s_l_way) (defScope s_l_way) .none kV11 dc11 pm11 an11 cd11 ct11), sl11⟩) (c11 : PySem.W.codeIn K cd11 "_law_way" = true) (k11 : PySem.W.keepIn K (.ref f11) = true)
  (a12 : PySem.W.nsIn K mainGlobals "_law_same" = some (some (.ref f12))) (l12 : K.lookup f12 = some ⟨oc12, od12, .func (PySem.W.fnOf "_law_same" "_law_same" (defArgs s_l_same) (defBody s_l_same) (defScope s_l_same) .none kV12 dc12 pm12 an12 cd12 ct12), sl12⟩) (c12 : PySem.W.codeIn K cd12 "_law_same" = true) (k12 : PySem.W.keepIn K (.ref f12) = true)
  (a13 : PySem.W.nsIn K mainGlobals "_law_story" = some (some (.ref f13))) (l13 : K.lookup f13 = some ⟨oc13, od13, .func (PySem.W.fnOf "_law_story" "_law_story" (defArgs s_l_story) (defBody s_l_story) (defScope s_l_story) .none kV13 dc13 pm13 an13 cd13 ct13), sl13⟩) (c13 : PySem.W.codeIn K cd13 "_law_story" = true) (k13 : PySem.W.keepIn K (.ref f13) = true)
  (a14 : PySem.W.nsIn K mainGlobals "_law_last" = some (some (.ref f14))) (l14 : K.lookup f14 = some ⟨oc14, od14, .func (PySem.W.fnOf "_law_last" "_law_last" (defArgs s_l_last) (defBody s_l_last) (defScope s_l_last) .none kV14 dc14 pm14 an14 cd14 ct14), sl14⟩) (c14 : PySem.W.codeIn K cd14 "_law_last" = true) (k14 : PySem.W.keepIn K (.ref f14) = true)
  (a15 : PySem.W.nsIn K mainGlobals "_law_bent" = some (some (.ref f15))) (l15 : K.lookup f15 = some ⟨oc15, od15, .func (PySem.W.fnOf "_law_bent" "_law_bent" (defArgs s_l_bent) (defBody s_l_bent) (defScope s_l_bent) .none kV15 dc15 pm15 an15 cd15 ct15), sl15⟩) (c15 : PySem.W.codeIn K cd15 "_law_bent" = true) (k15 : PySem.W.keepIn K (.ref f15) = true)
  (a16 : PySem.W.nsIn K mainGlobals "_law_right" = some (some (.ref f16))) (l16 : K.lookup f16 = some ⟨oc16, od16, .func (PySem.W.fnOf "_law_right" "_law_right" (defArgs s_l_right) (defBody s_l_right) (defScope s_l_right) .none kV16 dc16 pm16 an16 cd16 ct16), sl16⟩) (c16 : PySem.W.codeIn K cd16 "_law_right" = true) (k16 : PySem.W.keepIn K (.ref f16) = true)
  (a17 : PySem.W.nsIn K mainGlobals "law" = some (some (.ref f17))) (l17 : K.lookup f17 = some ⟨oc17, od17, .func (PySem.W.fnOf "law" "law" (defArgs s_law) (defBody s_law) (defScope s_law) .none kV17 dc17 pm17 an17 cd17 ct17), sl17⟩) (c17 : PySem.W.codeIn K cd17 "law" = true) (k17 : PySem.W.keepIn K (.ref f17) = true)
  (z_abs : PySem.W.nsIn K mainGlobals "abs" = some none)
  (z_all : PySem.W.nsIn K mainGlobals "all" = some none)
  (z_bool : PySem.W.nsIn K mainGlobals "bool" = some none)
  (z_enumerate : PySem.W.nsIn K mainGlobals "enumerate" = some none)
  (z_int : PySem.W.nsIn K mainGlobals "int" = some none)
  (z_isinstance : PySem.W.nsIn K mainGlobals "isinstance" = some none)
  (z_len : PySem.W.nsIn K mainGlobals "len" = some none)
  (z_list : PySem.W.nsIn K mainGlobals "list" = some none)
  (z_max : PySem.W.nsIn K mainGlobals "max" = some none)
  (z_min : PySem.W.nsIn K mainGlobals "min" = some none)
  (z_range : PySem.W.nsIn K mainGlobals "range" = some none)
  (z_sum : PySem.W.nsIn K mainGlobals "sum" = some none)
  (z_tuple : PySem.W.nsIn K mainGlobals "tuple" = some none)
  (z_zip : PySem.W.nsIn K mainGlobals "zip" = some none) :
  ∃ fd : FuncData, (∀ (s : Shared) (v : Value), BindsTo s fd ⟨[v], []⟩ [("_law_script", v)]) ∧ ∀ base : Heap, K.In base → base.Ns mainGlobals mg → FnOk l.prog w K mg base CX0 6 fa fd ["_law_script"] (spLaw K) := by
 have e := hfa.symm.trans (PySem.W.mg_of X G a17)
 cases e
 have T : Txt mg := ⟨PySem.W.mg_none_of X G z_abs, PySem.W.mg_none_of X G z_all, PySem.W.mg_none_of X G z_bool, PySem.W.mg_none_of X G z_enumerate, PySem.W.mg_none_of X G z_int, PySem.W.mg_none_of X G z_isinstance, PySem.W.mg_none_of X G z_len, PySem.W.mg_none_of X G z_list, PySem.W.mg_none_of X G z_max, PySem.W.mg_none_of X G z_min, PySem.W.mg_none_of X G z_range, PySem.W.mg_none_of X G z_sum, PySem.W.mg_none_of X G z_tuple, PySem.W.mg_none_of X G z_zip⟩
 have F0 := fun_mk (st := s_ends_on) l0 c0 k0
 have F1 := fun_mk (st := s_gone) l1 c1 k1
 have F2 := fun_mk (st := s_seen) l2 c2 k2
 have F3 := fun_mk (st := s_way_of) l3 c3 k3
 have F4 := fun_mk (st := s_seen_in) l4 c4 k4
 have F5 := fun_mk (st := s_fits) l5 c5 k5
 have F6 := fun_mk (st := s_stands) l6 c6 k6
 have F7 := fun_mk (st := s_l_box) l7 c7 k7
 have F8 := fun_mk (st := s_l_take) l8 c8 k8
 have F9 := fun_mk (st := s_l_boxes) l9 c9 k9
 have F10 := fun_mk (st := s_l_web) l10 c10 k10
 have F11 := fun_mk (st := s_l_way) l11 c11 k11
 have F12 := fun_mk (st := s_l_same) l12 c12 k12
 have F13 := fun_mk (st := s_l_story) l13 c13 k13
 have F14 := fun_mk (st := s_l_last) l14 c14 k14
 have F15 := fun_mk (st := s_l_bent) l15 c15 k15
 have F16 := fun_mk (st := s_l_right) l16 c16 k16
 have F17 := fun_mk (st := s_law) l17 c17 k17
 refine ⟨PySem.W.fnOf "law" "law" (defArgs s_law) (defBody s_law) (defScope s_law) .none kV17 dc17 pm17 an17 cd17 ct17, fun s v => .of_eq rfl, fun base _ _ => ?_⟩
 have C_ends_on : Cal l.prog w K mg base 1 "ends_on" ["web", "room", "way"] sp_ends_on := ⟨⟨_, _, ok_ends_on T F0  rdok_ends_on, PySem.W.mg_of X G a0, k0, (F0.binds (ps := ["web", "room", "way"]) fun _ _ _ _ _ _ us hl => by apply ln3 hl; intros; rfl)⟩, mono_ends_on, len_ends_on⟩
 have C_gone : Cal l.prog w K mg base 2 "gone" ["web", "room", "way"] sp_gone := ⟨⟨_, _, ok_gone T F1 C_ends_on rdok_gone, PySem.W.mg_of X G a1, k1, (F1.binds (ps := ["web", "room", "way"]) fun _ _ _ _ _ _ us hl => by apply ln3 hl; intros; rfl)⟩, mono_gone, len_gone⟩
 have C_seen : Cal l.prog w K mg base 2 "seen" ["web", "room", "way"] sp_seen := ⟨⟨_, _, ok_seen T F2 C_ends_on rdok_seen, PySem.W.mg_of X G a2, k2, (F2.binds (ps := ["web", "room", "way"]) fun _ _ _ _ _ _ us hl => by apply ln3 hl; intros; rfl)⟩, mono_seen, len_seen⟩
 have C_way_of : Cal l.prog w K mg base 1 "way_of" ["story"] sp_way_of := ⟨⟨_, _, ok_way_of T F3  rdok_way_of, PySem.W.mg_of X G a3, k3, (F3.binds (ps := ["story"]) fun _ _ _ _ _ _ us hl => by apply ln1 hl; intros; rfl)⟩, mono_way_of, len_way_of⟩
 have C_seen_in : Cal l.prog w K mg base 1 "seen_in" ["story"] sp_seen_in := ⟨⟨_, _, ok_seen_in T F4  rdok_seen_in, PySem.W.mg_of X G a4, k4, (F4.binds (ps := ["story"]) fun _ _ _ _ _ _ us hl => by apply ln1 hl; intros; rfl)⟩, mono_seen_in, len_seen_in⟩
 have C_fits : Cal l.prog w K mg base 3 "fits" ["web", "room", "story"] sp_fits := ⟨⟨_, _, ok_fits T F5 C_seen C_way_of C_seen_in rdok_fits, PySem.W.mg_of X G a5, k5, (F5.binds (ps := ["web", "room", "story"]) fun _ _ _ _ _ _ us hl => by apply ln3 hl; intros; rfl)⟩, mono_fits, len_fits⟩
 have C_stands : Cal l.prog w K mg base 4 "stands" ["web", "story"] sp_stands := ⟨⟨_, _, ok_stands T F6 C_fits C_gone C_way_of rdok_stands, PySem.W.mg_of X G a6, k6, (F6.binds (ps := ["web", "story"]) fun _ _ _ _ _ _ us hl => by apply ln2 hl; intros; rfl)⟩, mono_stands, len_stands⟩
 have C_l_box : Cal l.prog w K mg base 1 "_law_box" ["_law_script", "_law_k"] sp_l_box := ⟨⟨_, _, ok_l_box T F7  rdok_l_box, PySem.W.mg_of X G a7, k7, (F7.binds (ps := ["_law_script", "_law_k"]) fun _ _ _ _ _ _ us hl => by apply ln2 hl; intros; rfl)⟩, mono_l_box, len_l_box⟩
 have C_l_take : Cal l.prog w K mg base 1 "_law_take" ["_law_box_here", "_law_many"] sp_l_take := ⟨⟨_, _, ok_l_take T F8  rdok_l_take, PySem.W.mg_of X G a8, k8, (F8.binds (ps := ["_law_box_here", "_law_many"]) fun _ _ _ _ _ _ us hl => by apply ln2 hl; intros; rfl)⟩, mono_l_take, len_l_take⟩
 have C_l_boxes : Cal l.prog w K mg base 2 "_law_boxes" ["_law_script", "_law_most"] sp_l_boxes := ⟨⟨_, _, ok_l_boxes T F9 C_l_box rdok_l_boxes, PySem.W.mg_of X G a9, k9, (F9.binds (ps := ["_law_script", "_law_most"]) fun _ _ _ _ _ _ us hl => by apply ln2 hl; intros; rfl)⟩, mono_l_boxes, len_l_boxes⟩
 have C_l_web : Cal l.prog w K mg base 2 "_law_web" ["_law_box_here", "_law_size", "_law_more"] sp_l_web := ⟨⟨_, _, ok_l_web T F10 C_l_take rdok_l_web, PySem.W.mg_of X G a10, k10, (F10.binds (ps := ["_law_box_here", "_law_size", "_law_more"]) fun _ _ _ _ _ _ us hl => by apply ln3 hl; intros; rfl)⟩, mono_l_web, len_l_web⟩
 have C_l_way : Cal l.prog w K mg base 2 "_law_way" ["_law_box_here", "_law_web_here", "_law_room", "_law_many"] sp_l_way := ⟨⟨_, _, ok_l_way T F11 C_l_take rdok_l_way, PySem.W.mg_of X G a11, k11, (F11.binds (ps := ["_law_box_here", "_law_web_here", "_law_room", "_law_many"]) fun _ _ _ _ _ _ us hl => by apply ln4 hl; intros; rfl)⟩, mono_l_way, len_l_way⟩
 have C_al : Cal l.prog w K mg base 0 "_law_same" ["_law_found", "_law_due"] (fun _ _ _ => False) := ⟨⟨_, _, fn_false, PySem.W.mg_of X G a12, k12, (F12.binds (ps := ["_law_found", "_law_due"]) fun _ _ _ _ _ _ us hl => by apply ln2 hl; intros; rfl)⟩, fun _ _ _ _ _ h => h, fun _ _ _ h => h.elim⟩
 have C_al0 : Cal l.prog w K mg base 1 "_law_same" ["_law_found", "_law_due"] (sp_al 0) := ⟨⟨_, _, ok_l_same T F12 C_al (rdok_l_same0 _), PySem.W.mg_of X G a12, k12, (F12.binds (ps := ["_law_found", "_law_due"]) fun _ _ _ _ _ _ us hl => by apply ln2 hl; intros; rfl)⟩, mono_al 0, len_al 0⟩
 have C_al1 : Cal l.prog w K mg base 2 "_law_same" ["_law_found", "_law_due"] (sp_al 1) := ⟨⟨_, _, ok_l_same T F12 C_al0 (rdok_l_same 0), PySem.W.mg_of X G a12, k12, (F12.binds (ps := ["_law_found", "_law_due"]) fun _ _ _ _ _ _ us hl => by apply ln2 hl; intros; rfl)⟩, mono_al 1, len_al 1⟩
 have C_al2 : Cal l.prog w K mg base 3 "_law_same" ["_law_found", "_law_due"] (sp_al 2) := ⟨⟨_, _, ok_l_same T F12 C_al1 (rdok_l_same 1), PySem.W.mg_of X G a12, k12, (F12.binds (ps := ["_law_found", "_law_due"]) fun _ _ _ _ _ _ us hl => by apply ln2 hl; intros; rfl)⟩, mono_al 2, len_al 2⟩
 have C_al3 : Cal l.prog w K mg base 4 "_law_same" ["_law_found", "_law_due"] (sp_al 3) := ⟨⟨_, _, ok_l_same T F12 C_al2 (rdok_l_same 2), PySem.W.mg_of X G a12, k12, (F12.binds (ps := ["_law_found", "_law_due"]) fun _ _ _ _ _ _ us hl => by apply ln2 hl; intros; rfl)⟩, mono_al 3, len_al 3⟩
 have C_l_same := C_al3
 have C_l_story : Cal l.prog w K mg base 1 "_law_story" ["_law_web_here", "_law_room", "_law_way_here"] sp_l_story := ⟨⟨_, _, ok_l_story T F13  rdok_l_story, PySem.W.mg_of X G a13, k13, (F13.binds (ps := ["_law_web_here", "_law_room", "_law_way_here"]) fun _ _ _ _ _ _ us hl => by apply ln3 hl; intros; rfl)⟩, mono_l_story, len_l_story⟩
 have C_l_last : Cal l.prog w K mg base 1 "_law_last" ["_law_web_here", "_law_room", "_law_story_here"] sp_l_last := ⟨⟨_, _, ok_l_last T F14  rdok_l_last, PySem.W.mg_of X G a14, k14, (F14.binds (ps := ["_law_web_here", "_law_room", "_law_story_here"]) fun _ _ _ _ _ _ us hl => by apply ln3 hl; intros; rfl)⟩, mono_l_last, len_l_last⟩
 have C_l_bent : Cal l.prog w K mg base 2 "_law_bent" ["_law_box_here", "_law_story_here"] sp_l_bent := ⟨⟨_, _, ok_l_bent T F15 C_l_take rdok_l_bent, PySem.W.mg_of X G a15, k15, (F15.binds (ps := ["_law_box_here", "_law_story_here"]) fun _ _ _ _ _ _ us hl => by apply ln2 hl; intros; rfl)⟩, mono_l_bent, len_l_bent⟩
 have C_l_right : Cal l.prog w K mg base 5 "_law_right" ["_law_web_here", "_law_story_here"] sp_l_right := ⟨⟨_, _, ok_l_right T F16 C_l_last C_stands C_l_same rdok_l_right, PySem.W.mg_of X G a16, k16, (F16.binds (ps := ["_law_web_here", "_law_story_here"]) fun _ _ _ _ _ _ us hl => by apply ln2 hl; intros; rfl)⟩, mono_l_right, len_l_right⟩
 exact ok_law T F17 C_l_boxes C_l_take C_l_web C_l_story C_l_way C_l_right C_l_bent rdok_law
theorem fr_of {K : PySem.W.Frag} {H : Hp} {a : Addr} {xs : List V} (hO : Only H) (hS : SqL K H a xs) : FrL K H a xs := by
 rcases hS with h | h
 ·rcases h with h | ⟨ob, h⟩
  ·rcases hO a with z | ⟨o, ys, z⟩
   ·rw [z] at h; cases h
   ·rw [z] at h; cases h
  ·exact .inl ⟨ob, h⟩
 ·exact .inr h
theorem reps_ints {K : PySem.W.Frag} {H : Hp} : ∀ ns : List Int, Reps K H (intsT ns) (ns.map V.int)
 | [] => rfl
 | n :: ns => ⟨_, _, rfl, rfl, reps_ints ns⟩
theorem walk {l : PySem.W.OpenLaw} {q : Program} {loose : List Str} {XP : (Str → Option Value) → Heap → Prop} {YP : World → Heap → Prop} {d : DefRec} {K : Params → PySem.W.Frag} (hn : l.most = some 63) (hdf : d.params.defaults = [])
  (hY : ∀ (w : World) (h : Heap), YP w h → (K w.params).In h)
  (F : ∀ (w : World) (mg : Str → Option Value) (fa : Addr) (h : Heap), (K w.params).In h → h.Ns mainGlobals mg → mg d.name = some (.ref fa) →
   ∃ fd : FuncData, (∀ (s : Shared) (u : Value), BindsTo s fd ⟨[u], []⟩ [("_law_script", u)]) ∧ ∀ base : Heap, (K w.params).In base → base.Ns mainGlobals mg → FnOk l.prog w (K w.params) mg base CX0 6 fa fd ["_law_script"] (spLaw (K w.params))) :
  PySem.W.WalkO q loose XP YP l.row.toRowW d [] (fun f vs => PySem.call f vs) :=
 L2.walk_of (n := 63) (k := 6) (x := "_law_script") (CX := fun _ => CX0) (sp := fun w => spLaw (K w.params)) hn (by decide) hdf ⟨rfl, by decide, by decide⟩ hY F
  (fun _ _ a ns hl hO hS => ⟨rfl, [.scr (intsT ns)], fun _ => none, ⟨_, _, rfl, ⟨a, _, rfl, fr_of hO hS, reps_ints ns⟩, rfl⟩, (fun _ _ h => nomatch h), ns, rfl, hl, fun G' v H' _ _ r => r⟩) fun _ _ _ _ _ z => z
end W
open PySem PySem.W PyProof.Rows
set_option maxRecDepth 100000 in
set_option maxHeartbeats 0 in
theorem PySem.Challenge.cw_stonewalker_k49_where_a_story_stands_holds : PySem.Challenge.rw_stonewalker_k49_where_a_story_stands.Holds := by
 w_on; o_law; k_head; (case hw => w_witness2)
 k_fill
 refine W.walk (l := PySem.Challenge.rw_stonewalker_k49_where_a_story_stands) rfl rfl (fun w h Y => PySem.W.kIn_of Y) ?F
 case F =>
  intro w mg fa h KX G hmg
  refine' W.all_mk KX G hmg ?a0 ?l0 ?c0 ?k0 ?a1 ?l1 ?c1 ?k1 ?a2 ?l2 ?c2 ?k2 ?a3 ?l3 ?c3 ?k3 ?a4 ?l4 ?c4 ?k4 ?a5 ?l5 ?c5 ?k5 ?a6 ?l6 ?c6 ?k6 ?a7 ?l7 ?c7 ?k7 ?a8 ?l8 ?c8 ?k8 ?a9 ?l9 ?c9 ?k9 ?a10 ?l10 ?c10 ?k10 ?a11 ?l11 ?c11 ?k11 ?a12 ?l12 ?c12 ?k12 ?a13 ?l13 ?c13 ?k13 ?a14 ?l14 ?c14 ?k14 ?a15 ?l15 ?c15 ?k15 ?a16 ?l16 ?c16 ?k16 ?a17 ?l17 ?c17 ?k17 ?z_abs ?z_all ?z_bool ?z_enumerate ?z_int ?z_isinstance ?z_len ?z_list ?z_max ?z_min ?z_range ?z_sum ?z_tuple ?z_zip
  (case a0 => k_is); (case l0 => k_is); (case c0 => k_is); (case k0 => k_is)
  (case a1 => k_is); (case l1 => k_is); (case c1 => k_is); (case k1 => k_is)
  (case a2 => k_is); (case l2 => k_is); (case c2 => k_is); (case k2 => k_is)
  (case a3 => k_is); (case l3 => k_is); (case c3 => k_is); (case k3 => k_is)
  (case a4 => k_is); (case l4 => k_is); (case c4 => k_is); (case k4 => k_is)
  (case a5 => k_is); (case l5 => k_is); (case c5 => k_is); (case k5 => k_is)
  (case a6 => k_is); (case l6 => k_is); (case c6 => k_is); (case k6 => k_is)
  (case a7 => k_is); (case l7 => k_is); (case c7 => k_is); (case k7 => k_is)
  (case a8 => k_is); (case l8 => k_is); (case c8 => k_is); (case k8 => k_is)
  (case a9 => k_is); (case l9 => k_is); (case c9 => k_is); (case k9 => k_is)
  (case a10 => k_is); (case l10 => k_is); (case c10 => k_is); (case k10 => k_is)
  (case a11 => k_is); (case l11 => k_is); (case c11 => k_is); (case k11 => k_is)
  (case a12 => k_is); (case l12 => k_is); (case c12 => k_is); (case k12 => k_is)
  (case a13 => k_is); (case l13 => k_is); (case c13 => k_is); (case k13 => k_is)
  (case a14 => k_is); (case l14 => k_is); (case c14 => k_is); (case k14 => k_is)
  (case a15 => k_is); (case l15 => k_is); (case c15 => k_is); (case k15 => k_is)
  (case a16 => k_is); (case l16 => k_is); (case c16 => k_is); (case k16 => k_is)
  (case a17 => k_is); (case l17 => k_is); (case c17 => k_is); (case k17 => k_is)
  (case z_abs => k_is); (case z_all => k_is); (case z_bool => k_is); (case z_enumerate => k_is); (case z_int => k_is); (case z_isinstance => k_is); (case z_len => k_is); (case z_list => k_is); (case z_max => k_is); (case z_min => k_is); (case z_range => k_is); (case z_sum => k_is); (case z_tuple => k_is); (case z_zip => k_is)
