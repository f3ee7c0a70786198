
import PyProof.Rows.All
import Wide.All
import OpenK.AllK
import Wide.FinOn
import Lean
import PyProof.EqAt
import PyProof.EqKinds
import PyProof.TupleCall
import PySem.Challenge.RW_stonewalker_k45_walks_that_see_all
set_option linter.all false
noncomputable section
def lJa:=@PySem.wpAny_bind
def lJb:=@if_neg
def lJc:=@if_pos
def lJd:=@PySem.wpAny_pure
def lJe:=@PyProof.Rows.wpS_bind
def lJf:=@List.length_map
def lJg:=@Nat.le_refl
def lJh:=@PyProof.Rows.wpS_pure
def lJi:=@PySem.Heap.lt_size
def lJj:=@List.getElem?_eq_some_iff
def lJk:=@PySem.Heap.get?_push_of_some
def lJl:=@List.mem_map
def lJm:=@Nat.ne_of_lt
def lJn:=@List.mem_append
def lJo:=@List.append_assoc
def lJp:=@List.getElem?_eq_getElem
def lJq:=@List.map_cons
def lJr:=@List.mem_cons
def lJs:=@Bool.false_ne_true
def lJt:=@List.mem_singleton
def lJu:=@List.mem_of_getElem?
def lJv:=@decide_eq_false
def lJw:=@List.size_toArray
def lJx:=@List.mem_cons_self
def lJy:=@List.map_map
def lJz:=@Nat.zero_le
def lJ0:=@PySem.Heap.get?_push_size
def lJ1:=@List.mem_cons_of_mem
def lJ2:=@Option.some.inj
def lJ3:=@List.mem_append_right
def lJ4:=@decide_eq_true
def lJ5:=@List.length_cons
def lJ6:=@if_false
def lJ7:=@List.mem_range
def lJ8:=@congrArg
def lJ9:=@Nat.lt_of_lt_of_le
def lKa:=@List.getElem?_of_mem
def lKb:=@PySem.PassesOwn.never
def lKc:=@List.length_append
def lKd:=@List.mem_append_left
def lKe:=@Array.getElem?_toList
def lKf:=@Bool.false_eq_true
def lKg:=@Array.length_toList
def lKh:=@if_true
def lKi:=@List.getElem?_append_left
def lKj:=@List.getElem?_map
def lKk:=@List.pairwise_append
def lKl:=@List.map_append
def lKm:=@decide_eq_true_eq
def lKn:=@PyProof.Rows.wpS_modify
def lKo:=@List.getElem?_eq_none
def lKp:=@List.all_eq_true
def lKq:=@PyProof.Rows.wpS_mono
def lKr:=@PyProof.Rows.wpS_forRange
def lKs:=@List.lookup_cons
def lKt:=@List.not_mem_nil
def lKu:=@List.getElem?_append_right
def lKv:=@Bool.and_eq_true
def lKw:=@List.length_range
def lKx:=@PySem.wpAny_holding
def lKy:=@PySem.sizeLine_eq
def lKz:=@PySem.boot_len
def lK0:=@PySem.wpAny_newObj_type
def lK1:=@Nat.le_trans
def lK2:=@List.nodup_cons
def lK3:=@Array.getElem?_eq_getElem
def lK4:=@PySem.mem_of_lookup
def lK5:=@Nat.not_lt_zero
def lK6:=@List.take_append_drop
def lK7:=@Nat.ne_of_gt
def lK8:=@Nat.lt_or_eq_of_le
def lK9:=@PySem.F.plainAttrs_list
def lQa:=@PySem.wpAny_call_entry
def lQb:=@List.append_nil
def lQc:=@Nat.le_of_lt_succ
def lQd:=@PySem.wpAny_rule
def lQe:=@PySem.codeAny_builtin
def lQf:=@PyProof.Rows.wpS_get
def lQg:=@List.length_take
def lQh:=@Option.map_some
def lQi:=@List.take_succ
def lQj:=@PySem.Around.under_plainId
def lQk:=@or_false
def lQl:=@PySem.plainId_quiet
def lQm:=@Nat.lt_or_ge
def lQn:=@PySem.Paired.length
def lQo:=@Nat.lt_irrefl
def lQp:=@List.length_nil
def lQq:=@List.take_length
def lQr:=@List.contains_iff_mem
def lQs:=@List.take_of_length_le
def lQt:=@Array.toList_append
def lQu:=@List.getElem?_take
def lQv:=@PySem.wpAny_mono
def lQw:=@PySem.wpAny_typeOf
def lQx:=@List.filterMap_cons
def lQy:=@Array.getElem?_eq_none
def lQz:=@List.mem_of_mem_take
def lQ0:=@List.exists_cons_of_length_eq_add_one
def lQ1:=@Nat.succ.inj
def lQ2:=@PySem.Around.in1_units
def lQ3:=@List.take_sublist
def lQ4:=@List.any_cons
def lQ5:=@List.find?_cons
def lQ6:=@Nat.lt_trans
def lQ7:=@Option.map_eq_some_iff
def lQ8:=@PyProof.Rows.callWith_type1
def lQ9:=@List.length_eq_zero_iff
def lVa:=@List.nodup_append
def lVb:=@List.drop_sublist
def lVc:=@List.range_succ
def lVd:=@List.filter_cons
def lVe:=@Bool.not_eq_true'
def lVf:=@PySem.F.slot_list_append
def lVg:=@PySem.F.type_list_append
def lVh:=@PySem.wpAny_truthy_bool
def lVi:=@PySem.wpAny_callSpecial?_slot
def lVj:=@PyProof.Rows.reverseSlice'_eq
def lVk:=@List.ext_getElem?
def lVl:=@List.nodup_nil
def lVm:=@PySem.Heap.SameBut.update
def lVn:=@PySem.Heap.size_push
def lVo:=@List.mem_of_mem_drop
def lVp:=@PySem.F.called_set
def lVq:=@List.flatMap_append
def lVr:=@List.drop_of_length_le
def lVs:=@List.mem_reverse
def lVt:=@List.take_append_of_le_length
def lVu:=@PySem.wpAny_dictEntries
def lVv:=@Classical.byContradiction
def lVw:=@Nat.le_of_lt
def lVx:=@PySem.Heap.get?_update_self
def lVy:=@List.all_cons
def lVz:=@Int.toNat_natCast
def lV0:=@Nat.zero_add
def lV1:=@Nat.lt_trichotomy
def lV2:=@Int.emod_nonneg
def lV3:=@Int.emod_lt_of_pos
def lV4:=@List.getElem_mem
def lV5:=@PySem.wpAny_specialOf
def lV6:=@PySem.wpAny_isInstance
def lV7:=@PySem.wpAny_loadPart'
def lV8:=@PySem.wpAny_passesOwn
def lV9:=@PySem.wpAny_attempt
def lXa:=@PySem.wpAny_ite_split
def lXb:=@decide_eq_false_iff_not
def lXc:=@Option.isSome_iff_exists
def lXd:=@PyProof.Rows.slot_tuple_getitem
def lXe:=@List.replicate_succ
def lXf:=@List.foldl_cons
def lXg:=@Nat.add_comm
def lXh:=@Nat.succ_pos
def lXi:=@Nat.add_zero
def lXj:=@Option.some.injEq
def lXk:=@List.getElem_of_mem
def lXl:=@Array.getD_eq_getD_getElem?
def lXm:=@List.pairwise_map
def lXn:=@List.length_zip
def lXo:=@List.Perm.append_left
def lXp:=@List.getElem?_drop
def lXq:=@PySem.wpAny_fieldsOf
def lXr:=@List.mem_filter
def lXs:=@List.getElem?_set_self
def lXt:=@List.length_drop
def lXu:=@List.reverse_cons
def lXv:=@List.flatten_cons
def lXw:=@Option.isSome_map
def lXx:=@List.getElem?_zipWith
def lXy:=@List.getElem?_zip_eq_some
def lXz:=@List.zip_cons_cons
def lX0:=@PySem.F.slot_dict_keyiterator_next
def lX1:=@Nat.le_of_succ_le
def lX2:=@List.pairwise_iff_getElem
def lX3:=@List.filterMap_cons_some
def lX4:=@List.getElem?_range
def lX5:=@List.cons.injEq
def lX6:=@PySem.Heap.get?_update_ne
def lX7:=@List.Perm.append_right
def lX8:=@List.drop_zero
def lX9:=@Bool.not_eq_true
def lYa:=@List.length_filter_le
def lYb:=@Option.bind_some
def lYc:=@PySem.F.slot_list_extend
def lYd:=@PySem.F.type_list_extend
def lYe:=@PySem.wpAny_forIn_list
def lYf:=@PySem.wpAny_pyIter_list
def lYg:=@PySem.typeLookup_type
def lYh:=@PySem.builtinLookup_eq_fast
def lYi:=@PySem.wpAny_notOrdered_dict
def lYj:=@beq_self_eq_true
def lYk:=@PySem.wpAny_askSetting
def lYl:=@List.getElem?_set_ne
def lYm:=@List.mem_filterMap
def lYn:=@PySem.Heap.get?_update_other
def lYo:=@List.filterMap_append
def lYp:=@PySem.F.plain_list_iadd
def lYq:=@List.pairwise_cons
def lYr:=@List.getElem_take
def lYs:=@List.find?_eq_none
def lYt:=@Array.getElem?_setIfInBounds
def lYu:=@PyProof.Rows.F.plain_set_update_loop
def lYv:=@Nat.add_sub_cancel
def lYw:=@List.perm_append_comm
def lYx:=@List.drop_eq_getElem_cons
def lYy:=@List.drop_append_of_le_length
def lYz:=@Nat.add_sub_cancel_left
def lY0:=@List.foldl_append
def lY1:=@List.getElem?_inj
def lY2:=@List.getElem_range
def lY3:=@PySem.wpAny_pyIter_enum
def lY4:=@PySem.wpAny_typeNameOfWhole_keyiter
def lY5:=@PySem.wpAny_typeNameOf_keyiter
def lY6:=@of_decide_eq_true
def lY7:=@PySem.F.args_tuple_add_2
def lY8:=@PyProof.Rows.callWith_builtin1
def lY9:=@Array.getElem?_eq_some_iff
def lZa:=@List.filterMap_cons_none
def lZb:=@Array.size_setIfInBounds
def lZc:=@PySem.F.slot_list_getattribute
def lZd:=@PySem.F.kt_typeCall_dict_1
def lZe:=@PySem.F.args_dict_init_2
def lZf:=@List.take_length_add_append
def lZg:=@PySem.wpAny_comprehension_free
local macro_rules
 | `(tactic| omega) => `(tactic| lia)
set_option Elab.async false
set_option linter.all false
set_option maxRecDepth 100000
namespace L2
open PySem PySem.Spec PyProof.Rows
abbrev Key:=Sum Int Str
def jYc:Key->Value->Bool
 | .inl k,v=>Value.isInt k v
 | .inr x,v=>Value.isStrOf x v
def keyH (w:World):Key->Int
 | .inl k=>hashInt k
 | .inr x=>hashStr w x
theorem jJp:∀ {k:Key} {v:Value},jYc k v=true->(∃i t,k=Sum.inl i/\v=Value.int i t)\/(∃x t,k=Sum.inr x/\v=Value.str x t)
 | .inl i,v,h=>by
  obtain⟨t,e⟩:=Value.isInt_shape (k:=i) (v:=v) h
  exact .inl ⟨i,t,rfl,e⟩
 | .inr x,v,h=>by
  obtain⟨t,e⟩:=Value.isStrOf_shape (x:=x) (v:=v) h
  exact .inr ⟨x,t,rfl,e⟩
theorem qK6 (i:Int) (t:Tok):jYc (.inl i) (.int i t)=true:=by simp[jYc,Value.isInt]
theorem qK5 (x:Str) (t:Tok):jYc (.inr x) (.str x t)=true:=by simp[jYc,Value.isStrOf]
theorem key_ll (a b:Int):decide ((Sum.inl a:Key)=Sum.inl b)=(a == b):=by
 by_cases e:a=b
 ·subst e;simp
 ·have h:¬ (Sum.inl a:Key)=Sum.inl b:=fun q=>e (Sum.inl.inj q)
  rw[lJv h]
  exact (beq_eq_false_iff_ne.mpr e).symm
theorem key_rr (a b:Str):decide ((Sum.inr a:Key)=Sum.inr b)=decide (a=b):=by
 by_cases e:a=b
 ·subst e;simp
 ·have h:¬ (Sum.inr a:Key)=Sum.inr b:=fun q=>e (Sum.inr.inj q)
  rw[lJv h,lJv e]
theorem key_lr (a:Int) (b:Str):decide ((Sum.inl a:Key)=Sum.inr b)=false:=lJv (fun q=>nomatch q)
theorem key_rl (a:Str) (b:Int):decide ((Sum.inr a:Key)=Sum.inl b)=false:=lJv (fun q=>nomatch q)
noncomputable def jJ4 (prog:Program) (w:World):PySem.KeyKind prog w Key where
 is:=jYc
 hash:=keyH w
 inj:=fun v a b ha hb=>by
  rcases jJp ha with ⟨i,t,rfl,rfl⟩ | ⟨x,t,rfl,rfl⟩
  ·rcases jJp hb with ⟨j,u,rfl,e⟩ | ⟨y,u,rfl,e⟩
   ·injection e with e1 _;rw[e1]
   ·exact nomatch e
  ·rcases jJp hb with ⟨j,u,rfl,e⟩ | ⟨y,u,rfl,e⟩
   ·exact nomatch e
   ·injection e with e1 _;rw[e1]
 byValue:=fun k v h=>by
  rcases jJp h with ⟨i,t,rfl,rfl⟩ | ⟨x,t,rfl,rfl⟩<;>rfl
 pyHash:=fun hv h=>by
  rcases jJp hv with ⟨i,t,rfl,rfl⟩ | ⟨x,t,rfl,rfl⟩
  ·exact wpAny_pyHash_int h
  ·exact wpAny_pyHash_str h
 eqBool:=fun hu hv h=>by
  rcases jJp hu with ⟨i,t,rfl,rfl⟩ | ⟨x,t,rfl,rfl⟩
  ·rcases jJp hv with ⟨j,u,rfl,rfl⟩ | ⟨y,u,rfl,rfl⟩
   ·rw[key_ll] at h;exact wpAny_eqBool_int h
   ·rw[key_lr] at h;exact SeqAt.EqAt.int_str i t y u _ _ _ _ h
  ·rcases jJp hv with ⟨j,u,rfl,rfl⟩ | ⟨y,u,rfl,rfl⟩
   ·rw[key_rl] at h;exact SeqAt.EqAt.str_int x t j u _ _ _ _ h
   ·rw[key_rr] at h;exact wpAny_eqBool_str h
 «strs» :=fun k x t v h=>by
  rcases jJp h with ⟨i,u,rfl,e⟩ | ⟨y,u,rfl,e⟩
  ·exact nomatch e
  ·injection e with e1 _
   subst e1
   cases v<;>rfl
theorem jZu (prog:Program) (w:World) (i:Int) (t:Tok):(jJ4 prog w).is (.inl i) (.int i t)=true:=qK6 i t
theorem kVn (prog:Program) (w:World) (x:Str) (t:Tok):(jJ4 prog w).is (.inr x) (.str x t)=true:=qK5 x t
end L2
set_option synthInstance.maxSize 1000
namespace L2
open PySem PySem.Spec PyProof.Rows
structure KeyV (prog:Program) (w:World) (K:Type) [DecidableEq K] (c:Nat) where
 is:Heap->K->Value->Prop
 hash:K->Int
 draws:K->Nat
 inj:∀ {h:Heap} {v:Value} {x y:K},is h x v->is h y v->x=y
 keeps:∀ {h h':Heap} {k:K} {v:Value} {d:Addr} {o:Obj} {es:Array DictEntry} {ep:Nat},is h k v->h.get? d=some o->o.data= .dict es ep->Heap.SameBut d h h'->is h' k v
 hashed:∀ {A:Around} {E:Value->Shared->Prop} {s:Shared} {k:K} {v:Value} {Q:Int->Shared->Prop},A.units+c<cLine->is s.heap k v->Q (hash k) {s with toks:=s.toks+draws k}->wpAny (model prog w) A (PySem.pyHash v) Q E s
 eqAt:∀ {A:Around} {s:Shared} {x y:K} {u v:Value},A.units+c<cLine->is s.heap x u->is s.heap y v->SeqAt.EqAt A s u v (decide (x=y))
 quiet:∀ {A:Around} {E:Value->Shared->Prop} {s:Shared} {k:K} {v:Value} {Q:Bool->Shared->Prop} (n:Nat),c<=n->is s.heap k v->Q true s->wpAny (model prog w) A (eqIsQuiet n v) Q E s
noncomputable def kJ7 (prog:Program) (w:World):KeyV prog w Key 0 where
 is:=fun _ k v=>jYc k v=true
 hash:=keyH w
 draws:=fun _=>1
 inj:=fun hx hy=>(jJ4 prog w).inj _ _ _ hx hy
 keeps:=fun x _ _ _=>x
 hashed:=fun _ hv h=>(jJ4 prog w).pyHash hv h
 eqAt:=fun _ hx hy prog' w' _ _ h=>(jJ4 prog' w').eqBool hx hy h
 quiet:=fun n _ hv h=>by rw[eqIsQuiet_byValue n ((jJ4 prog w).byValue _ _ hv)];exact lJd h
section
variable {prog:Program} {w:World} {K:Type} [DecidableEq K] {c:Nat}
inductive ItemsV (V:KeyV prog w K c) (h:Heap):List K->List Value->Prop
 | nil:ItemsV V h [] []
 | cons {k:K} {v:Value} {ks:List K} {vs:List Value}:V.is h k v->ItemsV V h ks vs->ItemsV V h (k::ks) (v::vs)
theorem ItemsV.inj {V:KeyV prog w K c} {h:Heap} {x:List K} {vs:List Value} (hx:ItemsV V h x vs):∀ {y:List K},ItemsV V h y vs->x=y:=by
 induction hx with
 | nil=>intro y hy;cases hy;rfl
 | cons a _ ih=>intro y hy;cases hy with | cons b t=>rw[V.inj a b,ih t]
theorem ItemsV.length {V:KeyV prog w K c} {h:Heap} {x:List K} {vs:List Value} (hx:ItemsV V h x vs):x.length=vs.length:=by
 induction hx with
 | nil=>rfl
 | cons _ _ ih=>simp[ih]
theorem ItemsV.get {V:KeyV prog w K c} {h:Heap} {x:List K} {vs:List Value} (hx:ItemsV V h x vs):∀ {j:Nat} {v:Value},vs[j]? =some v->∃k,x[j]? =some k/\V.is h k v:=by
 induction hx with
 | nil=>intro j v e;simp at e
 | cons a _ ih=>
  intro j v e
  cases j with
  | zero=>simp at e;subst e;exact⟨_,rfl,a⟩
  | succ j=>obtain⟨k,h1,h2⟩:=ih (j:=j) (v:=v) (by simpa using e);exact⟨k,by simpa using h1,h2⟩
theorem ItemsV.keeps {V:KeyV prog w K c} {h h':Heap} {x:List K} {vs:List Value} {d:Addr} {o:Obj} {es:Array DictEntry} {ep:Nat} (hx:ItemsV V h x vs) (ho:h.get? d=some o) (hd:o.data= .dict es ep) (hs:Heap.SameBut d h h'):ItemsV V h' x vs:=by
 induction hx with
 | nil=>exact .nil
 | cons a _ ih=>exact .cons (V.keeps a ho hd hs) ih
def kJe (V:KeyV prog w K c) (h:Heap) (ks:List K) (v:Value):Prop:=∃(a:Addr) (o:Obj) (items:Array Value) (n:Nat),v= .ref a/\h.get? a=some o/\o.cls= .type "tuple"/\o.data= .seq items n/\ItemsV V h ks items.toList
theorem all_eq:∀(x y:List K),((List.range (min x.length y.length)).all (fun j=>decide (x[j]? =y[j]?))&&x.length == y.length)=decide (x=y):=by
 intro x y
 by_cases e:x=y
 ·subst e;simp
 ·rw[lJv e,Bool.and_eq_false_iff]
  by_cases l:x.length=y.length
  ·left
   rw[List.all_eq_false]
   have:∃j:Nat,x[j]? ≠y[j]? :=by
    apply lVv
    intro q
    exact e (lVk fun j=>lVv fun z=>q ⟨j,z⟩)
   obtain⟨j,hj⟩:=this
   refine⟨j,lJ7.mpr ?_,by simpa using hj⟩
   rcases lQm j (min x.length y.length) with z | z
   ·exact z
   ·exact absurd (by rw[lKo (by omega),lKo (by omega)]) hj
  ·right;simpa using l
noncomputable def jU2 (V:KeyV prog w K c):KeyV prog w (List K) (c+2) where
 is:=kJe V
 hash:=fun ks=>reduceHash (Builtin.Tuple.tupleHashOf (ks.map V.hash))
 draws:=fun ks=>(ks.map V.draws).sum+1
 inj:=by
  rintro h v x y ⟨a,o,items,n,rfl,ho,_,hd,hi⟩ ⟨a',o',items',n',e,ho',_,hd',hi'⟩
  cases e
  rw[ho] at ho';cases ho'
  rw[hd] at hd';cases hd'
  exact hi.inj hi'
 keeps:=by
  rintro h h' k v d o es ep ⟨a,o',items,n,rfl,ho',hc,hd',hi⟩ ho hd hs
  have ne:a≠d:=by
   rintro rfl
   rw[ho] at ho';cases ho'
   rw[hd] at hd';cases hd'
  exact⟨a,o',items,n,rfl,(hs.2 a ne).trans ho',hc,hd',hi.keeps ho hd hs⟩
 hashed:=by
  rintro A E s ks v Q hu ⟨a,o,items,n,rfl,ho,hc,hd,hi⟩ h
  refine PySem.W.pyHash_slot (T:="tuple") ⟨o,ho,hc⟩ F.slot_tuple_hash F.entry_tuple_hash (F.args_tuple_hash_1 _) (beq_builtin_none _) (.inr (by omega)) ?_
  refine (show wpAny _ _ (Builtin.Tuple.tupleItemsOf (.ref a) >>= _) _ _ s from lJa (wpAny_tupleItemsOf ho hd (lJa ?_)))
  rw[<-Array.forIn_toList]
  refine lYe _ (fun rest (b:Array Int) z=>∃done left,ks=done++left/\ItemsV V s.heap left rest/\b.toList=done.map V.hash/\z={s with toks:=s.toks+(done.map V.draws).sum}) _ ?_ ?_ _ _ ⟨[],ks,rfl,hi,rfl,rfl⟩
  ·rintro x rest b z ⟨done,left,rfl,hl,hb,rfl⟩
   cases hl with
   | @cons k _ ks' _ h1 hl'=>
    refine lJa (V.hashed (by rw[lQ2];omega) h1 ?_)
    first
     | exact lJd ⟨done++[k],ks',by simp,hl',by simp[hb],(by simp[Nat.add_assoc])⟩
     | exact lJa (lJd (lJd ⟨done++[k],ks',by simp,hl',by simp[hb],(by simp[Nat.add_assoc])⟩))
  ·rintro b z ⟨done,left,rfl,hl,hb,rfl⟩
   cases hl
   rw[lQb] at h
   refine (show wpAny _ _ (retInt (Builtin.Tuple.tupleHashOf b.toList)) _ _ _ from ?_)
   rw[hb]
   exact lJa (wpAny_mkInt (lJd ⟨_,_,rfl,by simpa[Nat.add_assoc] using h⟩))
 eqAt:=by
  rintro A s x y u v hu ⟨a,o,items,n,rfl,ho,hc,hd,hi⟩ ⟨a',o',items',n',rfl,ho',hc',hd',hi'⟩
  by_cases e:a=a'
  ·subst e
   rw[ho] at ho';cases ho'
   rw[hd] at hd';cases hd'
   rw[hi.inj hi',lJ4 rfl]
   exact SeqAt.EqAt.same _
  ·have R:=SeqAt.RcAt.tuples (A:=A) (s:=s) (l:=a) (b:=a') (e:=fun j=>decide (x[j]? =y[j]?)) ⟨o,ho,hc,n,hd⟩ ⟨o',ho',hc',n',hd'⟩ (by omega) (fun j j1 j2=> ?_)
   ·have l1:=hi.length
    have l2:=hi'.length
    rw[<-all_eq x y,l1,l2]
    have R':=SeqAt.EqAt.of_refs e R
    simpa using R'
   ·obtain⟨k,h1,h2⟩:=hi.get (j:=j) (v:=items[j]) (by simp[j1])
    obtain⟨k',h1',h2'⟩:=hi'.get (j:=j) (v:=items'[j]) (by simp[j2])
    have:=V.eqAt (A:=A.in1) (s:=s) (by rw[lQ2];omega) h2 h2'
    rw[h1,h1']
    simpa using this
 quiet:=by
  rintro A E s ks v Q n hn ⟨a,o,items,m,rfl,ho,hc,hd,hi⟩ h
  obtain⟨n,rfl⟩:∃nn,n=nn+1:=⟨n-1,by omega⟩
  have hT:s.TypeIs (.ref a) "tuple":=⟨o,ho,hc⟩
  unfold eqIsQuiet;refine lJa (lV5 hT F.slot_tuple_eq.lookup ?_)
  refine (show wpAny _ _ (isInstance (.ref a) (.type "tuple") >>= _) _ _ s from lJa (lV6 hT isSubtype_tuple_tuple ?_))
  simp only[lJ6,Bool.not_true,lKf]
  refine lJa (wpAny_seqItems ho hd (lJa ?_))
  refine (show wpAny _ _ (forIn items _ _) _ _ s from ?_)
  rw[<-Array.forIn_toList]
  refine lYe _ (fun rest r z=>r.1=none/\z=s/\∃left,ItemsV V s.heap left rest) _ ?_ ?_ _ _ ⟨rfl,rfl,ks,hi⟩
  ·rintro x rest r z ⟨hr,rfl,left,hl⟩
   cases hl with
   | cons h1 hl'=>
    refine lJa (V.quiet n (by omega) h1 ?_)
    simp only[lJ6,Bool.not_true,lKf]
    exact lJd ⟨rfl,rfl,_,hl'⟩
  ·rintro⟨r1,r2⟩ z ⟨hr,rfl,_⟩
   simp only at hr;subst hr
   exact lJd h
theorem uJr {α β:Type} [DecidableEq α] [DecidableEq β] (a b:α):decide ((Sum.inl a:α ⊕ β)=Sum.inl b)=decide (a=b):=by
 by_cases e:a=b
 ·simp[e]
 ·rw[lJv e,lJv fun z=>e (Sum.inl.inj z)]
theorem uJq {α β:Type} [DecidableEq α] [DecidableEq β] (a b:β):decide ((Sum.inr a:α ⊕ β)=Sum.inr b)=decide (a=b):=by
 by_cases e:a=b
 ·simp[e]
 ·rw[lJv e,lJv fun z=>e (Sum.inr.inj z)]
noncomputable def qUu (V:KeyV prog w K c):KeyV prog w (Key ⊕ List K) (c+2) where
 is:=fun h k v=>match k with
  | .inl k=>jYc k v=true
  | .inr ks=>kJe V h ks v
 hash:=fun k=>match k with
  | .inl k=>keyH w k
  | .inr ks=>(jU2 V).hash ks
 draws:=fun k=>match k with
  | .inl _=>1
  | .inr ks=>(jU2 V).draws ks
 inj:=by
  rintro h v (x | x) (y | y) hx hy
  ·rw[(jJ4 prog w).inj _ _ _ hx hy]
  ·obtain⟨a,_,_,_,rfl,_⟩:=hy
   rcases jJp hx with ⟨i,t,_,e⟩ | ⟨i,t,_,e⟩<;>cases e
  ·obtain⟨a,_,_,_,rfl,_⟩:=hx
   rcases jJp hy with ⟨i,t,_,e⟩ | ⟨i,t,_,e⟩<;>cases e
  ·rw[(jU2 V).inj hx hy]
 keeps:=by
  rintro h h' (k | k) v d o es ep hx ho hd hs
  ·exact hx
  ·exact (jU2 V).keeps hx ho hd hs
 hashed:=by
  rintro A E s (k | k) v Q hu hx h
  ·exact (jJ4 prog w).pyHash hx h
  ·exact (jU2 V).hashed hu hx h
 eqAt:=by
  rintro A s (x | x) (y | y) u v hu hx hy
  ·rw[uJr]
   exact (kJ7 prog w).eqAt (by omega) hx hy
  ·rw[lJv fun z=>nomatch z]
   obtain⟨a,o,items,n,rfl,ho,hc,hd,_⟩:=hy
   rcases jJp hx with ⟨i,t,_,rfl⟩ | ⟨i,t,_,rfl⟩
   ·exact SeqAt.EqAt.int_tuple i t ⟨o,ho,hc,n,hd⟩ (by omega)
   ·exact SeqAt.EqAt.str_tuple i t ⟨o,ho,hc,n,hd⟩ (by omega)
  ·rw[lJv fun z=>nomatch z]
   obtain⟨a,o,items,n,rfl,ho,hc,hd,_⟩:=hx
   rcases jJp hy with ⟨i,t,_,rfl⟩ | ⟨i,t,_,rfl⟩
   ·exact SeqAt.EqAt.tuple_int i t ⟨o,ho,hc,n,hd⟩ (by omega)
   ·exact SeqAt.EqAt.tuple_str i t ⟨o,ho,hc,n,hd⟩ (by omega)
  ·rw[uJq]
   exact (jU2 V).eqAt hu hx hy
 quiet:=by
  rintro A E s (k | k) v Q n hn hx h
  ·exact (kJ7 prog w).quiet n (lJz _) hx h
  ·exact (jU2 V).quiet n hn hx h
end
abbrev K1:=Key ⊕ List Key
abbrev K2:=Key ⊕ List K1
abbrev TKey:=List K2
def vk1 (prog:Program) (w:World):KeyV prog w K1 2:=qUu (kJ7 prog w)
def vk2 (prog:Program) (w:World):KeyV prog w K2 4:=qUu (vk1 prog w)
noncomputable def jJn (prog:Program) (w:World):HeapKind prog w TKey where
 is:=fun h ks a=>(jU2 (vk2 prog w)).is h ks (.ref a)
 hash:=(jU2 (vk2 prog w)).hash
 draws:=(jU2 (vk2 prog w)).draws
 room:=fun A=>A.units+6<cLine
 inj:=fun hx hy=>(jU2 (vk2 prog w)).inj hx hy
 keeps:=fun x ho hd hs=>(jU2 (vk2 prog w)).keeps x ho hd hs
 pyHash:=fun hu hk h=>(jU2 (vk2 prog w)).hashed hu hk h
 eqBool:=fun hu hx hy h=>(jU2 (vk2 prog w)).eqAt hu hx hy _ _ _ _ h
 quiet:=fun hk h=>(jU2 (vk2 prog w)).quiet 8 (by decide) hk h
theorem jKc {prog:Program} {w:World} {A:Around} (hu:A.units+20<cLine):(jJn prog w).room A.in1:=by
 show A.in1.units+6<cLine
 rw[lQ2];omega
inductive V where
 | non | bl (b:Bool) | int (i:Int) | str (x:Str) | byt (b:Array UInt8) | flt (b:UInt64) | ref (a:Addr) | ty (n:String)
 deriving DecidableEq
noncomputable def RelV:V->Value->Prop
 | .non,u=>u=Value.none
 | .bl b,u=>u=Value.bool b
 | .int i,u=>∃t,u=Value.int i t
 | .str x,u=>∃t,u=Value.str x t
 | .byt b,u=>∃t,u=Value.bytes b t
 | .flt b,u=>∃t,u=Value.float b t
 | .ref a,u=>u=Value.ref a
 | .ty n,u=>u=Value.type n
abbrev Vals:List V->List Value->Prop:=Paired RelV
theorem Vals.length {xs:List V} {us:List Value} (r:Vals xs us):xs.length=us.length:=lQn r
theorem Vals.get:∀ {xs:List V} {us:List Value} {i:Nat} {x:V},Vals xs us->xs[i]? =some x->∃u,us[i]? =some u/\RelV x u
 | _,_,_,_,.nil,e=>by simp at e
 | _,_,0,_,.cons r _,e=>by simp at e;subst e;exact⟨_,rfl,r⟩
 | _,_,i+1,x,.cons _ t,e=>by
  obtain⟨u,h1,h2⟩:=Vals.get (i:=i) (x:=x) t (by simpa using e)
  exact⟨u,by simpa using h1,h2⟩
theorem Vals.set {x:V} {u:Value} (r:RelV x u):∀ {xs:List V} {us:List Value} (i:Nat),Vals xs us->Vals (xs.set i x) (us.set i u)
 | _,_,_,.nil=> .nil
 | _,_,0,.cons _ t=> .cons r t
 | _,_,i+1,.cons q t=> .cons q (Vals.set r i t)
theorem Vals.append:∀ {xs ys:List V} {us ws:List Value},Vals xs us->Vals ys ws->Vals (xs++ys) (us++ws)
 | _,_,_,_,.nil,s=>s
 | _,_,_,_,.cons r t,s=> .cons r (Vals.append t s)
theorem Vals.take:∀ {xs:List V} {us:List Value} (n:Nat),Vals xs us->Vals (xs.take n) (us.take n)
 | _,_,0,_=> .nil
 | _,_,_+1,.nil=> .nil
 | _,_,n+1,.cons r t=> .cons r (Vals.take n t)
theorem Vals.drop:∀ {xs:List V} {us:List Value} (n:Nat),Vals xs us->Vals (xs.drop n) (us.drop n)
 | _,_,0,r=>r
 | _,_,_+1,.nil=> .nil
 | _,_,n+1,.cons _ t=>Vals.drop n t
def RelO:Option V->Option Value->Prop
 | some v,some u=>RelV v u
 | none,none=>True
 | _,_=>False
def KV {κ:Type}:List (κ×V)->List (κ×Value)->Prop:=Paired fun (p:κ×V) (q:κ×Value)=>p.1=q.1/\RelV p.2 q.2
def kV:Key->V
 | .inl i=> .int i
 | .inr x=> .str x
inductive HO where
  | lst (xs:List V)
  | tup (xs:List V)
  | dK (kvs:List (Key×V)) | dT (kvs:List (TKey×V))
  | set (S:Int->Bool) (n:Nat)
  | ins (C dx:Addr) (fs:List (Str×V))
  | own (x:Addr)
  | xd (fs:List (Str×V))
  | met (f x:Addr)
  | rng (lo hi:Int)
  | frz (o:Obj) (u:HO)
  | tbl (ps:Array Value)
  | ext (φ:Heap->Prop)
abbrev Hp:=Addr->Option HO
def upd (H:Hp) (a:Addr) (o:HO):Hp:=fun b=>if b=a then some o else H b
theorem jKb {H:Hp} {a:Addr} {o:HO}:upd H a o a=some o:=by unfold upd;rw[lJc rfl]
theorem jJ1 {H:Hp} {a b:Addr} {o:HO} (h:b≠a):upd H a o b=H b:=by unfold upd;rw[lJb h]
theorem ne_of {H:Hp} {a b:Addr} {o u:HO} (h:H a=some o) (h':H b=some u) (d:o≠u):a≠b:=by
 intro e;subst e;rw[h] at h';exact d (lJ2 h')
theorem jUa {H:Hp} {a b:Addr} {o:HO} (h:H a=some o) (h':H b=none):a≠b:=by
 intro e;subst e;rw[h] at h';cases h'
def Rk1 (H:Hp) (k:K1) (v:V):Prop:=match k with
 | .inl k=>v=kV k
 | .inr ks=>∃p vs,v= .ref p/\H p=some (.tup vs)/\Paired (fun k v=>v=kV k) ks vs
def Rk2 (H:Hp) (k:K2) (v:V):Prop:=match k with
 | .inl k=>v=kV k
 | .inr ks=>∃p vs,v= .ref p/\H p=some (.tup vs)/\Paired (Rk1 H) ks vs
def TKeyAt (H:Hp) (ks:TKey) (a:Addr):Prop:=∃vs,H a=some (.tup vs)/\Paired (Rk2 H) ks vs
theorem jV2 {α β:Type} {F G:α->β->Prop} (f:∀a b,F a b->G a b):∀ {l:List α} {m:List β},Paired F l m->Paired G l m
 | _,_,.nil=> .nil
 | _,_,.cons r t=> .cons (f _ _ r) (jV2 f t)
theorem Rk1.mono {H H':Hp} (ht:∀b ys,H b=some (.tup ys)->H' b=some (.tup ys)) (k:K1) (v:V) (r:Rk1 H k v):Rk1 H' k v:=by
 cases k with
 | inl k=>exact r
 | inr ks=>obtain⟨p,vs,e,h,t⟩:=r;exact⟨p,vs,e,ht _ _ h,t⟩
theorem Rk2.mono {H H':Hp} (ht:∀b ys,H b=some (.tup ys)->H' b=some (.tup ys)) (k:K2) (v:V) (r:Rk2 H k v):Rk2 H' k v:=by
 cases k with
 | inl k=>exact r
 | inr ks=>obtain⟨p,vs,e,h,t⟩:=r;exact⟨p,vs,e,ht _ _ h,jV2 (Rk1.mono ht) t⟩
theorem TKeyAt.mono {H H':Hp} {ks:TKey} {a:Addr} (r:TKeyAt H ks a) (ht:∀b ys,H b=some (.tup ys)->H' b=some (.tup ys)):TKeyAt H' ks a:=by
 obtain⟨vs,h,t⟩:=r;exact⟨vs,ht _ _ h,jV2 (Rk2.mono ht) t⟩
section
variable (P:Program) (w:World)
def TupD (h:Heap) (a:Addr) (items:Array Value):Prop:=∃o,h.get? a=some o/\o.cls= .type "tuple"/\∃n,o.data= .seq items n/\o.dict=none
theorem TupD.is {h:Heap} {a:Addr} {items:Array Value} (x:TupD h a items):IsTup h a items:=let ⟨o,e,c,n,d,_⟩:=x;⟨o,e,c,n,d⟩
theorem TupD.new (h:Heap) (items:Array Value):TupD (h.push {cls:= .type "tuple",data:= .seq items}) h.objs.size items:=⟨_,lJ0 _ rfl,rfl,_,rfl,rfl⟩
noncomputable def ObjOk (H:Hp) (h:Heap) (a:Addr):HO->Prop
 | .lst xs=>xs.length<=sizeLine/\∃(its:List Value) (n:Nat),Vals xs its/\h.get? a=some {cls:= .type "list",data:= .seq its.toArray n}
 | .tup xs=>xs.length<=sizeLine/\∃its:List Value,Vals xs its/\TupD h a its.toArray
 | .dK kvs=>kvs.length<=sizeLine/\(a == sysModules)=false/\∃vs,KV kvs vs/\h.DictOf (jJ4 P w) a vs
 | .dT kvs=>kvs.length<=sizeLine/\(a == sysModules)=false/\∃xs:List (TKey×Addr×Value),
   Paired (fun (p:TKey×V) (q:TKey×Addr×Value)=>p.1=q.1/\TKeyAt H p.1 q.2.1/\RelV p.2 q.2.2) kvs xs/\
   ∃o es ep,h.get? a=some o/\o.ExactDict/\o.data= .dict es ep/\es.toList=xs.map (entryOfKey (jJn P w))/\(xs.map (·.1)).Nodup
 | .set S n=>h.SetOf (intKind P w) a S n
 | .ins C dx fs=>H dx=some (.own a)/\fs.length<=1000/\dx≠a/\h.get? a=some (PySem.W.instObj C dx)/\
   ∃mA,h.Ns1 dx mA/\(∀f,RelO (fs.lookup f) (mA f))/\PySem.Within mA (fs.map (·.1))
 | .own _=>∃o,h.get? a=some o
 | .xd fs=>∃mA,h.Ns1 a mA/\∀f,RelO (fs.lookup f) (mA f)
 | .rng lo hi=>∃t u v,h.get? a=some {cls:= .type "range",data:= .fields #[.int lo t,.int hi u,.int 1 v]}
 | .frz o u=>h.get? a=some o/\ObjOk H h a u
 | .tbl ps=>h.get? a=some {cls:= .none,data:= .fields ps}
 | .met f x=>h.get? a=some (PySem.W.methodObj (.ref f) (.ref x))
 | .ext φ=>φ h/\(∃o,h.get? a=some o)/\∀h1 h2:Heap,φ h1->(∀o,h1.get? a=some o->h2.get? a=some o)->φ h2
def HOk (H:Hp) (h:Heap):Prop:=∀a o,H a=some o->ObjOk P w H h a o
end
section
variable {P:Program} {w:World} {H H':Hp} {h h':Heap} {a:Addr} {o:HO}
theorem ObjOk.lt (x:ObjOk P w H h a o):a<h.objs.size:=by
 cases o with
 | lst xs=>obtain⟨_,_,_,_,e⟩:=x;exact lJi e
 | tup xs=>obtain⟨_,_,_,p⟩:=x;exact p.is.lt
 | dK kvs=>obtain⟨_,_,_,_,o,_,_,e,_⟩:=x;exact lJi e
 | dT kvs=>obtain⟨_,_,_,_,o,_,_,e,_⟩:=x;exact lJi e
 | set S n=>obtain⟨o,_,_,_,e,_⟩:=x;exact lJi e
 | ins C dx fs=>obtain⟨_,_,_,e,_⟩:=x;exact lJi e
 | own y=>obtain⟨_,e⟩:=x;exact lJi e
 | xd fs=>obtain⟨_,⟨_,_,_,e,_⟩,_⟩:=x;exact lJi e
 | rng lo hi=>obtain⟨_,_,_,e⟩:=x;exact lJi e
 | frz ob u=>obtain⟨e,_⟩:=x;exact lJi e
 | tbl ps=>exact lJi (show h.get? a=some _ from x)
 | met f y=>exact lJi (show h.get? a=some _ from x)
 | ext φ=>obtain⟨_,⟨_,e⟩,_⟩:=x;exact lJi e
theorem Paired.mapP {α β:Type} {F G:α->β->Prop}:∀ {l₁:List α} {l₂:List β},Paired F l₁ l₂->(∀a b,F a b->G a b)->Paired G l₁ l₂
 | _,_,.nil,_=> .nil
 | _,_,.cons r t,f=> .cons (f _ _ r) (Paired.mapP t f)
theorem ObjOk.stay (x:ObjOk P w H h a o) (k:∀b u,(b=a\/H b=some (.own a))->h.get? b=some u->h'.get? b=some u)
  (ho:∀b,H b=some (.own a)->H' b=some (.own a)) (ht:∀b xs,H b=some (.tup xs)->H' b=some (.tup xs)):ObjOk P w H' h' a o:=by
 induction o with
 | lst xs=>obtain⟨z,its,n,r,e⟩:=x;exact⟨z,its,n,r,k _ _ (.inl rfl) e⟩
 | tup xs=>obtain⟨z,its,r,ob,e,c⟩:=x;exact⟨z,its,r,ob,k _ _ (.inl rfl) e,c⟩
 | dK kvs=>obtain⟨z,y,vs,r,ob,es,ep,e,c⟩:=x;exact⟨z,y,vs,r,ob,es,ep,k _ _ (.inl rfl) e,c⟩
 | dT kvs=>
  obtain⟨z,y,xs,r,ob,es,ep,e,c⟩:=x
  exact⟨z,y,xs,Paired.mapP r fun p q z=>⟨z.1,z.2.1.mono ht,z.2.2⟩,ob,es,ep,k _ _ (.inl rfl) e,c⟩
 | set S n=>obtain⟨ob,es,ep,t,e,c⟩:=x;exact⟨ob,es,ep,t,k _ _ (.inl rfl) e,c⟩
 | ins C dx fs=>
  obtain⟨d,z,ne,e,mA,⟨od,es,ep,e2,c⟩,r⟩:=x
  exact⟨ho _ d,z,ne,k _ _ (.inl rfl) e,mA,⟨od,es,ep,k _ _ (.inr d) e2,c⟩,r⟩
 | own y=>obtain⟨ob,e⟩:=x;exact⟨ob,k _ _ (.inl rfl) e⟩
 | xd fs=>obtain⟨mA,⟨od,es,ep,e,c⟩,r⟩:=x;exact⟨mA,⟨od,es,ep,k _ _ (.inl rfl) e,c⟩,r⟩
 | rng lo hi=>obtain⟨t,u,v,e⟩:=x;exact⟨t,u,v,k _ _ (.inl rfl) e⟩
 | frz ob u ih=>obtain⟨e,q⟩:=x;exact⟨k _ _ (.inl rfl) e,ih q⟩
 | tbl ps=>
  have e:h.get? a=some {cls:= .none,data:= .fields ps}:=x
  show h'.get? a=some {cls:= .none,data:= .fields ps}
  exact k a _ (.inl rfl) e
 | met f y=>
  have e:h.get? a=some (PySem.W.methodObj (.ref f) (.ref y)):=x
  show h'.get? a=some (PySem.W.methodObj (.ref f) (.ref y))
  exact k a _ (.inl rfl) e
 | ext φ=>obtain⟨p,⟨o,e⟩,st⟩:=x;exact⟨st _ _ p fun o q=>k _ _ (.inl rfl) q,⟨o,k _ _ (.inl rfl) e⟩,st⟩
theorem HOk.lt (x:HOk P w H h) (e:H a=some o):a<h.objs.size:=(x a o e).lt
theorem HOk.fresh (x:HOk P w H h) (e:h.objs.size<=a):H a=none:=by
 cases q:H a with
 | none=>rfl
 | some u=>exact absurd (lJ9 (x.lt q) e) (lQo _)
theorem HOk.kept (x:HOk P w H h) (k:∀b u,h.get? b=some u->h'.get? b=some u):HOk P w H h':=fun a o e=>
 (x a o e).stay (fun b u _ q=>k b u q) (fun _ q=>q) fun _ _ q=>q
theorem HOk.laid (x:HOk P w H h) (k:∀b u,h.get? b=some u->h'.get? b=some u) (hp:h.objs.size<=a) (new:ObjOk P w (upd H a o) h' a o):HOk P w (upd H a o) h':=fun b u e=>by
 have hn:=x.fresh hp
 by_cases hb:b=a
 ·subst hb;rw[jKb] at e;cases e;exact new
 ·rw[jJ1 hb] at e
  exact (x b u e).stay (fun c v _ q=>k c v q) (fun c q=>by rw[jJ1 (jUa q hn)];exact q) fun c xs q=>by rw[jJ1 (jUa q hn)];exact q
end
def Rd (H:Hp) (a:Addr) (u:HO):Prop:=H a=some u\/∃o,H a=some (.frz o u)
theorem Rd.ok {P:Program} {w:World} {H:Hp} {h:Heap} {a:Addr} {u:HO} (r:Rd H a u) (x:HOk P w H h):ObjOk P w H h a u:=by
 rcases r with r | ⟨o,r⟩
 ·exact x a u r
 ·obtain⟨_,q⟩:=x a _ r
  exact q
def Mut:Option HO->Prop
 | some (.lst _)=>True
 | some (.dK _)=>True
 | some (.dT _)=>True
 | some (.set _ _)=>True
 | some (.ins _ _ _)=>True
 | some (.ext _)=>True
 | _=>False
section
variable {P:Program} {w:World} {H:Hp} {h h':Heap} {x e:Addr} {o':HO}
theorem HOk.write (ok:HOk P w H h) (mu:Mut (H x)) (he:e=x\/H e=some (.own x)) (k:∀b u,b≠e->h.get? b=some u->h'.get? b=some u) (heo:∃u,h'.get? e=some u)
  (new:ObjOk P w (upd H x o') h' x o'):HOk P w (upd H x o') h':=fun b u q=>by
 have nown:∀c y,H c=some (.own y)->c≠x:=fun c y r z=>by subst z;rw[r] at mu;exact mu
 have ntup:∀c xs,H c=some (.tup xs)->c≠x:=fun c xs r z=>by subst z;rw[r] at mu;exact mu
 by_cases hb:b=x
 ·subst hb;rw[jKb] at q;cases q;exact new
 ·rw[jJ1 hb] at q
  by_cases hbe:b=e
  ·have q':H b=some (.own x):=by
    rcases he with z | z
    ·exact absurd (hbe.trans z) hb
    ·rw[hbe];exact z
   rw[q] at q';cases q'
   obtain⟨v,hv⟩:=heo
   exact⟨v,by rw[hbe];exact hv⟩
  ·refine (ok b u q).stay (fun c v hc r=>k c v ?_ r) (fun c r=>by rw[jJ1 (nown c b r)];exact r) fun c xs r=>by rw[jJ1 (ntup c xs r)];exact r
   rcases hc with rfl | hc
   ·exact hbe
   ·rintro rfl
    rcases he with z | z
    ·exact nown c b hc z
    ·rw[hc] at z;cases z;exact hb rfl
end
structure Un (fs ex:List Addr) (H H':Hp) (h h':Heap):Prop where
 keep:∀b o,h.get? b=some o->H b=none->b∉fs->b∉ex->h'.get? b=some o
 slot:∀b o,h.get? b=some o->H b=none->b∈fs->b∉ex->∃sl,h'.get? b=some {o with slots:=sl}
 free:∀b o,h.get? b=some o->H b=none->b∉ex->H' b=none
 there:∀b o,h.get? b=some o->b∉ex->∃o',h'.get? b=some o'
 tups:∀b xs,H b=some (.tup xs)->H' b=some (.tup xs)
 frzs:∀b o u,H b=some (.frz o u)->H' b=some (.frz o u)
 tbls:∀b ps,H b=some (.tbl ps)->∃more,H' b=some (.tbl (ps++more))
section
variable {fs fs' ex ex':List Addr} {H H1 H2:Hp} {h h1 h2 h':Heap} {a x e:Addr} {o:HO}
theorem Un.any (u:Un fs ex H H1 h h1) {b:Addr} {ob:Obj} (q:h.get? b=some ob) (n:H b=none) (hx:b∉ex):∃sl,h1.get? b=some {ob with slots:=sl}:=by
 by_cases hb:b∈fs
 ·exact u.slot b ob q n hb hx
 ·exact⟨ob.slots,u.keep b ob q n hb hx⟩
theorem Un.kept (k:∀b u,h.get? b=some u->h'.get? b=some u):Un fs ex H H h h':=
 ⟨fun b ob q _ _ _=>k b ob q,fun b ob q _ _ _=>⟨ob.slots,k b ob q⟩,fun _ _ _ n _=>n,fun b ob q _=>⟨ob,k b ob q⟩,fun _ _ q=>q,fun _ _ _ q=>q,fun _ ps q=>⟨#[],by rw[q];simp⟩⟩
theorem Un.refl:Un fs ex H H h h:=Un.kept fun _ _ q=>q
theorem Un.laid (k:∀b u,h.get? b=some u->h'.get? b=some u) (hp:h.objs.size<=a) (hn:H a=none):Un fs ex H (upd H a o) h h' where
 keep:=fun b u q _ _ _=>k b u q
 slot:=fun b u q _ _ _=>⟨u.slots,k b u q⟩
 free:=fun b u q n _=>by rw[jJ1 (lJm (lJ9 (lJi q) hp))];exact n
 there:=fun b u q _=>⟨u,k b u q⟩
 tups:=fun b xs q=>by rw[jJ1 (jUa q hn)];exact q
 frzs:=fun b u xs q=>by rw[jJ1 (jUa q hn)];exact q
 tbls:=fun b ps q=>⟨#[],by rw[jJ1 (jUa q hn),q];simp⟩
theorem Un.write (mu:Mut (H x)) (he:e=x\/H e=some (.own x)) (k:∀b u,b≠e->h.get? b=some u->h'.get? b=some u) (heo:∃u,h'.get? e=some u):Un fs ex H (upd H x o) h h':=by
 have hx:∀b,H b=none->b≠x:=fun b n z=>by subst z;rw[n] at mu;exact mu
 have hb:∀b,H b=none->b≠e:=fun b n z=>by
  subst z
  rcases he with r | r
  ·exact hx b n r
  ·rw[n] at r;cases r
 have hm:∀b u,H b=some u->¬ Mut (some u)->b≠x:=fun b u q nm z=>by subst z;rw[q] at mu;exact nm mu
 refine⟨fun b u q n _ _=>k b u (hb b n) q,fun b u q n _ _=>⟨u.slots,k b u (hb b n) q⟩,fun b u q n _=>by rw[jJ1 (hx b n)];exact n,fun b u q _=> ?_,
  fun b xs q=>by rw[jJ1 (hm b _ q fun z=>z)];exact q,fun b u xs q=>by rw[jJ1 (hm b _ q fun z=>z)];exact q,fun b ps q=>⟨#[],by rw[jJ1 (hm b _ q fun z=>z),q];simp⟩⟩
 by_cases hbe:b=e
 ·subst hbe;exact heo
 ·exact⟨u,k b u hbe q⟩
end
def trk (h:Heap) (H:Hp):List Addr:=(List.range h.objs.size).filter fun a=>(H a).isSome
def hidT (h:Heap) (H:Hp):Heap:=PySem.W.hideAll h (trk h H)
theorem qQf (h:Heap) (H:Hp):(hidT h H).objs.size=h.objs.size:=PySem.W.hideAll_size _ _
theorem qV6 {h:Heap} {H:Hp} {b:Addr} {o:Obj} (e:h.get? b=some o) (n:H b=none):(hidT h H).get? b=some o:=
 PySem.W.hideAll_get _ e fun hm=>by
  have q:(H b).isSome=true:=(lXr.mp hm).2
  rw[n] at q;simp at q
theorem qZk {h:Heap} {H:Hp} {b:Addr} {o:Obj} (e:(hidT h H).get? b=some o):h.get? b=some o/\H b=none:=by
 have e':h.get? b=some o:=PySem.W.of_hideAll (trk h H) e
 refine⟨e',?_⟩
 cases q:H b with
 | none=>rfl
 | some x=>
  have hm:b∈trk h H:=lXr.mpr ⟨lJ7.mpr (lJi e'),by simp[q]⟩
  have z:(hidT h H).get? b=none:=PySem.W.hideAll_none (trk h H) hm
  rw[z] at e;cases e
def uJ2 (g h:Heap) (L:Addr):List (Addr×Obj):=(List.range h.objs.size).filterMap fun a=>if a=L\/(g.get? a).isSome=true then none else (h.get? a).map fun o=>(a,o)
def rest (g h:Heap) (L d:Addr):List (Addr×Obj):=(uJ2 g h L).filter fun p=>decide (p.1≠d)
structure Mod (K:PySem.W.Frag) (mg:Str->Option Value) (base:Heap):Prop where
 kin:K.In base
 glob:base.Ns mainGlobals mg
 blt:∃mb,base.Ns builtinsNs mb/\∀x:Str,x≠"__name__"->mb x=bootBuiltins x
 nolimit:base.NoLimit
structure Cx where
 prog:Program
 w:World
 K:PySem.W.Frag
 mg:Str->Option Value
 base:Heap
 A:Around
 N:List Str
 s₀:Shared
 H₀:Hp
 env:Env
 outer:List Env
 stack:List Env
 ex:List Addr
 fn:Str->Bool
 calm:Bool
 pn:List (Addr×Obj)
 xe:Value->Shared->Prop
def frs (l:List Env):List Addr:=l.filterMap (·.frame)
abbrev Cx.fs (X:Cx):List Addr:=frs X.outer
def Vis (sc:Scope) (x:Str):Prop:=sc.names.lookup x=some .local\/sc.names.lookup x=some .cell\/sc.names.lookup x=some .free
def Loc (sc:Scope) (x:Str):Prop:=sc.names.lookup x=some .local\/sc.names.lookup x=some .cell
def Look (env:Env) (h:Heap) (m:Str->Option Value) (x:Str) (u:Value):Prop:=
 (env.kindOf x=some .local/\m x=some u)\/((env.kindOf x=some .cell\/env.kindOf x=some .free)/\∃c,env.cells.lookup x=some c/\h.IsCell c (some u))
structure Cx.Ok (X:Cx):Prop where
 mod:Mod X.K X.mg X.base
 kind:X.env.scope.kind= .function
 glob:X.env.globals=mainGlobals
 blt:X.env.builtins=builtinsNs
 above:X.s₀.heap.objs.size<=X.env.locals
 inj:∀x y c,X.env.cells.lookup x=some c->X.env.cells.lookup y=some c->x=y
 has:∀x,(X.env.kindOf x=some .cell\/X.env.kindOf x=some .free)->∃c,X.env.cells.lookup x=some c
 cab:∀x c,X.fn x=true->X.env.cells.lookup x=some c->X.s₀.heap.objs.size<=c
 hd:X.calm=true->X.A.handled=none
 gd:X.calm=true->X.A.guards=some []
 frames:X.A.frames=some X.stack
 stk:X.stack=X.outer\/(X.stack=X.env::X.outer/\X.env.frame=some X.env.locals)
 exf:∀b∈X.ex,b≠X.env.locals/\∀x c,X.env.cells.lookup x=some c->c≠b
 bs:∀b o,X.base.get? b=some o->X.s₀.heap.get? b=some o/\X.H₀ b=none
 bsz:X.base.objs.size<=X.s₀.heap.objs.size
 noex:∀b o,X.base.get? b=some o->b∉X.ex
 exfs:∀b∈X.ex,b∉X.fs
 funs:X.s₀.heap.FunFrames X.base X.outer
 frf:∀b∈X.fs,X.H₀ b=none
structure Inv (X:Cx) (pins:List (Addr×Obj)) (σ:List (Option V)) (H:Hp) (s:Shared):Prop where
 ok:X.Ok
 os:s.os=X.s₀.os
 bare:AllBare s.gens
 base:Un X.fs X.ex X.H₀ H X.s₀.heap s.heap
 loc:∃m,s.heap.Ns X.env.locals m/\∀(i:Nat) (x:Str) (v:V),X.N[i]? =some x->σ[i]? =some (some v)->Vis X.env.scope x->∃u,RelV v u/\Look X.env s.heap m x u
 cell:∀x c,X.env.cells.lookup x=some c->∃v,s.heap.IsCell c v
 free:H X.env.locals=none
 freeC:∀x c,X.env.cells.lookup x=some c->H c=none
 pin:∀p∈X.pn++pins,s.heap.get? p.1=some p.2/\H p.1=none/\p.1≠X.env.locals/\p.1∉X.fs/\∀v,p.2.data≠ .cell v
 hok:HOk X.prog X.w H s.heap
 len:σ.length=X.N.length
section
variable {X:Cx} {pins:List (Addr×Obj)} {σ:List (Option V)} {H H':Hp} {s:Shared} {h':Heap}
theorem Cx.Ok.nofr (ok:X.Ok) {b:Addr} {o:Obj} (e:X.base.get? b=some o):b∉X.fs:=fun hb=>by
 have:=(ok.funs.mem hb).1
 rw[e] at this;cases this
theorem Inv.bs (I:Inv X pins σ H s):∀b o,X.base.get? b=some o->s.heap.get? b=some o/\H b=none:=fun b o e=>
 ⟨I.base.keep b o (I.ok.bs b o e).1 (I.ok.bs b o e).2 (I.ok.nofr e) (I.ok.noex b o e),I.base.free b o (I.ok.bs b o e).1 (I.ok.bs b o e).2 (I.ok.noex b o e)⟩
theorem Inv.bk (I:Inv X pins σ H s):∀b o,X.base.get? b=some o->s.heap.get? b=some o:=fun b o e=>(I.bs b o e).1
theorem Inv.mod (I:Inv X pins σ H s):Mod X.K X.mg X.base:=I.ok.mod
theorem Inv.kIn (I:Inv X pins σ H s):X.K.In s.heap:=I.ok.mod.kin.keeps I.bk
theorem Inv.lt (I:Inv X pins σ H s):X.env.locals<s.heap.objs.size:=let ⟨_,hn,_⟩:=I.loc;hn.lt
theorem Inv.sz (I:Inv X pins σ H s):X.s₀.heap.objs.size<=s.heap.objs.size:=lK1 I.ok.above (lVw I.lt)
theorem Inv.nofs (I:Inv X pins σ H s) {a:Addr} (h:s.heap.objs.size<=a):a∉X.fs:=fun hb=>by
 obtain⟨_,o,ho,_⟩:=I.ok.funs.mem hb
 exact absurd (lJ9 (lJi ho) (lK1 I.sz h)) (lQo _)
theorem Inv.cne (I:Inv X pins σ H s):∀x c,X.env.cells.lookup x=some c->c≠X.env.locals:=fun x c e z=>by
 obtain⟨v,o,ho,hd⟩:=I.cell x c e
 obtain⟨m,⟨o',es,ep,ho',hd',_⟩,_⟩:=I.loc
 rw[z,ho'] at ho;cases ho;rw[hd'] at hd;cases hd
theorem Inv.funs (I:Inv X pins σ H s):s.heap.FunFrames X.base X.outer:=by
 have all:∀(l:List Env),(∀b∈frs l,b∈X.fs)->X.s₀.heap.FunFrames X.base l->s.heap.FunFrames X.base l:=by
  intro l
  induction l with
  | nil=>intro _ _;trivial
  | cons env r ih=>
   intro hs hl
   obtain⟨hk,⟨L,o,hf,hn,ho,hd⟩,hr⟩:=hl
   have hL:L∈X.fs:=hs L (by unfold frs;rw[lQx,hf];exact lJx)
   obtain⟨sl,e⟩:=I.base.slot L o ho (I.ok.frf L hL) hL fun z=>I.ok.exfs L z hL
   exact⟨hk,⟨L,_,hf,hn,e,hd⟩,ih (fun b hb=>hs b (by unfold frs;rw[lQx,hf];exact lJ1 _ hb)) hr⟩
 exact all X.outer (fun _ hb=>hb) I.ok.funs
theorem Inv.stack (I:Inv X pins σ H s):s.heap.FunFrames X.base X.stack:=by
 rcases I.ok.stk with e | ⟨e,hf⟩
 ·rw[e];exact I.funs
 ·rw[e]
  obtain⟨m,hn,_⟩:=I.loc
  refine .cons (by rw[I.ok.kind];decide) hf hn ?_ I.funs
  exact Heap.get?_none_of_le (lK1 I.ok.bsz I.ok.above)
theorem Inv.stkSub (I:Inv X pins σ H s):∀b∈frs X.stack,b∈X.env.locals::X.fs:=fun b hb=>by
 rcases I.ok.stk with e | ⟨e,hf⟩
 ·rw[e] at hb;exact lJ1 _ hb
 ·rw[e] at hb
  unfold frs at hb
  rw[lQx,hf] at hb
  exact hb
theorem Inv.stkFree (I:Inv X pins σ H s):∀b∈frs X.stack,H b=none:=fun b hb=>by
 rcases lJr.mp (I.stkSub b hb) with e | hb
 ·rw[e];exact I.free
 ·obtain⟨_,o,ho,_⟩:=I.ok.funs.mem hb
  exact I.base.free b o ho (I.ok.frf b hb) fun z=>I.ok.exfs b z hb
theorem Inv.step {g':Array GenState} {t':Nat} {d':Drawn} {ch:List Addr} (I:Inv X pins σ H s)
  (hch:∀b∈ch,(b∈X.ex\/X.s₀.heap.objs.size<=b)/\b≠X.env.locals/\(∀x c,X.env.cells.lookup x=some c->c≠b)/\∀p∈X.pn++pins,p.1≠b)
  (keep:∀b o,b≠X.env.locals->b∉X.fs->b∉ch->s.heap.get? b=some o->H b=none->h'.get? b=some o)
  (slot:∀b o,b≠X.env.locals->b∈X.fs->b∉ch->s.heap.get? b=some o->H b=none->∃sl,h'.get? b=some {o with slots:=sl}) (free:∀b o,b∉ch->s.heap.get? b=some o->H b=none->H' b=none)
  (there:∀b o,b∉ch->s.heap.get? b=some o->∃o',h'.get? b=some o')
  (tups:∀b xs,H b=some (.tup xs)->H' b=some (.tup xs)) (frzs:∀b o u,H b=some (.frz o u)->H' b=some (.frz o u)) (tbls:∀b ps,H b=some (.tbl ps)->∃more,H' b=some (.tbl (ps++more)))
  (ns:∀m,s.heap.Ns X.env.locals m->h'.Ns X.env.locals m) (hok:HOk X.prog X.w H' h') (hg:AllBare g'):
  Inv X pins σ H' {s with heap:=h',gens:=g',drawn:=d',toks:=t'}:=by
 have neL:∀b o,X.s₀.heap.get? b=some o->b≠X.env.locals:=fun b o e=>lJm (lJ9 (lJi e) I.ok.above)
 have neC:∀b o,X.s₀.heap.get? b=some o->b∉X.ex->b∉ch:=fun b o e hx hb=>by
  rcases (hch b hb).1 with z | z
  ·exact hx z
  ·exact absurd (lJ9 (lJi e) z) (lQo _)
 have cellK:∀x c,X.env.cells.lookup x=some c->∀v,s.heap.IsCell c v->h'.IsCell c v:=fun x c e v ⟨o,ho,hd⟩=>by
  have nch:c∉ch:=fun z=>(hch c z).2.2.1 x c e rfl
  by_cases hc:c∈X.fs
  ·obtain⟨sl,q⟩:=slot c o (I.cne x c e) hc nch ho (I.freeC x c e)
   exact⟨_,q,hd⟩
  ·exact⟨o,keep c o (I.cne x c e) hc nch ho (I.freeC x c e),hd⟩
 refine⟨I.ok,I.os,hg,⟨fun b o e n hb hx=> ?_,fun b o e n hb hx=> ?_,fun b o e n hx=> ?_,fun b o e hx=> ?_,fun b xs e=>tups b xs (I.base.tups b xs e),fun b o xs e=>frzs b o xs (I.base.frzs b o xs e),fun b ps e=> ?_⟩,?_,fun x c e=> ?_,?_,fun x c e=> ?_,fun p hp=> ?_,hok,I.len⟩
 ·exact keep b o (neL b o e) hb (neC b o e hx) (I.base.keep b o e n hb hx) (I.base.free b o e n hx)
 ·obtain⟨sl,e1⟩:=I.base.slot b o e n hb hx
  obtain⟨sl',e2⟩:=slot b _ (neL b o e) hb (neC b o e hx) e1 (I.base.free b o e n hx)
  exact⟨sl',e2⟩
 ·obtain⟨o',e1⟩:=I.base.there b o e hx
  exact free b o' (neC b o e hx) e1 (I.base.free b o e n hx)
 ·obtain⟨o',e1⟩:=I.base.there b o e hx
  exact there b o' (neC b o e hx) e1
 ·obtain⟨m1,e1⟩:=I.base.tbls b ps e
  obtain⟨m2,e2⟩:=tbls b _ e1
  exact⟨m1++m2,by rw[e2,Array.append_assoc]⟩
 ·obtain⟨m,hn,hl⟩:=I.loc
  refine⟨m,ns m hn,fun i x v e1 e2 e3=> ?_⟩
  obtain⟨u,r,l⟩:=hl i x v e1 e2 e3
  refine⟨u,r,?_⟩
  rcases l with l | ⟨k,c,e,z⟩
  ·exact .inl l
  ·exact .inr ⟨k,c,e,cellK x c e _ z⟩
 ·obtain⟨v,z⟩:=I.cell x c e
  exact⟨v,cellK x c e v z⟩
 ·obtain⟨m,⟨o,_,_,ho,_⟩,_⟩:=I.loc
  exact free _ o (fun z=>(hch _ z).2.1 rfl) ho I.free
 ·obtain⟨v,o,ho,hd⟩:=I.cell x c e
  exact free c o (fun z=>(hch c z).2.2.1 x c e rfl) ho (I.freeC x c e)
 ·obtain⟨e,n,ne,nf,d⟩:=I.pin p hp
  have nch:p.1∉ch:=fun z=>(hch p.1 z).2.2.2 p hp rfl
  exact⟨keep p.1 p.2 ne nf nch e n,free p.1 p.2 nch e n,ne,nf,d⟩
theorem Inv.un {t':Nat} (I:Inv X pins σ H s) (u:Un X.fs [] H H' s.heap h') (hok:HOk X.prog X.w H' h'):Inv X pins σ H' {s with heap:=h',toks:=t'}:=by
 obtain⟨m,⟨o,es,ep,ho,r⟩,_⟩:=id I.loc
 obtain⟨sl,hL⟩:=u.any ho I.free (by simp)
 exact I.step (g':=s.gens) (d':=s.drawn) (ch:=[]) (fun _ z=>nomatch z) (fun b o _ hb _ e n=>u.keep b o e n hb (by simp)) (fun b o _ hb _ e n=>u.slot b o e n hb (by simp)) (fun b o _ e n=>u.free b o e n (by simp)) (fun b o _ e=>u.there b o e (by simp)) u.tups u.frzs u.tbls (fun m' hm=>by
  obtain⟨o',es',ep',ho',r'⟩:=hm
  rw[ho] at ho';cases ho'
  exact⟨_,es',ep',hL,r'⟩) hok I.bare
theorem Inv.call {g':Array GenState} {t':Nat} {d':Drawn} {ch:List Addr} (I:Inv X pins σ H s) (u:Un (frs X.stack) ch H H' s.heap h') (hok:HOk X.prog X.w H' h') (hg:AllBare g')
  (hch:∀b∈ch,(b∈X.ex\/X.s₀.heap.objs.size<=b)/\b≠X.env.locals/\(∀x c,X.env.cells.lookup x=some c->c≠b)/\∀p∈X.pn++pins,p.1≠b):
  Inv X pins σ H' {s with heap:=h',gens:=g',drawn:=d',toks:=t'}:=by
 obtain⟨m,⟨o,es,ep,ho,r⟩,_⟩:=id I.loc
 obtain⟨sl,hL⟩:=u.any ho I.free fun z=>(hch _ z).2.1 rfl
 exact I.step (ch:=ch) hch (fun b o hL hb hc e n=>u.keep b o e n (fun z=>(lJr.mp (I.stkSub b z)).elim hL hb) hc) (fun b o _ _ hc e n=>u.any e n hc) (fun b o hc e n=>u.free b o e n hc) (fun b o hc e=>u.there b o e hc) u.tups u.frzs u.tbls (fun m' hm=>by
  obtain⟨o',es',ep',ho',r'⟩:=hm
  rw[ho] at ho';cases ho'
  exact⟨_,es',ep',hL,r'⟩) hok hg
theorem Inv.turned {t':Nat} {it:Addr} (I:Inv X pins σ H s) (k:∀b o,b≠it->s.heap.get? b=some o->h'.get? b=some o) (hn:H it=none) (hL:it≠X.env.locals)
  (h1:it∈X.ex\/X.s₀.heap.objs.size<=it) (h2:∀x c,X.env.cells.lookup x=some c->c≠it) (h3:∀p∈X.pn++pins,p.1≠it):Inv X pins σ H {s with heap:=h',toks:=t'}:=by
 have nit:∀b u,H b=some u->b≠it:=fun b u e z=>by rw[z,hn] at e;cases e
 refine I.step (g':=s.gens) (d':=s.drawn) (ch:=[it]) (fun b hb=> ?_) (fun b o _ _ hc e _=>k b o (fun z=>hc (by simp[z])) e) (fun b o _ _ hc e _=>⟨o.slots,k b o (fun z=>hc (by simp[z])) e⟩) (fun _ _ _ _ n=>n)
  (fun b o hc e=>⟨o,k b o (fun z=>hc (by simp[z])) e⟩) (fun _ _ e=>e) (fun _ _ _ e=>e) (fun b ps e=>⟨#[],by rw[e];simp⟩) (fun m hm=> ?_) (fun b u e=> ?_) I.bare
 ·have e:b=it:=by simpa using hb
  subst e
  exact⟨h1,hL,h2,h3⟩
 ·obtain⟨o,es,ep,ho,r⟩:=hm
  exact⟨o,es,ep,k _ o (Ne.symm hL) ho,r⟩
 ·refine (I.hok b u e).stay (fun c v hc q=>k c v ?_ q) (fun _ q=>q) fun _ _ q=>q
  rcases hc with z | z
  ·rw[z];exact nit b u e
  ·exact nit c _ z
theorem Inv.tok (I:Inv X pins σ H s) (t:Nat):Inv X pins σ H {s with toks:=t}:=I.un (h':=s.heap) (t':=t) Un.refl I.hok
theorem Inv.kept {t':Nat} (I:Inv X pins σ H s) (k:∀b u,s.heap.get? b=some u->h'.get? b=some u):Inv X pins σ H {s with heap:=h',toks:=t'}:=I.un (Un.kept k) (I.hok.kept k)
theorem Inv.laid {a:Addr} {o:HO} {t':Nat} (I:Inv X pins σ H s) (k:∀b u,s.heap.get? b=some u->h'.get? b=some u) (hp:s.heap.objs.size<=a) (new:ObjOk X.prog X.w (upd H a o) h' a o):
  Inv X pins σ (upd H a o) {s with heap:=h',toks:=t'}:=I.un (Un.laid k hp (I.hok.fresh hp)) (I.hok.laid k hp new)
theorem Inv.write {x e:Addr} {o:HO} {t':Nat} (I:Inv X pins σ H s) (mu:Mut (H x)) (he:e=x\/H e=some (.own x)) (k:∀b u,b≠e->s.heap.get? b=some u->h'.get? b=some u) (heo:∃u,h'.get? e=some u)
  (new:ObjOk X.prog X.w (upd H x o) h' x o):Inv X pins σ (upd H x o) {s with heap:=h',toks:=t'}:=I.un (Un.write mu he k heo) (I.hok.write mu he k heo new)
theorem Inv.weak {σ':List (Option V)} (I:Inv X pins σ H s) (hl:σ'.length=σ.length) (w:∀(i:Nat) v,σ'[i]? =some (some v)->σ[i]? =some (some v)):Inv X pins σ' H s:=
 ⟨I.ok,I.os,I.bare,I.base,let ⟨m,hn,hl'⟩:=I.loc;⟨m,hn,fun i x v e1 e2 e3=>hl' i x v e1 (w i v e2) e3⟩,I.cell,I.free,I.freeC,I.pin,I.hok,hl.trans I.len⟩
theorem Inv.pins_of {pins':List (Addr×Obj)} (I:Inv X pins σ H s) (h:∀p∈pins',s.heap.get? p.1=some p.2/\H p.1=none/\p.1≠X.env.locals/\p.1∉X.fs/\∀v,p.2.data≠ .cell v):Inv X pins' σ H s:=
 ⟨I.ok,I.os,I.bare,I.base,I.loc,I.cell,I.free,I.freeC,fun p hp=>(lJn.mp hp).elim (fun z=>I.pin p (lKd _ z)) (h p),I.hok,I.len⟩
theorem kXv {N:List Str} (hN:N.Nodup) {i j:Nat} {x:Str} (a:N[i]? =some x) (b:N[j]? =some x):i=j:=by
 obtain⟨h1,e1⟩:=lJj.mp a
 obtain⟨h2,e2⟩:=lJj.mp b
 exact (List.getElem_inj hN).mp (e1.trans e2.symm)
theorem qJk {M:Model} {A:Around} {E:Value->Shared->Prop} {i:Nat} {x:Str} {v:V} {u:Value} {Q:Unit->Shared->Prop} (I:Inv X pins σ H s) (hN:X.N.Nodup) (hi:X.N[i]? =some x) (hx:Loc X.env.scope x) (r:RelV v u)
  (h:∀s',Inv X pins (σ.set i (some v)) H s'->(∃a,Heap.SameBut a s.heap s'.heap/\(a=X.env.locals\/X.env.cells.lookup x=some a))->Q () s') (hf:X.fn x=true\/X.env.scope.names.lookup x=some .local:=by first | exact .inl rfl | exact .inr rfl | assumption):wpAny M A (storeName X.env x u) Q E s:=by
 obtain⟨m,hn,hl⟩:=id I.loc
 have hcls:(X.env.scope.kind == .class||(X.env.scope.kind == .module&&X.env.locals != X.env.globals))=false:=by rw[I.ok.kind];rfl
 have hiσ:i<σ.length:=by rw[I.len];exact (lJj.mp hi).1
 have cne:=I.cne
 have tracked:∀ {a:Addr} {h':Heap},(∃o,s.heap.get? a=some o/\H a=none)->Heap.SameBut a s.heap h'->HOk X.prog X.w H h':=fun {a h'} ha hs b ob e=>by
  obtain⟨_,_,hfree⟩:=ha
  refine (I.hok b ob e).stay (fun c w' hc q=>(hs.2 c ?_).trans q) (fun _ q=>q) fun _ _ q=>q
  rintro rfl
  rcases hc with rfl | hc
  ·rw[hfree] at e;cases e
  ·rw[hfree] at hc;cases hc
 rcases hx with hk | hk
 ·refine wpAny_storeName_local hk hn (fun h' hn' hs=> ?_) hcls
  obtain⟨oL,_,_,hoL,_⟩:=id hn
  refine h _ ⟨I.ok,I.os,I.bare,⟨fun b o e n hb hx=> ?_,fun b o e n hb hx=> ?_,I.base.free,fun b o e hx=> ?_,I.base.tups,I.base.frzs,I.base.tbls⟩,⟨_,hn',fun j y v' e1 e2 e3=> ?_⟩,fun y c e=> ?_,I.free,I.freeC,fun p hp=> ?_,tracked ⟨oL,hoL,I.free⟩ hs,by simpa using I.len⟩ ⟨_,hs,.inl rfl⟩
  ·exact (hs.2 b (lJm (lJ9 (lJi e) I.ok.above))).trans (I.base.keep b o e n hb hx)
  ·obtain⟨sl,e1⟩:=I.base.slot b o e n hb hx
   exact⟨sl,(hs.2 b (lJm (lJ9 (lJi e) I.ok.above))).trans e1⟩
  ·obtain⟨o',e1⟩:=I.base.there b o e hx
   exact⟨o',(hs.2 b (lJm (lJ9 (lJi e) I.ok.above))).trans e1⟩
  ·by_cases hj:j=i
   ·subst hj
    rw[hi] at e1;cases e1
    rw[lXs hiσ] at e2
    cases e2
    exact⟨u,r,.inl ⟨hk,by simp⟩⟩
   ·rw[lYl (Ne.symm hj)] at e2
    obtain⟨u',r',q⟩:=hl j y v' e1 e2 e3
    refine⟨u',r',?_⟩
    rcases q with ⟨k,e⟩ | ⟨k,c,e,z⟩
    ·refine .inl ⟨k,?_⟩
     have:y≠x:=fun e=>hj (kXv hN e1 (e▸hi))
     simp[this,e]
    ·exact .inr ⟨k,c,e,z.sameBut hs (cne y c e)⟩
  ·obtain⟨w',z⟩:=I.cell y c e
   exact⟨w',z.sameBut hs (cne y c e)⟩
  ·obtain⟨e,n,ne,nf,d⟩:=I.pin p hp
   exact⟨(hs.2 p.1 ne).trans e,n,ne,nf,d⟩
 ·have hfn:X.fn x=true:=by
   rcases hf with z | z
   ·exact z
   ·rw[z] at hk;cases hk
  obtain⟨c,hc⟩:=I.ok.has x (.inl hk)
  obtain⟨w',z⟩:=I.cell x c hc
  refine wpAny_storeName_cell I.ok.kind hk hc z (fun h' hc' hs=> ?_)
  obtain⟨oc,hoc,hocd⟩:=id z
  refine h {s with heap:=h'} ⟨I.ok,I.os,I.bare,⟨fun b o e n hb hx=> ?_,fun b o e n hb hx=> ?_,I.base.free,fun b o e hx=> ?_,I.base.tups,I.base.frzs,I.base.tbls⟩,⟨m,hn.sameBut hs (Ne.symm (cne x c hc)),fun j y v' e1 e2 e3=> ?_⟩,fun y c' e=> ?_,I.free,I.freeC,fun p hp=> ?_,tracked ⟨oc,hoc,I.freeC x c hc⟩ hs,by simpa using I.len⟩ ⟨c,hs,.inr hc⟩
  ·exact (hs.2 b (lJm (lJ9 (lJi e) (I.ok.cab x c hfn hc)))).trans (I.base.keep b o e n hb hx)
  ·obtain⟨sl,e1⟩:=I.base.slot b o e n hb hx
   exact⟨sl,(hs.2 b (lJm (lJ9 (lJi e) (I.ok.cab x c hfn hc)))).trans e1⟩
  ·obtain⟨o',e1⟩:=I.base.there b o e hx
   exact⟨o',(hs.2 b (lJm (lJ9 (lJi e) (I.ok.cab x c hfn hc)))).trans e1⟩
  ·by_cases hj:j=i
   ·subst hj
    rw[hi] at e1;cases e1
    rw[lXs hiσ] at e2
    cases e2
    exact⟨u,r,.inr ⟨.inl hk,c,hc,hc'⟩⟩
   ·rw[lYl (Ne.symm hj)] at e2
    obtain⟨u',r',q⟩:=hl j y v' e1 e2 e3
    refine⟨u',r',?_⟩
    rcases q with q | ⟨k,c',e,z'⟩
    ·exact .inl q
    ·refine .inr ⟨k,c',e,z'.sameBut hs ?_⟩
     rintro rfl
     exact hj (kXv hN e1 (I.ok.inj _ _ _ e hc▸hi))
  ·by_cases hcc:c'=c
   ·subst hcc;exact⟨_,hc'⟩
   ·obtain⟨w2,z2⟩:=I.cell y c' e
    exact⟨w2,z2.sameBut hs hcc⟩
  ·obtain⟨e,n,ne,nf,d⟩:=I.pin p hp
   refine⟨(hs.2 p.1 ?_).trans e,n,ne,nf,d⟩
   intro q
   rw[q,hoc] at e
   have q':oc=p.2:=lJ2 e
   exact d w' (by rw[<-q'];exact hocd)
theorem kKh {M:Model} {A:Around} {E:Value->Shared->Prop} {i:Nat} {x:Str} {v:V} {u:Value} {Q:Unit->Shared->Prop} (I:Inv X pins σ H s) (hN:X.N.Nodup) (hi:X.N[i]? =some x) (hx:Loc X.env.scope x) (r:RelV v u)
  (h:∀s',Inv X pins (σ.set i (some v)) H s'->Q () s') (hf:X.fn x=true\/X.env.scope.names.lookup x=some .local:=by first | exact .inl rfl | exact .inr rfl | assumption):wpAny M A (storeName X.env x u) Q E s:=
 qJk I hN hi hx r (fun s' I' _=>h s' I') hf
theorem Inv.call' {s':Shared} {ch:List Addr} (I:Inv X pins σ H s) (ho:s'.os=s.os) (u:Un (frs X.stack) ch H H' s.heap s'.heap) (hok:HOk X.prog X.w H' s'.heap) (hg:AllBare s'.gens)
  (hch:∀b∈ch,(b∈X.ex\/X.s₀.heap.objs.size<=b)/\b≠X.env.locals/\(∀x c,X.env.cells.lookup x=some c->c≠b)/\∀p∈X.pn++pins,p.1≠b):Inv X pins σ H' s':=by
 obtain⟨h',g',d',t',o'⟩:=s'
 have e:o'=s.os:=ho
 subst e
 exact I.call (g':=g') (t':=t') (d':=d') u hok hg hch
end
abbrev XK:=Value->Option Addr->Hp->Prop
abbrev St:=List (Option V)
abbrev VK:=V->Hp->Prop
abbrev TE:=St->Hp->VK->Prop
abbrev TT:=St->Hp->(Bool->Hp->Prop)->Prop
abbrev TA:=St->Hp->(List V->Hp->Prop)->Prop
structure Ends where
 nx:St->Hp->Prop
 rt:VK
 bk:St->Hp->Prop:=fun _ _=>False
 ct:St->Hp->Prop:=fun _ _=>False
abbrev TS:=Ends->St->Hp->Prop
def EP (X:Cx) (pins:List (Addr×Obj)) (σ:St) (Q:VK) (u:Value) (s':Shared):Prop:=∃v H',Inv X pins σ H' s'/\RelV v u/\Q v H'
def TP (X:Cx) (pins:List (Addr×Obj)) (σ:St) (Q:Bool->Hp->Prop) (b:Bool) (s':Shared):Prop:=∃H',Inv X pins σ H' s'/\Q b H'
def SP (X:Cx) (pins:List (Addr×Obj)) (D:Ends) (f:Flow) (s':Shared):Prop:=
 match f with
 | .next=>∃ σ' H',Inv X pins σ' H' s'/\D.nx σ' H'
 | .brk=>∃ σ' H',Inv X pins σ' H' s'/\D.bk σ' H'
 | .cont=>∃ σ' H',Inv X pins σ' H' s'/\D.ct σ' H'
 | .ret u=>∃v σ' H',Inv X pins σ' H' s'/\RelV v u/\D.rt v H'
def PE (X:Cx) (e:Expr) (t:TE):Prop:=
 ∀(pins:List (Addr×Obj)) (s:Shared) (σ:St) (H:Hp) (Q:VK),Inv X pins σ H s->t σ H Q->wpAny (model X.prog X.w) X.A (eval e X.env) (EP X pins σ Q) X.xe s
def PSs (X:Cx) (st:List Stmt) (t:TS):Prop:=
 ∀(pins:List (Addr×Obj)) (s:Shared) (σ:St) (H:Hp) (D:Ends),Inv X pins σ H s->t D σ H->wpAny (model X.prog X.w) X.A (execs st X.env) (SP X pins D) X.xe s
theorem thn {α:Type} {t:Sem α} {Q Q':α->Shared->Prop} {M:Model} {A:Around} {E:Value->Shared->Prop} {s:Shared} (h:wpAny M A t Q E s) (hQ:∀a s,Q a s->Q' a s):wpAny M A t Q' E s:=lQv h hQ fun _ _ x=>x
section
variable {X:Cx}
def tVar (i:Nat):TE:=fun σ H Q=>∃v,σ[i]? =some (some v)/\Q v H
def tC (v:V):TE:=fun _ H Q=>Q v H
theorem pe_var {i:Nat} {x:Str} {pos:Pos} (hN:X.N[i]? =some x) (hv:Vis X.env.scope x) (hd:(x == ("__debug__":Str))=false:=by decide) (hcd:(x == ("__classdict__":Str))=false:=by decide):PE X (.Name x pos) (tVar i):=by
 intro pins s σ H Q I h
 obtain⟨v,e,h⟩:=h
 obtain⟨m,hn,hl⟩:=I.loc
 obtain⟨u,r,l⟩:=hl i x v hN e hv
 have fin:EP X pins σ Q u s:=⟨v,H,I,r,h⟩
 rcases l with ⟨hk,hm⟩ | ⟨hk,c,hc,hcell⟩
 ·exact wpAny_Name (wpAny_loadName_local I.ok.kind hk hn hm fin) hd
 ·rcases hk with hk | hk
  ·exact wpAny_Name (wpAny_loadName_cell I.ok.kind hk hc hcell fin) hd
  ·exact wpAny_Name (wpAny_loadName_free I.ok.kind hk hc hcell fin hcd) hd
theorem pe_int {i j pos}:PE X (.Constant (.int i) j pos) (tC (.int i)):=fun _ _ _ H _ I h=>wpAny_Constant_int ⟨.int i,H,I.tok _,⟨_,rfl⟩,h⟩
theorem pe_bl {b j pos}:PE X (.Constant (.bool b) j pos) (tC (.bl b)):=fun _ _ _ H _ I h=>Constant_bool ⟨.bl b,H,I,rfl,h⟩
theorem pe_non {j pos}:PE X (.Constant .none j pos) (tC .non):=fun _ _ _ H _ I h=>Constant_none ⟨.non,H,I,rfl,h⟩
def Gl (X:Cx) (x:Str):Prop:=X.env.kindOf x=some .globalImplicit
theorem qZr {E:Value->Shared->Prop} {pins:List (Addr×Obj)} {s:Shared} {σ:St} {H:Hp} {x:Str} {u:Value} {pos:Pos} {Q:Value->Shared->Prop} (I:Inv X pins σ H s) (hg:Gl X x) (hm:X.mg x=some u) (h:Q u s)
  (hd:(x == ("__debug__":Str))=false:=by decide):wpAny (model X.prog X.w) X.A (eval (.Name x pos) X.env) Q E s:=
 Calls.Name_function_global I.ok.kind hg (Calls.loadGlobal_global (by rw[I.ok.glob];exact I.mod.glob.keeps I.bk) hm h) hd
theorem jUb {E:Value->Shared->Prop} {pins:List (Addr×Obj)} {s:Shared} {σ:St} {H:Hp} {x:Str} {u:Value} {pos:Pos} {Q:Value->Shared->Prop} (I:Inv X pins σ H s) (hg:Gl X x) (hm:X.mg x=none) (hv:bootBuiltins x=some u) (h:Q u s)
  (hn:x≠"__name__":=by decide) (hd:(x == ("__debug__":Str))=false:=by decide):wpAny (model X.prog X.w) X.A (eval (.Name x pos) X.env) Q E s:=by
 obtain⟨mb,h1,h2⟩:=I.mod.blt
 exact Calls.Name_function_global I.ok.kind hg (Calls.loadGlobal_builtin (by rw[I.ok.glob];exact I.mod.glob.keeps I.bk) hm (by rw[I.ok.blt];exact h1.keeps I.bk) ((h2 x hn).trans hv) h) hd
theorem qZb {x:Str} {v:V} {u:Value} {pos:Pos} (hg:Gl X x) (hm:X.mg x=none) (hv:bootBuiltins x=some u) (r:RelV v u) (hn:x≠"__name__":=by decide) (hd:(x == ("__debug__":Str))=false:=by decide):PE X (.Name x pos) (tC v):=
 fun _ _ _ H _ I h=>jUb I hg hm hv ⟨v,H,I,r,h⟩ hn hd
variable {a b:Expr} {ta tb:TE} {pos:Pos}
def tB (t:TE):TT:=fun σ H Q=>t σ H fun x H1=>∃c,x= .bl c/\Q c H1
variable {tA tB':TT} {rest:List Expr}
def tOrV (ta tb:TE):TE:=fun σ H Q=>ta σ H fun x H1=>∃c,x= .bl c/\if c=true then Q (.bl true) H1 else tb σ H1 Q
end
def SqL (K:PySem.W.Frag) (H:Hp) (a:Addr) (xs:List V):Prop:=
 Rd H a (.lst xs)\/
  ∃(o:Obj) (its:Array Value) (n:Nat),K.lookup a=some o/\o.cls= .type "list"/\o.dict=none/\o.data= .seq its n/\its.size<=sizeLine/\Vals xs its.toList
def SqT (K:PySem.W.Frag) (H:Hp) (a:Addr) (xs:List V):Prop:=
 Rd H a (.tup xs)\/
  ∃(o:Obj) (its:Array Value) (n:Nat),K.lookup a=some o/\o.cls= .type "tuple"/\o.data= .seq its n/\its.size<=sizeLine/\Vals xs its.toList
noncomputable def absV:Value->Option V
 | .none=>some .non
 | .bool b=>some (.bl b)
 | .int i _=>some (.int i)
 | .str x _=>some (.str x)
 | .bytes b _=>some (.byt b)
 | .float b _=>some (.flt b)
 | .ref a=>some (.ref a)
 | .type n=>some (.ty n)
 | _=>none
theorem RelV.abs {x:V} {u:Value} (r:RelV x u):absV u=some x:=by
 cases x with
 | non=>cases r;rfl
 | bl _=>cases r;rfl
 | int _=>obtain⟨t,rfl⟩:=r;rfl
 | str _=>obtain⟨t,rfl⟩:=r;rfl
 | byt _=>obtain⟨t,rfl⟩:=r;rfl
 | flt _=>obtain⟨t,rfl⟩:=r;rfl
 | ref _=>cases r;rfl
 | ty _=>cases r;rfl
theorem RelV.inj {x y:V} {u:Value} (r:RelV x u) (q:RelV y u):x=y:=lJ2 (r.abs.symm.trans q.abs)
theorem Vals.inj {xs ys:List V} {us:List Value} (h:Vals xs us) (g:Vals ys us):xs=ys:=by
 induction h generalizing ys with
 | nil=>(cases g;rfl)
 | cons r _ ih=>(cases g with | cons r' t'=>rw[r.inj r',ih t'])
section
variable {X:Cx} {pins:List (Addr×Obj)} {σ:St} {H:Hp} {s:Shared} {a:Addr} {xs ys:List V}
theorem SqL.of {K:PySem.W.Frag} (h:H a=some (.lst xs)):SqL K H a xs:= .inl (.inl h)
theorem SqT.of {K:PySem.W.Frag} (h:H a=some (.tup xs)):SqT K H a xs:= .inl (.inl h)
theorem Inv.list (I:Inv X pins σ H s) (h:SqL X.K H a xs):∃its:List Value,Vals xs its/\PlainL s.heap a its.toArray/\xs.length<=sizeLine:=by
 rcases h with h | ⟨o,its,n,hk,hc,hd,hs,hz,r⟩
 ·obtain⟨z,its,n,r,e⟩:=h.ok I.hok
  exact⟨its,r,⟨_,n,e,rfl,rfl,rfl⟩,z⟩
 ·refine⟨its.toList,r,⟨o,n,I.kIn a o hk,hc,hd,by simpa using hs⟩,?_⟩
  have e:=r.length
  simp only[lKg] at e
  omega
theorem Inv.tuple (I:Inv X pins σ H s) (h:SqT X.K H a xs):∃its:List Value,Vals xs its/\IsTup s.heap a its.toArray/\xs.length<=sizeLine:=by
 rcases h with h | ⟨o,its,n,hk,hc,hs,hz,r⟩
 ·obtain⟨z,its,r,p⟩:=h.ok I.hok
  exact⟨its,r,p.is,z⟩
 ·refine⟨its.toList,r,⟨o,I.kIn a o hk,hc,n,by simpa using hs⟩,?_⟩
  have e:=r.length
  simp only[lKg] at e
  omega
theorem Inv.list_inj (I:Inv X pins σ H s) (h:SqL X.K H a xs) (h':SqL X.K H a ys):xs=ys:=by
 obtain⟨its,r,⟨o,n,e,_,_,d⟩,_⟩:=I.list h
 obtain⟨its',r',⟨o',n',e',_,_,d'⟩,_⟩:=I.list h'
 rw[e] at e';cases e'
 rw[d] at d'
 injection d' with d1 _
 have:its=its':=by simpa using lJ8 Array.toList d1
 subst this
 exact r.inj r'
theorem Inv.tuple_inj (I:Inv X pins σ H s) (h:SqT X.K H a xs) (h':SqT X.K H a ys):xs=ys:=by
 obtain⟨its,r,⟨o,e,_,n,d⟩,_⟩:=I.tuple h
 obtain⟨its',r',⟨o',e',_,n',d'⟩,_⟩:=I.tuple h'
 rw[e] at e';cases e'
 rw[d] at d'
 injection d' with d1 _
 have:its=its':=by simpa using lJ8 Array.toList d1
 subst this
 exact r.inj r'
end
abbrev Cx.wish (X:Cx) (E:Value->Shared->Prop):Cx:={X with xe:=E}
abbrev Cx.nox (X:Cx):Cx:=X.wish fun _ _=>False
theorem Cx.Ok.wish {X:Cx} (ok:X.Ok) (E:Value->Shared->Prop):(X.wish E).Ok:=
 ⟨ok.mod,ok.kind,ok.glob,ok.blt,ok.above,ok.inj,ok.has,ok.cab,ok.hd,ok.gd,ok.frames,ok.stk,ok.exf,ok.bs,ok.bsz,ok.noex,ok.exfs,ok.funs,ok.frf⟩
theorem Cx.Ok.unwish {X:Cx} {E:Value->Shared->Prop} (ok:(X.wish E).Ok):X.Ok:=
 ⟨ok.mod,ok.kind,ok.glob,ok.blt,ok.above,ok.inj,ok.has,ok.cab,ok.hd,ok.gd,ok.frames,ok.stk,ok.exf,ok.bs,ok.bsz,ok.noex,ok.exfs,ok.funs,ok.frf⟩
section
variable {X:Cx} {pins:List (Addr×Obj)} {σ:St} {H:Hp} {s:Shared} {E:Value->Shared->Prop}
theorem Inv.wish (I:Inv X pins σ H s) (E:Value->Shared->Prop):Inv (X.wish E) pins σ H s:=⟨I.ok.wish E,I.os,I.bare,I.base,I.loc,I.cell,I.free,I.freeC,I.pin,I.hok,I.len⟩
theorem Inv.unwish (I:Inv (X.wish E) pins σ H s):Inv X pins σ H s:=⟨I.ok.unwish,I.os,I.bare,I.base,I.loc,I.cell,I.free,I.freeC,I.pin,I.hok,I.len⟩
theorem SP.unwish {D:Ends} {f:Flow} {s':Shared} (h:SP (X.wish E) pins D f s'):SP X pins D f s':=by
 cases f with
 | next=>obtain⟨σ',H',I,q⟩:=h;exact⟨σ',H',I.unwish,q⟩
 | brk=>obtain⟨σ',H',I,q⟩:=h;exact⟨σ',H',I.unwish,q⟩
 | cont=>obtain⟨σ',H',I,q⟩:=h;exact⟨σ',H',I.unwish,q⟩
 | ret u=>obtain⟨v,σ',H',I,r,q⟩:=h;exact⟨v,σ',H',I.unwish,r,q⟩
theorem PSs.nox {st:List Stmt} {t:TS} (h:PSs X.nox st t):PSs X st t:=fun pins s σ H D I hw=>
 lQv (h pins s σ H D (I.wish _) hw) (fun _ _ q=>q.unwish) fun _ _ z=>False.elim z
end
section
variable {X:Cx} {st:Stmt} {rest:List Stmt} {t u:TS} {e:Expr} {te:TE} {pos:Pos}
theorem Inv.quiet {pins:List (Addr×Obj)} {σ:St} {H:Hp} {s:Shared} (I:Inv X pins σ H s):interactive X.env=false:=by simp[interactive,I.ok.kind]
def tRetN:TS:=fun D _ H=>D.rt .non H
end
abbrev TSet:=V->V->V->Hp->(Hp->Prop)->Prop
def PSet (X:Cx) (t:TSet):Prop:=
 ∀(pins:List (Addr×Obj)) (s:Shared) (σ:St) (H:Hp) (o i v:V) (ov iv u:Value) (Q:Hp->Prop),Inv X pins σ H s->RelV o ov->RelV i iv->RelV v u->t o i v H Q->
  wpAny (model X.prog X.w) X.A (setItem ov iv u) (fun _ s'=>∃H',Inv X pins σ H' s'/\Q H') X.xe s
section
variable {X:Cx} {pos:Pos}
def tPar (i j:Nat) (ta:TA):TS:=fun D σ H=>ta σ H fun vs H1=>∃v w,vs=[v,w]/\D.nx ((σ.set i (some v)).set j (some w)) H1
end
section
variable {X:Cx} {pos:Pos}
end
structure It where
 go:Nat->Hp->Prop
 yld:Nat->Hp->V->Hp->Prop
 stop:Nat->Hp->Prop
def FpOk (X:Cx) (pins:List (Addr×Obj)) (H:Hp) (b:Addr):Prop:=
 H b=none/\b≠X.env.locals/\b∉X.fs/\(b∈X.ex\/X.s₀.heap.objs.size<=b)/\(∀x c,X.env.cells.lookup x=some c->c≠b)/\∀p∈X.pn++pins,p.1≠b
theorem Inv.fpOk {X:Cx} {pins:List (Addr×Obj)} {σ:St} {H H':Hp} {s:Shared} {b:Addr} (I:Inv X pins σ H s) (hb:s.heap.objs.size<=b) (hn:H' b=none):FpOk X pins H' b:=by
 refine⟨hn,lK7 (lJ9 I.lt hb),I.nofs hb,.inr (lK1 I.sz hb),fun x c e z=> ?_,fun p hp z=> ?_⟩
 ·obtain⟨v,q⟩:=I.cell x c e
  exact absurd (lJ9 q.lt (by rw[z];exact hb)) (lQo _)
 ·exact absurd (lJ9 (lJi (I.pin p hp).1) (by rw[z];exact hb)) (lQo _)
structure Turn (P:Program) (w:World) (K:PySem.W.Frag) (tg:Expr) (J:It) (fp:List Addr) (it:Addr) (tn:Nat->Heap->Prop):Prop where
 mem:it∈fp
 obj:∀i h,tn i h->∀b∈fp,∃o,h.get? b=some o/\∀v,o.data≠ .cell v
 keep:∀i h h',tn i h->(∀b∈fp,∀o,h.get? b=some o->h'.get? b=some o)->tn i h'
 item:∀(X:Cx),X.prog=P->X.w=w->X.K=K->X.calm=true->∀(i:Nat) (pins:List (Addr×Obj)) (s:Shared) (σ:St) (H:Hp) (E:Value->Shared->Prop),Inv X pins σ H s->(∀b∈fp,FpOk X pins H b)->tn i s.heap->J.go i H->
  wpAny (model P w) X.A (pyNext (.ref it)) (fun r s1=>∃u,r=some u/\
   wpAny (model P w) X.A (letOwnedTupleGo tg (.ref it) u) (fun _ s2=>∃x H',Inv X pins σ H' s2/\RelV x u/\J.yld i H x H'/\tn (i+1) s2.heap/\∀b∈fp,H' b=none) E s1) E s
 done:∀(X:Cx),X.prog=P->X.w=w->X.K=K->X.calm=true->∀(i:Nat) (pins:List (Addr×Obj)) (s:Shared) (σ:St) (H:Hp) (E:Value->Shared->Prop),Inv X pins σ H s->(∀b∈fp,FpOk X pins H b)->tn i s.heap->J.stop i H->
  wpAny (model P w) X.A (pyNext (.ref it)) (fun r s1=>r=none/\Inv X pins σ H s1) E s
 self:∀(A:Around) (i:Nat) (s:Shared) (Q:Value->Shared->Prop) (E:Value->Shared->Prop),tn i s.heap->Q (.ref it) s->wpAny (model P w) A (pyIter (.ref it)) Q E s
abbrev TI:=St->Hp->(It->Hp->Prop)->Prop
def PIE (X:Cx) (pins:List (Addr×Obj)) (σ:St) (tg:Expr) (R:It->Hp->Prop) (itv:Value) (s2:Shared):Prop:=
 ∃(it:Addr) (fp:List Addr) (tn:Nat->Heap->Prop) (J:It) (H':Hp),itv= .ref it/\Inv X pins σ H' s2/\Turn X.prog X.w X.K tg J fp it tn/\tn 0 s2.heap/\(∀b∈fp,FpOk X pins H' b)/\R J H'
def PI (X:Cx) (tg iter:Expr) (wi:TI):Prop:=
 ∀(pins:List (Addr×Obj)) (s:Shared) (σ:St) (H:Hp) (R:It->Hp->Prop),Inv X pins σ H s->wi σ H R->
  wpAny (model X.prog X.w) X.A (eval iter X.env) (fun v s1=>wpAny (model X.prog X.w) X.A (pyIter v) (PIE X pins σ tg R) X.xe s1) X.xe s
theorem qV8 {M:Model} {A:Around} {E:Value->Shared->Prop} {s:Shared} {tg:Expr} {it:Addr} {u:Value} {o:Obj} {n:String} {vs:Array Value} {Q:Unit->Shared->Prop} (ho:s.heap.get? it=some o) (hc:o.cls= .type n) (hd:o.data= .fields vs)
  (hn:["enumerate","zip","dict_itemiterator","dict_reverseitemiterator","odict_iterator","itertools.zip_longest","itertools.pairwise"].contains n=false) (hQ:Q () s):wpAny M A (letOwnedTupleGo tg (.ref it) u) Q E s:=by
 unfold letOwnedTupleGo
 cases tg<;>first
  | exact lJd hQ
  | (cases u<;>first
    | exact lJd hQ
    | (refine lJa (wpAny_load ho ?_)
       rw[hc,hd]
       show wpAny M A (if (["enumerate","zip","dict_itemiterator","dict_reverseitemiterator","odict_iterator","itertools.zip_longest","itertools.pairwise"].contains n&&vs[0]? == some (rawInt _))=true then _ else _) Q E s
       rw[lJb (by intro h;rw[hn,Bool.false_and] at h;cases h)]
       exact lJd hQ))
noncomputable def Itl (K:PySem.W.Frag) (a:Addr):It:=
 ⟨fun i H=>∃xs x,SqL K H a xs/\xs[i]? =some x,fun i H x H'=>H'=H/\∀xs,SqL K H a xs->xs[i]? =some x,fun i H=>∃xs,SqL K H a xs/\xs.length<=i⟩
noncomputable def Itt (K:PySem.W.Frag) (a:Addr):It:=
 ⟨fun i H=>∃xs x,SqT K H a xs/\xs[i]? =some x,fun i H x H'=>H'=H/\∀xs,SqT K H a xs->xs[i]? =some x,fun i H=>∃xs,SqT K H a xs/\xs.length<=i⟩
def Itr (lo:Int) (n:Nat):It:=⟨fun i _=>i<n,fun i H x H'=>H'=H/\x= .int (lo+i),fun i _=>n<=i⟩
theorem kZ8 {P:Program} {w:World} {K:PySem.W.Frag} {tg:Expr} (a it:Addr):Turn P w K tg (Itl K a) [it] it (fun i h=>h.IsListIter it a i) where
 mem:=by simp
 obj:=fun i h st b hb=>by
  have e:b=it:=by simpa using hb
  subst e
  obtain⟨o,e,c,d⟩:=st
  exact⟨o,e,fun v z=>by rw[d] at z;cases z⟩
 keep:=fun i h h' st k=>st.at fun o e=>k it (by simp) o e
 item:=by
  intro X hP hw hK hc i pins s σ H E I hf st hg
  subst hP hw hK
  obtain⟨xs,x,hq,hx⟩:=hg
  obtain⟨its,rv,p,hz⟩:=I.list hq
  obtain⟨u,hu,ru⟩:=rv.get hx
  obtain⟨f0,f1,f2,f3,f4,f5⟩:=hf it (by simp)
  refine wpAny_pyNext_list_item st p.isList (x:=u) (by simpa using hu) fun h' st' sb=> ?_
  have I1:Inv X pins σ H {s with heap:=h'}:=I.turned (t':=s.toks) (fun b o hb e=>(sb.2 b hb).trans e) f0 f1 f3 f4 f5
  obtain⟨o,e,c,d⟩:=id st'
  exact⟨u,rfl,qV8 (s:={s with heap:=h'}) e c d (by decide) ⟨x,H,I1,ru,⟨rfl,fun ys hy=>by rw[I.list_inj hy hq];exact hx⟩,st',fun b hb=>(hf b hb).1⟩⟩
 done:=by
  intro X hP hw hK hc i pins s σ H E I hf st hg
  subst hP hw hK
  obtain⟨xs,hq,hx⟩:=hg
  obtain⟨its,rv,p,hz⟩:=I.list hq
  obtain⟨f0,f1,f2,f3,f4,f5⟩:=hf it (by simp)
  have hl:=rv.length
  exact wpAny_pyNext_list_end (I.ok.hd hc) st p.isList (by simp;omega) fun h' eb=>⟨rfl,I.turned (t':=s.toks) (fun b o hb e=>eb b o hb e) f0 f1 f3 f4 f5⟩
 self:=fun _ _ _ _ _ st h=>wpAny_pyIter_listiter st h
theorem kYy {P:Program} {w:World} {K:PySem.W.Frag} {tg:Expr} (a it:Addr):Turn P w K tg (Itt K a) [it] it (fun i h=>h.IsTupleIter it a i) where
 mem:=by simp
 obj:=fun i h st b hb=>by
  have e:b=it:=by simpa using hb
  subst e
  obtain⟨o,e,c,d⟩:=st
  exact⟨o,e,fun v z=>by rw[d] at z;cases z⟩
 keep:=fun i h h' st k=>st.at fun o e=>k it (by simp) o e
 item:=by
  intro X hP hw hK hc i pins s σ H E I hf st hg
  subst hP hw hK
  obtain⟨xs,x,hq,hx⟩:=hg
  obtain⟨its,rv,p,hz⟩:=I.tuple hq
  obtain⟨u,hu,ru⟩:=rv.get hx
  obtain⟨f0,f1,f2,f3,f4,f5⟩:=hf it (by simp)
  refine wpAny_pyNext_tuple_item st (show s.heap.IsTuple a its.toArray from p) (x:=u) (by simpa using hu) fun h' st' sb=> ?_
  have I1:Inv X pins σ H {s with heap:=h'}:=I.turned (t':=s.toks) (fun b o hb e=>(sb.2 b hb).trans e) f0 f1 f3 f4 f5
  obtain⟨o,e,c,d⟩:=id st'
  exact⟨u,rfl,qV8 (s:={s with heap:=h'}) e c d (by decide) ⟨x,H,I1,ru,⟨rfl,fun ys hy=>by rw[I.tuple_inj hy hq];exact hx⟩,st',fun b hb=>(hf b hb).1⟩⟩
 done:=by
  intro X hP hw hK hc i pins s σ H E I hf st hg
  subst hP hw hK
  obtain⟨xs,hq,hx⟩:=hg
  obtain⟨its,rv,p,hz⟩:=I.tuple hq
  obtain⟨f0,f1,f2,f3,f4,f5⟩:=hf it (by simp)
  have hl:=rv.length
  exact wpAny_pyNext_tuple_end (I.ok.hd hc) st (show s.heap.IsTuple a its.toArray from p) (by simp;omega) fun h' eb=>⟨rfl,I.turned (t':=s.toks) (fun b o hb e=>eb b o hb e) f0 f1 f3 f4 f5⟩
 self:=fun _ _ _ _ _ st h=>wpAny_pyIter_tupleiter st h
theorem kYz {P:Program} {w:World} {K:PySem.W.Frag} {tg:Expr} (it:Addr) (lo:Int) (n:Nat):Turn P w K tg (Itr lo n) [it] it (fun i h=>IsRangeIter h it (lo+(i:Nat)*1) ((n:Int)-(i:Nat)) 1) where
 mem:=by simp
 obj:=fun i h st b hb=>by
  have e:b=it:=by simpa using hb
  subst e
  exact⟨_,st,fun v z=>by
   have z':Data.fields _=Data.cell v:=z
   cases z'⟩
 keep:=fun i h h' st k=>k it (by simp) _ st
 item:=by
  intro X hP hw hK hc i pins s σ H E I hf st hg
  subst hP hw hK
  obtain⟨f0,f1,f2,f3,f4,f5⟩:=hf it (by simp)
  have W:=Walks.range (prog:=X.prog) (w:=X.w) (I.ok.hd hc) it lo 1 n
  refine W.item i s _ _ hg st fun v h' tk hv st' kk=> ?_
  obtain⟨t,rfl⟩:=hv
  have I1:Inv X pins σ H {s with heap:=h',toks:=tk}:=I.turned (fun b o hb e=>kk b o (by simpa using hb) e) f0 f1 f3 f4 f5
  refine⟨_,rfl,qV8 (s:={s with heap:=h',toks:=tk}) (n:="range_iterator") st' rfl rfl (by decide) ⟨.int (lo+i),H,I1,⟨t,?_⟩,⟨rfl,rfl⟩,st',fun b hb=>(hf b hb).1⟩⟩
  rw[Int.mul_one]
 done:=by
  intro X hP hw hK hc i pins s σ H E I hf st hg
  subst hP hw hK
  obtain⟨f0,f1,f2,f3,f4,f5⟩:=hf it (by simp)
  exact wpAny_pyNext_range_end (I.ok.hd hc) st (by have:n<=i:=hg;omega) fun h' eb=>⟨rfl,I.turned (t':=s.toks) (fun b o hb e=>eb b o hb e) f0 f1 f3 f4 f5⟩
 self:=fun _ _ _ _ _ st h=>wpAny_pyIter_rangeiter st h
section
variable {X:Cx} {tg:Expr}
theorem kXn {pins:List (Addr×Obj)} {σ:St} {H:Hp} {s:Shared} {R:It->Hp->Prop} {E:Value->Shared->Prop} {lo hi:Int} {t u v:Tok} {tk:Nat} (I:Inv X pins σ H s) (h1: -(2^62)<=lo) (h2:lo<2^62) (h3: -(2^62)<=hi) (h4:hi<2^62)
  (q:R (Itr lo (hi-lo).toNat) H):wpAny (model X.prog X.w) X.A (pyIter (.ref s.heap.objs.size)) (PIE X pins σ tg R) E {s with heap:=s.heap.push {cls:= .type "range",data:= .fields #[.int lo t,.int hi u,.int 1 v]},toks:=tk}:=by
 refine wpAny_pyIter_range (IsRange.new ..) (small_one h1 h2 h3 h4) ?_
 have I1:Inv X pins σ H {s with heap:=s.heap.push {cls:= .type "range",data:= .fields #[.int lo t,.int hi u,.int 1 v]},toks:=tk}:=I.kept fun b o e=>lJk _ e
 refine⟨(s.heap.push {cls:= .type "range",data:= .fields #[.int lo t,.int hi u,.int 1 v]}).objs.size,[(s.heap.push {cls:= .type "range",data:= .fields #[.int lo t,.int hi u,.int 1 v]}).objs.size],_,_,H,rfl,
  I1.kept (t':=tk) fun b o e=>lJk _ e,kYz _ lo (hi-lo).toNat,?_,fun b hb=> ?_,q⟩
 ·have e1:lo+((0:Nat):Int)*1=lo:=by simp
  have e2:(((hi-lo).toNat:Nat):Int)-((0:Nat):Int)=Builtin.Range.rangeSize lo hi 1:=by rw[rangeSize_one];split<;>omega
  show IsRangeIter _ _ (lo+((0:Nat):Int)*1) ((((hi-lo).toNat:Nat):Int)-((0:Nat):Int)) 1
  rw[e1,e2]
  exact lJ0 _ rfl
 ·have e:b=(s.heap.push {cls:= .type "range",data:= .fields #[.int lo t,.int hi u,.int 1 v]}).objs.size:=by simpa using hb
  subst e
  exact I1.fpOk (lJg _) (I1.hok.fresh (lJg _))
def jQq (fp:List Addr) (h:Heap):List (Addr×Obj):=fp.filterMap fun b=>(h.get? b).map fun o=>(b,o)
theorem jQl {fp:List Addr} {h:Heap} {b:Addr} {o:Obj} (hb:b∈fp) (e:h.get? b=some o):(b,o)∈jQq fp h:=lYm.mpr ⟨b,hb,by rw[e];rfl⟩
theorem qKr {fp:List Addr} {h:Heap} {p:Addr×Obj} (hp:p∈jQq fp h):p.1∈fp/\h.get? p.1=some p.2:=by
 obtain⟨b,hb,e⟩:=lYm.mp hp
 cases q:h.get? b with
 | none=>rw[q] at e;cases e
 | some o=>
  rw[q] at e
  have e':(b,o)=p:=lJ2 e
  subst e'
  exact⟨hb,q⟩
theorem Inv.pinned {pins:List (Addr×Obj)} {σ:St} {H:Hp} {s:Shared} {fp:List Addr} (I:Inv X pins σ H s) (hf:∀b∈fp,FpOk X pins H b) (ho:∀b∈fp,∃o,s.heap.get? b=some o/\∀v,o.data≠ .cell v):Inv X (pins++jQq fp s.heap) σ H s:=
 I.pins_of fun p hp=>(lJn.mp hp).elim (fun z=>I.pin p (lJ3 _ z)) fun z=>by
  obtain⟨hb,e⟩:=qKr z
  obtain⟨f0,f1,f2,_⟩:=hf p.1 hb
  obtain⟨o,e',d⟩:=ho p.1 hb
  rw[e] at e';cases e'
  exact⟨e,f0,f1,f2,d⟩
theorem Inv.unpinned {pins pl:List (Addr×Obj)} {σ:St} {H:Hp} {s:Shared} (I:Inv X (pins++pl) σ H s):Inv X pins σ H s:=I.pins_of fun p hp=>I.pin p (lJ3 _ (lKd _ hp))
end
abbrev R2:=V->V->Hp->VK->Prop
def OpR (X:Cx) (f:Value->Value->Sem Value) (r:R2):Prop:=
 ∀(pins:List (Addr×Obj)) (s:Shared) (σ:St) (H:Hp) (x y:V) (v u:Value) (Q:VK),Inv X pins σ H s->RelV x v->RelV y u->r x y H Q->
  wpAny (model X.prog X.w) X.A (f v u) (EP X pins σ Q) X.xe s
def UnR (X:Cx) (f:Value->Sem Value) (r:V->Hp->VK->Prop):Prop:=
 ∀(pins:List (Addr×Obj)) (s:Shared) (σ:St) (H:Hp) (x:V) (v:Value) (Q:VK),Inv X pins σ H s->RelV x v->r x H Q->
  wpAny (model X.prog X.w) X.A (f v) (EP X pins σ Q) X.xe s
def kUr (X:Cx) (f:Value) (r:List V->Hp->VK->Prop):Prop:=
 ∀(pins:List (Addr×Obj)) (s:Shared) (σ:St) (H:Hp) (xs:List V) (us:List Value) (Q:VK),Inv X pins σ H s->Vals xs us->r xs H Q->
  wpAny (model X.prog X.w) X.A (call f us) (EP X pins σ Q) X.xe s
def TruR (X:Cx) (r:V->Hp->(Bool->Hp->Prop)->Prop):Prop:=
 ∀(pins:List (Addr×Obj)) (s:Shared) (σ:St) (H:Hp) (x:V) (v:Value) (Q:Bool->Hp->Prop),Inv X pins σ H s->RelV x v->r x H Q->
  wpAny (model X.prog X.w) X.A (truthy v) (TP X pins σ Q) X.xe s
def rI (C:Int->Int->Prop) (g:Int->Int->V):R2:=fun x y H Q=>∃i j,x= .int i/\y= .int j/\C i j/\Q (g i j) H
def rI0 (g:Int->Int->V):R2:=fun x y H Q=>∃i j,x= .int i/\y= .int j/\Q (g i j) H
def rU (g:Int->V):V->Hp->VK->Prop:=fun x H Q=>∃i,x= .int i/\Q (g i) H
section
variable {X:Cx} {a b c:Expr} {ta tb tc:TE} {pos:Pos}
theorem opI {f:Value->Value->Sem Value} {C:Int->Int->Prop} {g:Int->Int->Int}
  (rule:∀(i j:Int) (t u:Tok) (s:Shared) (Q:Value->Shared->Prop) (E:Value->Shared->Prop),C i j->Q (.int (g i j) s.toks) {s with toks:=s.toks+1}->wpAny (model X.prog X.w) X.A (f (.int i t) (.int j u)) Q E s):
  OpR X f (rI C fun i j=> .int (g i j)):=by
 intro pins s σ H x y v u Q I rx ry h
 obtain⟨i,j,rfl,rfl,hc,q⟩:=h
 obtain⟨t,rfl⟩:=rx
 obtain⟨t',rfl⟩:=ry
 exact rule i j t t' s _ _ hc ⟨.int (g i j),H,I.tok _,⟨_,rfl⟩,q⟩
theorem opI0 {f:Value->Value->Sem Value} {g:Int->Int->Int}
  (rule:∀(i j:Int) (t u:Tok) (s:Shared) (Q:Value->Shared->Prop) (E:Value->Shared->Prop),Q (.int (g i j) s.toks) {s with toks:=s.toks+1}->wpAny (model X.prog X.w) X.A (f (.int i t) (.int j u)) Q E s):
  OpR X f (rI0 fun i j=> .int (g i j)):=by
 intro pins s σ H x y v u Q I rx ry h
 obtain⟨i,j,rfl,rfl,q⟩:=h
 obtain⟨t,rfl⟩:=rx
 obtain⟨t',rfl⟩:=ry
 exact rule i j t t' s _ _ ⟨.int (g i j),H,I.tok _,⟨_,rfl⟩,q⟩
theorem opB0 {f:Value->Value->Sem Value} {g:Int->Int->Bool}
  (rule:∀(i j:Int) (t u:Tok) (s:Shared) (Q:Value->Shared->Prop) (E:Value->Shared->Prop),Q (.bool (g i j)) s->wpAny (model X.prog X.w) X.A (f (.int i t) (.int j u)) Q E s):
  OpR X f (rI0 fun i j=> .bl (g i j)):=by
 intro pins s σ H x y v u Q I rx ry h
 obtain⟨i,j,rfl,rfl,q⟩:=h
 obtain⟨t,rfl⟩:=rx
 obtain⟨t',rfl⟩:=ry
 exact rule i j t t' s _ _ ⟨.bl (g i j),H,I,rfl,q⟩
def CDiv (i j:Int):Prop:=0<j/\j<1073741824
def CPow (i j:Int):Prop:=0<=j/\j<=1000000/\i.natAbs<2^64
def CMul (i j:Int):Prop:=(-(2^64)<i/\i<2^64)\/(-(2^64)<j/\j<2^64)
theorem CMul.ok {i j:Int} (h:CMul i j):IntMulOk i j:=by
 rcases h with ⟨h1,h2⟩ | ⟨h1,h2⟩
 ·exact .of_left (intBits_le_64 h1 h2)
 ·exact .of_right (intBits_le_64 h1 h2)
theorem op_add:OpR X (binaryOp .Add) (rI0 fun i j=> .int (i+j)):=opI0 fun _ _ _ _ _ _ _ q=>add_int q
theorem op_mul:OpR X (binaryOp .Mult) (rI CMul fun i j=> .int (i*j)):=opI fun _ _ _ _ _ _ _ hc q=>mul_int q hc.ok
theorem qZf:OpR X (binaryOp .FloorDiv) (rI CDiv fun i j=> .int (i / j)):=opI fun i j _ _ _ _ _ hc q=>by
 have h1:(0:Int)<j:=hc.1
 have h2:j<1073741824:=hc.2
 exact floordiv_int (by omega) (by rw[Int.fdiv_eq_ediv_of_nonneg i (by omega)];exact q) (.inl (PyProof.noPylong_small (by omega)))
theorem op_mod:OpR X (binaryOp .Mod) (rI (fun _ j=>0<j) fun i j=> .int (i%j)):=opI fun i j _ _ _ _ _ hc q=>by
 have h1:(0:Int)<j:=hc
 exact mod_int' (by omega) (by rw[Int.fmod_eq_emod_of_nonneg i (by omega)];exact q)
theorem op_pow:OpR X (binaryOp .Pow) (rI CPow fun i j=> .int (i^j.toNat)):=opI fun _ _ _ _ _ _ _ hc q=>pow_int_small hc.1 hc.2.1 hc.2.2 q
theorem unI {f:Value->Sem Value} {g:Int->Int}
  (rule:∀(i:Int) (t:Tok) (s:Shared) (Q:Value->Shared->Prop) (E:Value->Shared->Prop),Q (.int (g i) s.toks) {s with toks:=s.toks+1}->wpAny (model X.prog X.w) X.A (f (.int i t)) Q E s):
  UnR X f (rU fun i=> .int (g i)):=by
 intro pins s σ H x v Q I rx h
 obtain⟨i,rfl,q⟩:=h
 obtain⟨t,rfl⟩:=rx
 exact rule i t s _ _ ⟨.int (g i),H,I.tok _,⟨_,rfl⟩,q⟩
theorem un_neg:UnR X (unaryOp .USub) (rU fun i=> .int (-i)):=unI fun _ _ _ _ _ q=>neg_int q
end
section
variable {X:Cx} {a b c:Expr} {ta tb tc:TE} {pos:Pos}
theorem qYg {pins:List (Addr×Obj)} {σ:St} {H:Hp} {s:Shared} {Q:VK} {k k':Bool} (I:Inv X pins σ H s) (q:Q (.bl k) H) (e:k=k'):EP X pins σ Q (.bool k') s:=by
 subst e
 exact⟨.bl k,H,I,rfl,q⟩
theorem op_lt:OpR X (compareOp .Lt) (rI0 fun i j=> .bl (decide (i<j))):=opB0 fun _ _ _ _ _ _ _ q=>lt_int q
theorem op_le:OpR X (compareOp .LtE) (rI0 fun i j=> .bl (decide (i<=j))):=opB0 fun _ _ _ _ _ _ _ q=>le_int q
theorem op_gt:OpR X (compareOp .Gt) (rI0 fun i j=> .bl (decide (j<i))):=opB0 fun _ _ _ _ _ _ _ q=>gt_int q
theorem op_ge:OpR X (compareOp .GtE) (rI0 fun i j=> .bl (decide (j<=i))):=opB0 fun _ _ _ _ _ _ _ q=>ge_int q
theorem op_isN:OpR X (compareOp .Is) (fun x y H Q=>y= .non/\Q (.bl (decide (x= .non))) H):=by
 intro pins s σ H x y v u Q I rx ry h
 obtain⟨rfl,q⟩:=h
 cases ry
 refine is_none_gen (qYg I q ?_)
 cases x<;>first
  | (cases rx;rfl)
  | (obtain⟨t,rfl⟩:=rx;rfl)
theorem qZe:OpR X (compareOp .IsNot) (fun x y H Q=>y= .non/\Q (.bl (!decide (x= .non))) H):=by
 intro pins s σ H x y v u Q I rx ry h
 obtain⟨rfl,q⟩:=h
 cases ry
 refine isnot_none_gen (qYg I q ?_)
 cases x<;>first
  | (cases rx;rfl)
  | (obtain⟨t,rfl⟩:=rx;rfl)
theorem nomark (b:Expr) {op:CmpOp} (h:op≠ .In:=by decide) (h2:op≠ .NotIn:=by decide):behindInMarks op b=false:=by
 have e1:(op == CmpOp.In)=false:=by cases op<;>first | rfl | exact absurd rfl h
 have e2:(op == CmpOp.NotIn)=false:=by cases op<;>first | rfl | exact absurd rfl h2
 cases b<;>simp[behindInMarks,e1,e2]
def TruV (K:PySem.W.Frag) (x:V) (H:Hp) (k:Bool):Prop:=
 match x with
 | .non=>k=false
 | .bl b=>k=b
 | .int i=>k=(i != 0)
 | .str y=>y.length<=sizeLine/\k=((y.length:Int) != 0)
 | .byt y=>y.size<=sizeLine/\k=((y.size:Int) != 0)
 | .ref p=>(∃xs,SqL K H p xs/\k= !xs.isEmpty)\/(∃xs,SqT K H p xs/\k= !xs.isEmpty)\/∃kvs,H p=some (.dK kvs)/\k= !kvs.isEmpty
 | _=>False
theorem kZp {κ:Type} {kvs:List (κ×V)} {vs:List (κ×Value)} (r:KV kvs vs):(!vs.isEmpty)= !kvs.isEmpty:=by
 cases r<;>rfl
theorem kJ0 {xs:List V} {its:List Value} (r:Vals xs its):(!its.toArray.isEmpty)= !xs.isEmpty:=by
 cases r<;>simp
theorem kQt:(sizeLine:Nat)<2^63:=by rw[lKy];decide
theorem tru_ok:TruR X (fun x H Q=>∃k,TruV X.K x H k/\Q k H):=by
 intro pins s σ H x v Q I rx h
 obtain⟨k,e,q⟩:=h
 have hl:=kQt
 have hs:sizeLine=16777216:=lKy
 cases x with
 | non=>
  cases rx
  have e':k=false:=e
  subst e'
  exact truthy_none ⟨H,I,q⟩
 | bl b=>
  cases rx
  have e':k=b:=e
  subst e'
  exact lVh ⟨H,I,q⟩
 | int i=>
  obtain⟨t,rfl⟩:=rx
  have e':k=(i != 0):=e
  subst e'
  exact PySem.P.truthy_int ⟨H,I,q⟩
 | str y=>
  obtain⟨t,rfl⟩:=rx
  obtain⟨hy,e'⟩:y.length<=sizeLine/\k=((y.length:Int) != 0):=e
  subst e'
  exact PySem.P.truthy_str (by omega) ⟨H,I.tok _,q⟩
 | byt y=>
  obtain⟨t,rfl⟩:=rx
  obtain⟨hy,e'⟩:y.size<=sizeLine/\k=((y.size:Int) != 0):=e
  subst e'
  exact PySem.W.truthy_bytes (by omega) ⟨H,I.tok _,q⟩
 | ref p=>
  cases rx
  have e':(∃xs,SqL X.K H p xs/\k= !xs.isEmpty)\/(∃xs,SqT X.K H p xs/\k= !xs.isEmpty)\/∃kvs,H p=some (.dK kvs)/\k= !kvs.isEmpty:=e
  rcases e' with ⟨xs,hx,e'⟩ | ⟨xs,hx,e'⟩ | ⟨kvs,hx,e'⟩
  ·subst e'
   obtain⟨its,r,pl,hz⟩:=I.list hx
   have hlen:=r.length
   exact wpAny_truthy_list pl.isList (by simp only[lJw];omega) ⟨H,I.tok _,by rw[kJ0 r];exact q⟩
  ·subst e'
   obtain⟨its,r,pl,hz⟩:=I.tuple hx
   have hlen:=r.length
   exact truthy_tuple pl (by simp only[lJw];omega) ⟨H,I.tok _,by rw[kJ0 r];exact q⟩
  ·subst e'
   obtain⟨hz,hS,vs,r,m⟩:kvs.length<=sizeLine/\(p == sysModules)=false/\∃vs,KV kvs vs/\s.heap.DictOf (jJ4 X.prog X.w) p vs:=I.hok p _ hx
   have hlen:kvs.length=vs.length:=lQn r
   exact wpAny_truthy_dict hS m (by omega) ⟨H,I.tok _,by rw[kZp r];exact q⟩
 | _=>exact (show False from e).elim
theorem kZ4 {x:V} {us:List Value} (r:Vals [x] us):∃u,us=[u]/\RelV x u:=by
 cases r with
 | cons r1 r2=>cases r2;exact⟨_,rfl,r1⟩
theorem vals2 {x y:V} {us:List Value} (r:Vals [x,y] us):∃u w',us=[u,w']/\RelV x u/\RelV y w':=by
 cases r with
 | cons r1 r2=>
  cases r2 with
  | cons r3 r4=>cases r4;exact⟨_,_,rfl,r1,r3⟩
theorem qXi:kUr X (.builtin "abs") (fun xs H Q=>∃i,xs=[.int i]/\Q (.int (if i<0 then -i else i)) H):=by
 intro pins s σ H xs us Q I r h
 obtain⟨i,rfl,q⟩:=h
 obtain⟨u,rfl,t,rfl⟩:=kZ4 r
 exact call_abs_int fun u tk=>⟨.int (if i<0 then -i else i),H,I.tok _,⟨_,rfl⟩,q⟩
theorem qUf (hc:X.calm=true):kUr X (.builtin "max") (fun xs H Q=>∃i j,xs=[.int i,.int j]/\Q (.int (if j>i then j else i)) H):=by
 intro pins s σ H xs us Q I r h
 obtain⟨i,j,rfl,q⟩:=h
 obtain⟨u,w',rfl,⟨t,rfl⟩,⟨t',rfl⟩⟩:=vals2 r
 refine max_two_ints (I.ok.hd hc) fun h' tk k=>⟨_,H,I.kept k,?_,q⟩
 by_cases hj:j>i
 ·rw[lJc hj,lJc hj];exact⟨_,rfl⟩
 ·rw[lJb hj,lJb hj];exact⟨_,rfl⟩
theorem qUd (hc:X.calm=true):kUr X (.builtin "min") (fun xs H Q=>∃i j,xs=[.int i,.int j]/\Q (.int (if j<i then j else i)) H):=by
 intro pins s σ H xs us Q I r h
 obtain⟨i,j,rfl,q⟩:=h
 obtain⟨u,w',rfl,⟨t,rfl⟩,⟨t',rfl⟩⟩:=vals2 r
 refine min_two_ints (I.ok.hd hc) fun h' tk k=>⟨_,H,I.kept k,?_,q⟩
 by_cases hj:j<i
 ·rw[lJc hj,lJc hj];exact⟨_,rfl⟩
 ·rw[lJb hj,lJb hj];exact⟨_,rfl⟩
end
section
variable {prog:Program} {w:World} {A:Around} {E:Value->Shared->Prop} {s:Shared} {K:PySem.W.Frag} {x dx C f:Addr} {mA:Str->Option Value} {name:Str} {v:Value}
end
theorem RelO.some_of {v:V} {o:Option Value} (r:RelO (some v) o):∃u,o=some u/\RelV v u:=by
 cases o with
 | none=>exact (show False from r).elim
 | some u=>exact⟨u,rfl,r⟩
section
variable {P:Program} {w:World} {H H':Hp} {h h':Heap} {a C dx:Addr} {fs fs':List (Str×V)}
end
section
variable {X:Cx} {pins:List (Addr×Obj)} {σ:St} {H:Hp} {s:Shared} {a C dx:Addr} {fs:List (Str×V)} {f:Str} {v:V} {A:Around} {E:Value->Shared->Prop}
end
section
variable {X:Cx} {o e value:Expr} {f:Str} {pos pos' tpos:Pos} {ta tv:TE}
def rSub:V->V->Hp->VK->Prop:=fun x y H Q=>∃i j,x= .int i/\y= .int j/\Q (.int (i-j)) H
end
section
variable {X:Cx} {pins:List (Addr×Obj)} {σ:St} {H:Hp} {s:Shared} {A:Around} {E:Value->Shared->Prop} {Q:Value->Shared->Prop} {c:Value} {b:Bool}
end
structure Room (k:Nat) (A:Around):Prop where
 hd:A.handled=none
 gd:A.guards=some []
 dp:A.depth+3*k+5<recursionLimit
 un:A.units+16*k+200<cLine
theorem Room.mono {j k:Nat} {A:Around} (r:Room k A) (h:j<=k):Room j A:=⟨r.hd,r.gd,by have:=r.dp;omega,by have:=r.un;omega⟩
theorem Room.deeper {k:Nat} {A:Around} (r:Room (k+1) A) (env:Env):Room k (A.deeper env):=
 ⟨r.hd,r.gd,by have:=r.dp;show A.depth+1+3*k+5<_;omega,by have:=r.un;show A.units+3+16*k+200<_;omega⟩
theorem Room.depth {k:Nat} {A:Around} (r:Room k A):A.depth<recursionLimit:=by have:=r.dp;omega
theorem Room.units {k:Nat} {A:Around} (r:Room k A):A.units+64<cLine:=by have:=r.un;omega
section
variable {X:Cx} {e:Expr} {es:List Expr} {te:TE} {t:TA} {pos:Pos}
end
abbrev Sp:=List V->Hp->VK->XK->Prop
abbrev CXT:=List Env->Hp->Shared->XK->Value->Shared->Prop
structure Env0 (P:Program) (w:World) (K:PySem.W.Frag) (mg:Str->Option Value) (base:Heap) (A:Around) (outer:List Env) (s:Shared) (H:Hp):Prop where
 frames:A.frames=some outer
 mod:Mod K mg base
 bs:∀b o,base.get? b=some o->s.heap.get? b=some o/\H b=none
 bsz:base.objs.size<=s.heap.objs.size
 funs:s.heap.FunFrames base outer
 frf:∀b∈frs outer,H b=none
 hok:HOk P w H s.heap
 bare:AllBare s.gens
def CE (outer:List Env) (P:Program) (w:World) (H:Hp) (s:Shared) (Q:VK) (u:Value) (s':Shared):Prop:=
 ∃v H',s'.os=s.os/\AllBare s'.gens/\Un (frs outer) [] H H' s.heap s'.heap/\HOk P w H' s'.heap/\RelV v u/\Q v H'
def CR (CX:CXT) (outer:List Env) (P:Program) (w:World) (H:Hp) (s:Shared) (Q:VK) (E:XK) (r:Result) (s':Shared):Prop:=
 match r with
 | .ok (.ret u)=>CE outer P w H s Q u s'
 | .ok _=>False
 | .error e=>CX outer H s E e s'
structure FnOk (P:Program) (w:World) (K:PySem.W.Frag) (mg:Str->Option Value) (base:Heap) (CX:CXT) (k:Nat) (f:Addr) (fd:FuncData) (ps:List Str) (sp:Sp):Prop where
 len:∀vs H Q E,sp vs H Q E->vs.length=ps.length
 run:∀(A:Around) (outer:List Env) (s:Shared) (H:Hp) (args:Args) (us:List Value) (vs:List V) (Q:VK) (E:XK),Room k A->Env0 P w K mg base A outer s H->BindsTo s fd args (ps.zip us)->Vals vs us->sp vs H Q E->
  codeAny (model P w) A (.call (.ref f) args) (CR CX outer P w H s Q E) s
section
variable {X:Cx} {pins:List (Addr×Obj)} {σ:St} {H:Hp} {s s':Shared}
theorem Inv.env0 (I:Inv X pins σ H s):Env0 X.prog X.w X.K X.mg X.base X.A X.stack s H:=
 ⟨I.ok.frames,I.ok.mod,I.bs,lK1 I.ok.bsz I.sz,I.stack,I.stkFree,I.hok,I.bare⟩
theorem Inv.after {Q:VK} {u:Value} (I:Inv X pins σ H s) (h:CE X.stack X.prog X.w H s Q u s'):EP X pins σ Q u s':=by
 obtain⟨v,H',os,bare,un,hok,r,q⟩:=h
 obtain⟨hh,g,d,t,os'⟩:=s'
 obtain rfl:os'=s.os:=os
 exact⟨v,H',I.call (h':=hh) (g':=g) (d':=d) (t':=t) (ch:=[]) un hok bare (fun b z=>absurd z (by simp)),r,q⟩
end
def Binds (K:PySem.W.Frag) (fd:FuncData) (ps:List Str) (ds:List Value):Prop:=
 ∀(s:Shared) (us:List Value),K.In s.heap->(us++ds).length=ps.length->BindsTo s fd ⟨us,[]⟩ (ps.zip (us++ds))
theorem Binds.all {K:PySem.W.Frag} {fd:FuncData} {ps:List Str} (h:∀us:List Value,us.length=ps.length->bindArgs fd ⟨us,[]⟩=pure (ps.zip us)):Binds K fd ps []:=fun s us _ hl=>by
 rw[lQb] at hl ⊢
 exact .of_eq (h us hl)
def qYm (CX:CXT) (X:Cx) (E:XK):Prop:=∀(pins:List (Addr×Obj)) (σ:St) (H:Hp) (s:Shared) (e:Value) (s':Shared),Inv X pins σ H s->CX X.stack H s E e s'->X.xe e s'
section
variable {X:Cx} {CX:CXT} {k:Nat} {f C:Addr} {fd:FuncData} {ps:List Str} {sp:Sp} {dvs:List V} {ds:List Value} {E:XK} {x m:Str} {p pos apos:Pos} {e o:Expr} {es:List Expr} {ta:TE} {t:TA}
theorem run_fn {pins:List (Addr×Obj)} {σ:St} {H:Hp} {s:Shared} {Q:VK} {us:List Value} {vs:List V} (F:FnOk X.prog X.w X.K X.mg X.base CX k f fd ps sp) (hr:Room k X.A) (hb:Binds X.K fd ps ds) (hd:Vals dvs ds) (hx:qYm CX X E)
  (I:Inv X pins σ H s) (r:Vals vs us) (h:sp (vs++dvs) H Q E):wpAny (model X.prog X.w) X.A (call (.ref f) us) (EP X pins σ Q) X.xe s:=by
 have r2:Vals (vs++dvs) (us++ds):=r.append hd
 have hl:(us++ds).length=ps.length:=by rw[<-r2.length];exact F.len _ _ _ _ h
 refine wpAny_call (codeAny_mono (F.run X.A X.stack s H ⟨us,[]⟩ (us++ds) (vs++dvs) Q E hr I.env0 (hb s us I.kIn hl) r2 h) fun r s' hq=> ?_)
 cases r with
 | error e=>exact hx pins σ H s e s' I hq
 | ok fl=>
  cases fl with
  | ret u=>exact I.after hq
  | next=>exact False.elim hq
  | brk=>exact False.elim hq
  | cont=>exact False.elim hq
end
section
variable {X:Cx} {CX:CXT} {k:Nat} {f C:Addr} {fd:FuncData} {ps ks:List Str} {sp:Sp} {E:XK} {x m:Str} {p pos apos kpos:Pos} {e o:Expr} {es:List Expr} {kws:List Keyword} {te ta:TE} {t tk:TA} {nm:Option Str}
variable {g:List Value->List Value->List Value} {gV:List V->List V->List V}
end
structure FnScope (N P:List Str) (sc:Scope):Prop where
 kind:sc.kind= .function
 co:sc.isCoroutine=false
 gen:sc.isGenerator=false
 nd:N.Nodup
 pre:N.take P.length=P
 par:∀x∈P,sc.names.lookup x=some .local\/sc.names.lookup x=some .cell
 nofree:∀y∈sc.names,y.2≠ .free
theorem kUc {kindOf:Str->Option NameKind} {x:Str}:∀ {binds:List (Str×Value)} {m:Str->Option Value},(∀v,(x,v)∉binds)->bindL kindOf binds m x=m x
 | [],_,_=>rfl
 | (n,v)::r,m,h=>by
  unfold bindL
  rw[kUc fun w hw=>h w (lJ1 _ hw)]
  split
  ·have:x≠n:=by rintro rfl;exact h v lJx
   simp[this]
  ·rfl
theorem kUe {kindOf:Str->Option NameKind} {x:Str}:∀ {binds:List (Str×Value)} {m:Str->Option Value},(∀v,(x,v)∉binds)->bindC kindOf binds m x=m x
 | [],_,_=>rfl
 | (n,v)::r,m,h=>by
  unfold bindC
  rw[kUe fun w hw=>h w (lJ1 _ hw)]
  split
  ·rfl
  ·have:x≠n:=by rintro rfl;exact h v lJx
   simp[this]
theorem kUd {kindOf:Str->Option NameKind} {x:Str} {v:Value}:∀ {P:List Str} {vs:List Value} {i:Nat} {m:Str->Option Value},P.Nodup->P[i]? =some x->vs[i]? =some v->kindOf x=some .local->
  bindL kindOf (P.zip vs) m x=some v
 | [],_,_,_,_,h,_,_=>by simp at h
 | _::_,[],_,_,_,_,h,_=>by simp at h
 | p::P,w::vs,0,m,nd,h1,h2,hk=>by
  simp at h1 h2;subst h1;subst h2
  show bindL kindOf ((p,w)::P.zip vs) m p=_
  unfold bindL
  rw[kUc fun v hv=>(lK2.mp nd).1 (List.of_mem_zip hv).1,lJc hk]
  simp
 | p::P,w::vs,i+1,m,nd,h1,h2,hk=>by
  show bindL kindOf ((p,w)::P.zip vs) m x=_
  unfold bindL
  exact kUd (i:=i) (lK2.mp nd).2 (by simpa using h1) (by simpa using h2) hk
theorem kUf {kindOf:Str->Option NameKind} {x:Str} {v:Value}:∀ {P:List Str} {vs:List Value} {i:Nat} {m:Str->Option Value},P.Nodup->P[i]? =some x->vs[i]? =some v->kindOf x≠some .local->
  bindC kindOf (P.zip vs) m x=some v
 | [],_,_,_,_,h,_,_=>by simp at h
 | _::_,[],_,_,_,_,h,_=>by simp at h
 | p::P,w::vs,0,m,nd,h1,h2,hk=>by
  simp at h1 h2;subst h1;subst h2
  show bindC kindOf ((p,w)::P.zip vs) m p=_
  unfold bindC
  rw[kUe fun v hv=>(lK2.mp nd).1 (List.of_mem_zip hv).1,lJb hk]
  simp
 | p::P,w::vs,i+1,m,nd,h1,h2,hk=>by
  show bindC kindOf ((p,w)::P.zip vs) m x=_
  unfold bindC
  exact kUf (i:=i) (lK2.mp nd).2 (by simpa using h1) (by simpa using h2) hk
def start (N:List Str) (vs:List V):St:=vs.map some++List.replicate (N.length-vs.length) none
noncomputable def cxOf (CX:CXT) (P:Program) (w:World) (K:PySem.W.Frag) (mg:Str->Option Value) (base:Heap) (N:List Str) (qual:Str) (scope:Scope) (f:Addr) (cd:Value) (A:Around) (outer:List Env) (s:Shared) (H:Hp) (E:XK):Cx where
 prog:=P
 w:=w
 K:=K
 mg:=mg
 base:=base
 A:=A.deeper (envOfC qual scope s.heap.objs.size f cd)
 N:=N
 s₀:=s
 H₀:=H
 env:=envOfC qual scope s.heap.objs.size f cd
 outer:=outer
 stack:=envOfC qual scope s.heap.objs.size f cd::outer
 ex:=[]
 calm:=true
 fn:=fun _=>true
 pn:=[]
 xe:=fun e s'=>wpAny (model P w) (A.deeper (envOfC qual scope s.heap.objs.size f cd)) (leaving (envOfC qual scope s.heap.objs.size f cd) e) (fun _ s''=>CX outer H s E e s'') (fun e' s''=>CX outer H s E e' s'') s'
theorem kYr {sc:Scope} {n:Nat} {x:Str} (h:sc.names.lookup x=some .cell):∃c,(cellsFrom n sc.names []).lookup x=some c:=by
 have q:=PySem.W.cellsFrom_some sc.names n [] (.inl h)
 exact lXc.mp q
theorem qQc {CX:CXT} {P:Program} {w:World} {K:PySem.W.Frag} {mg:Str->Option Value} {base:Heap} {N ps:List Str} {qual:Str} {scope:Scope} {f:Addr} {cd:Value} {A:Around} {outer:List Env} {s s1:Shared} {H:Hp} {E:XK} {us:List Value} {vs:List V}
  (S:FnScope N ps scope) (hd:A.handled=none/\A.guards=some []) (e0:Env0 P w K mg base A outer s H) (hl:vs.length=ps.length) (r:Vals vs us)
  (x:InCallC s s.heap.objs.size (bindL (envOfC qual scope s.heap.objs.size f cd).kindOf (ps.zip us) fun _=>none) (cellsFrom (s.heap.objs.size+1) scope.names []) (bindC (envOfC qual scope s.heap.objs.size f cd).kindOf (ps.zip us) fun _=>none) s1):
  Inv (cxOf CX P w K mg base N qual scope f cd A outer s H E) [] (start N vs) H s1:=by
 have hpl:ps.length<=N.length:=by have:=lJ8 List.length S.pre;rw[lQg] at this;omega
 obtain⟨h1,tk,rfl,hk⟩:=x.done
 have noA:∀b:Addr,b∉(cxOf CX P w K mg base N qual scope f cd A outer s H E).ex:=fun b z=>absurd (show b∈([]:List Addr) from z) (by simp)
 refine⟨⟨e0.mod,S.kind,rfl,rfl,lJg _,fun y z c h1 h2=> ?_,fun y hy=> ?_,fun y c _ h=> ?_,fun _=>hd.1,fun _=>hd.2,Around.frames_deeper e0.frames,.inr ⟨rfl,rfl⟩,fun b z=>absurd z (noA b),e0.bs,e0.bsz,fun b _ _=>noA b,fun b z=>absurd z (noA b),e0.funs,e0.frf⟩,
  rfl,e0.bare,Un.kept hk,⟨_,x.toInCall.ns,fun i y v h1 h2 h3=> ?_⟩,fun y c h=>⟨_,x.cell y c h⟩,e0.hok.fresh (lJg _),fun y c h=> ?_,fun p hp=>absurd (show p∈([]:List (Addr×Obj)) from hp) (by simp),e0.hok.kept hk,?_⟩
 ·exact name_of_addr x.apart (lK4 h1) (lK4 h2)
 ·have hy:scope.names.lookup y=some .cell\/scope.names.lookup y=some .free:=hy
  rcases hy with hy | hy
  ·exact kYr hy
  ·exact absurd rfl (S.nofree _ (lK4 hy))
 ·exact lVw (x.above y c (lK4 h))
 ·have hi:i<vs.length:=by
   unfold start at h2
   by_cases hi:i<vs.length
   ·exact hi
   ·rw[lKu (by simpa using hi)] at h2
    rw[List.getElem?_replicate] at h2
    split at h2<;>cases h2
  have ha:vs[i]? =some v:=by
   unfold start at h2
   rw[lKi (by simpa using hi),lKj] at h2
   cases e:vs[i]? with
   | none=>rw[e] at h2;cases h2
   | some a=>rw[e] at h2;cases h2;rfl
  obtain⟨u,hu,rv⟩:=r.get ha
  have hp:ps[i]? =some y:=by
   rw[<-S.pre,List.getElem?_take_of_lt (by omega)];exact h1
  have ndP:ps.Nodup:=by rw[<-S.pre];exact S.nd.sublist (lQ3 _ _)
  refine⟨u,rv,?_⟩
  rcases S.par y (lJu hp) with k | k
  ·exact .inl ⟨k,kUd ndP hp hu k⟩
  ·obtain⟨c,e⟩:=kYr (n:=s.heap.objs.size+1) k
   refine .inr ⟨.inl k,c,e,?_⟩
   have q:=x.cell y c e
   rw[kUf ndP hp hu (by show scope.names.lookup y≠_;rw[k];decide)] at q
   exact q
 ·exact e0.hok.fresh (lVw (x.above y c (lK4 h)))
 ·unfold start
  show _=N.length
  rw[lKc,lJf,List.length_replicate]
  omega
theorem fn_of {CX:CXT} {P:Program} {w:World} {K:PySem.W.Frag} {mg:Str->Option Value} {base:Heap} {k:Nat} {f:Addr} {name qual:Str} {params:Arguments} {body:List Stmt} {scope:Scope} {dV kV doc pm cdv ct oc:Value} {an od:Option Addr}
  {osl:Array (Option Value)} {N ps:List Str} {sp:Sp} (lk:K.lookup f=some ⟨oc,od,.func (PySem.W.fnOf name qual params body scope dV kV doc pm an cdv ct),osl⟩) (hcd:PySem.W.codeIn K cdv qual=true) (S:FnScope N ps scope)
  (len:∀vs H Q E,sp vs H Q E->vs.length=ps.length)
  (hbody:∀(A:Around) (outer:List Env) (s:Shared) (H:Hp) (vs:List V) (Q:VK) (E:XK),Room k (A.deeper (envOfC qual scope s.heap.objs.size f cdv))->sp vs H Q E->
   ∃t,PSs (cxOf CX P w K mg base N qual scope f cdv A outer s H E) body t/\t {nx:=fun _ H'=>Q .non H',rt:=Q} (start N vs) H):
  FnOk P w K mg base CX (k+1) f (PySem.W.fnOf name qual params body scope dV kV doc pm an cdv ct) ps sp:=by
 refine⟨len,fun A outer s H args us vs Q E hr e0 hb r hsp=> ?_⟩
 have hl:=len _ _ _ _ hsp
 have KX:K.In s.heap:=e0.mod.kin.keeps fun b o e=>(e0.bs b o e).1
 have lim:s.heap.NoLimit:=e0.mod.nolimit.keeps fun b o e=>(e0.bs b o e).1
 have hkind:∀y∈ps.zip us,scope.names.lookup y.1=some .local\/(scope.names.lookup y.1=some .cell/\((cellsFrom (s.heap.objs.size+1) scope.names []).lookup y.1).isSome=true):=fun ⟨n,v⟩ hy=>by
  rcases S.par n (List.of_mem_zip hy).1 with q | q
  ·exact .inl q
  ·exact .inr ⟨q,PySem.W.cellsFrom_some _ _ _ (.inl q)⟩
 refine codeAny_call_function hr.depth (KX _ _ lk) rfl S.co S.gen rfl (PySem.W.codeRec_of KX hcd) (hb _ _ _ _ ?_)
 refine wpAny_newFunctionEnv_cells S.kind hkind fun env he s1 x=> ?_
 subst he
 refine⟨lim.keeps x.toInCall.keep,codeAny_func ?_⟩
 obtain⟨t,ht,hq⟩:=hbody A outer s H vs Q E (hr.deeper _) hsp
 have I:Inv (cxOf CX P w K mg base N qual scope f cdv A outer s H E) [] (start N vs) H s1:=qQc S ⟨hr.hd,hr.gd⟩ e0 hl r x
 refine lQv (ht [] s1 (start N vs) H _ I hq) (fun fl s' hs=> ?_) fun e s' hs=>hs
 have fin:∀ {σ':St} {H':Hp} {v:V} {u:Value},Inv (cxOf CX P w K mg base N qual scope f cdv A outer s H E) [] σ' H' s'->RelV v u->Q v H'->CE outer P w H s Q u s':=
  fun {σ' H' v u} J rv q=>⟨v,H',J.os,J.bare,J.base,J.hok,rv,q⟩
 cases fl with
 | ret u=>
  obtain⟨v,σ',H',J,rv,q⟩:=hs
  exact fin J rv q
 | next=>
  obtain⟨σ',H',J,q⟩:=hs
  exact fin (v:=V.non) (u:=Value.none) J rfl q
 | brk=>
  obtain⟨_,_,_,q⟩:=hs
  exact False.elim q
 | cont=>
  obtain⟨_,_,_,q⟩:=hs
  exact False.elim q
section
variable {X:Cx} {x:Str} {p pos:Pos} {e:Expr} {es:List Expr} {t:TA} {id T:String} {r:List V->Hp->VK->Prop}
end
end L2
namespace HT
open PySem PyProof.Rows
theorem qXc (A:Around) (s:Shared) (a:Int) (t:Tok) (c:Int) (u:Tok):∃e,SeqAt.EqAt A s (.int a t) (.int c u) e/\(e=true↔a=c):=
 ⟨(a == c),SeqAt.EqAt.int_int a t c u,by simp⟩
section
open PySem.SeqAt
open PySem.AutoSeq1 (wpAny_loadPart')
open PySem.MeetsSeq PySem.MeetsSeq2 PySem.MeetsSeq3
end
section
variable {prog:Program} {w:World} {A:Around} {E:Value->Shared->Prop} {s:Shared}
theorem cat_tup {t b:Addr} {vs ws:List Value} {Q:Value->Shared->Prop} (ht:IsTup s.heap t vs.toArray) (hb:IsTup s.heap b ws.toArray) (hv:vs≠[])
  (h1:ws=[]->Q (.ref t) s) (h2:ws≠[]->Q (.ref s.heap.objs.size) {s with heap:=s.heap.push {cls:= .type "tuple",data:= .seq (vs++ws).toArray} })
  (hsz:vs.length+ws.length<=sizeLine):wpAny (model prog w) A (binaryOp .Add (.ref t) (.ref b)) Q E s:=by
 obtain⟨⟨cls,dd,data,sl⟩,ho,hc,n,hd⟩:=id ht
 obtain⟨⟨cls2,dd2,data2,sl2⟩,ho2,hc2,n2,hd2⟩:=id hb
 simp only at hc hd hc2 hd2
 subst hc hd hc2 hd2
 have e:vs.toArray++ws.toArray=(vs++ws).toArray:=by simp
 by_cases hw:ws=[]
 ·exact concat_meets ⟨_,ho,rfl⟩ ⟨_,ho2,rfl⟩ noFill_tuple_add seq_tuple_add PySem.F.slot_tuple_add PySem.F.entry_tuple_add (lY7 _ _)
   (tuple_addW1 t b vs.toArray ws.toArray n n2 dd dd2 sl sl2 (by simpa using hv) (by simp[hw])) ⟨ho,ho2,h1 hw⟩
 ·refine concat_meets ⟨_,ho,rfl⟩ ⟨_,ho2,rfl⟩ noFill_tuple_add seq_tuple_add PySem.F.slot_tuple_add PySem.F.entry_tuple_add (lY7 _ _)
   (tuple_addW2 t b vs.toArray ws.toArray n n2 dd dd2 sl sl2 (by simpa using hv) (by simpa using hw) (by rw[lJw,lJw];exact hsz)) ⟨ho,ho2,?_⟩
  rw[e]
  exact h2 hw
def sIx (n d:Nat):Option Int->Nat
 | none=>d
 | some v=>if v<0 then (v+(n:Int)).toNat else min v.toNat n
theorem sIx_le (n d:Nat) (hd:d<=n) (o:Option Int):sIx n d o<=n:=by
 cases o with
 | none=>exact hd
 | some v=>
  show (if v<0 then (v+(n:Int)).toNat else min v.toNat n)<=n
  by_cases hv:v<0
  ·rw[lJc hv];omega
  ·rw[lJb hv];exact Nat.min_le_right _ _
theorem qUc (v:Int) (n d:Nat):(if v<0 then max (v+(n:Int)) 0 else min v (n:Int))=((sIx n d (some v):Nat):Int):=by
 show (if v<0 then max (v+(n:Int)) 0 else min v (n:Int))=(((if v<0 then (v+(n:Int)).toNat else min v.toNat n):Nat):Int)
 by_cases hv:v<0
 ·simp only[lJc hv];omega
 ·simp only[lJb hv];omega
theorem kZx (lo hi:Option Int) (n:Nat):Builtin.Slice.sliceAdjust lo hi 1 (n:Int)=(((sIx n 0 lo:Nat):Int),((sIx n n hi:Nat):Int)):=by
 have h1:¬ ((1:Int)<0):=by omega
 unfold Builtin.Slice.sliceAdjust
 simp only[h1,lJ6]
 refine Prod.ext ?_ ?_
 ·cases lo with
  | none=>rfl
  | some v=>exact qUc v n 0
 ·cases hi with
  | none=>rfl
  | some v=>exact qUc v n n
theorem kY8 (i j:Nat):Builtin.Slice.slicePlaces (i:Int) (j:Int) 1=j-i:=by
 unfold Builtin.Slice.slicePlaces
 have h1:(1:Int)>0:=by omega
 simp only[h1,lKh,Int.ediv_one]
 split<;>omega
theorem kJv {v:Value} {o:Option Int} {Q:Option Int->Shared->Prop} (p:IsPart v o) (h:Q o s):wpAny (model prog w) A (Builtin.Slice.slicePartIndex v) Q E s:=by
 cases p with
 | none=>exact slicePart_none h
 | int i t=>exact slicePart_int h
theorem jUx {sl:Addr} {vl vu:Value} {lo hi:Option Int} {n:Nat} {Q:Int×Int×Nat->Shared->Prop} (hs:s.heap.IsSliceOf sl vl vu .none) (pl:IsPart vl lo) (pu:IsPart vu hi)
  (h:Q (((sIx n 0 lo:Nat):Int),1,sIx n n hi-sIx n 0 lo) s):wpAny (model prog w) A (Builtin.Slice.sliceApplied (.ref sl) (pure (n:Int))) Q E s:=by
 obtain⟨os,hos,hcs,hds⟩:=id hs
 unfold Builtin.Slice.sliceApplied Builtin.Slice.sliceFields
 refine lJa (lJa (wpAny_field hos hds (x:=vl) rfl (lJa (wpAny_field hos hds (x:=vu) rfl (lJa (wpAny_field hos hds (x:= .none) rfl (lJd ?_)))))))
 refine lJa (slicePart_none ?_)
 show wpAny _ _ (if ((1:Int) == 0)=true then _ else _) _ _ s
 rw[lJb (by decide)]
 refine lJa (kJv pl (lJa (kJv pu (lJa (lJd ?_)))))
 show wpAny _ _ (match Builtin.Slice.sliceAdjust lo hi 1 (n:Int) with | (lo,hi)=>pure (lo,(1:Int),Builtin.Slice.slicePlaces lo hi 1)) _ _ s
 rw[kZx lo hi n]
 show wpAny _ _ (pure (((sIx n 0 lo:Nat):Int),(1:Int),Builtin.Slice.slicePlaces ((sIx n 0 lo:Nat):Int) ((sIx n n hi:Nat):Int) 1)) _ _ s
 rw[kY8]
 exact lJd h
theorem qVg (xs:Array Value) (i k:Nat):((List.range k).filterMap fun (m:Nat)=>xs[((i:Int)+(m:Int)*1).toNat]?).toArray=((xs.toList.drop i).take k).toArray:=by
 have e:(fun (m:Nat)=>xs[((i:Int)+(m:Int)*1).toNat]?)=fun m=>xs[i+m]? :=by
  funext m
  have:((i:Int)+(m:Int)*1).toNat=i+m:=by omega
  rw[this]
 rw[e]
 have:=pick_run xs i k
 rw[List.filterMap_map] at this
 have e2:((fun x=>xs[x]?)∘fun x=>i+x)=fun m=>xs[i+m]? :=rfl
 rw[e2] at this
 rw[this]
theorem getItem_tuple_cut {t sl:Addr} {items:Array Value} {vl vu:Value} {lo hi:Option Int} {Q:Value->Shared->Prop} (ht:IsTup s.heap t items) (hs:s.heap.IsSliceOf sl vl vu .none) (pl:IsPart vl lo) (pu:IsPart vu hi)
  (hw:¬ (sIx items.size 0 lo=0/\sIx items.size items.size hi=items.size))
  (h:Q (.ref s.heap.objs.size) {s with heap:=s.heap.push {cls:= .type "tuple",data:= .seq ((items.toList.drop (sIx items.size 0 lo)).take (sIx items.size items.size hi-sIx items.size 0 lo)).toArray} })
  (hsz:items.size<=sizeLine):wpAny (model prog w) A (getItem (.ref t) (.ref sl)) Q E s:=by
 have htake:sizeOk (.seq ((items.toList.drop (sIx items.size 0 lo)).take (sIx items.size items.size hi-sIx items.size 0 lo)).toArray):=by
  show ((items.toList.drop (sIx items.size 0 lo)).take (sIx items.size items.size hi-sIx items.size 0 lo)).toArray.size<=sizeLine
  rw[lJw,lQg,lXt,lKg]
  omega
 have hj:sIx items.size items.size hi<=items.size:=sIx_le _ _ (lJg _) hi
 obtain⟨os,hos,hcs,hds⟩:=id hs
 have hTs:s.TypeIs (.ref sl) "slice":=⟨os,hos,hcs⟩
 unfold getItem
 try with_reducible refine lKx ?_
 first | refine lJa (lJd ?_) | skip
 refine lJa (wpAny_sequenceKey ht.typeIs (by decide) ?_)
 refine lJa (lVi (name:=Str.ofString "__getitem__") ht.typeIs lXd
  (lQa lXd ht.typeIs entry_tuple_getitem ?_ (args_tuple_getitem _ _)))
 show wpAny _ _ (Builtin.Tuple.tupleItemsOf (.ref t) >>= _) _ _ s
 refine lJa (tupleItemsOf_ ht ?_)
 refine lJa (lQw hTs ?_)
 rw[lJc (by decide)]
 refine lJa (jUx hs pl pu ?_)
 have hno:¬ ((((sIx items.size 0 lo:Nat):Int) == 0&&(1:Int) == 1&&(sIx items.size items.size hi-sIx items.size 0 lo) == items.size)=true):=by
  intro q
  rw[lKv,lKv] at q
  have q1:((sIx items.size 0 lo:Nat):Int)=0:=eq_of_beq q.1.1
  have q2:sIx items.size items.size hi-sIx items.size 0 lo=items.size:=eq_of_beq q.2
  exact hw ⟨by omega,by omega⟩
 show wpAny _ _ (if (((sIx items.size 0 lo:Nat):Int) == 0&&(1:Int) == 1&&(sIx items.size items.size hi-sIx items.size 0 lo) == items.size)=true then _ else _) _ _ s
 rw[lJb hno,qVg]
 first
  | exact lJa (m:=Builtin.Tuple.tupleExact _) (lK0 (lJd ⟨_,rfl,lJd h⟩) htake)
  | exact lJa (m:=Builtin.Tuple.tupleExact _) (lK0 (lJa (lJd (lJd ⟨_,rfl,lJd h⟩))) htake)
  | exact lJa (lJa (m:=Builtin.Tuple.tupleExact _) (lK0 (lJd (lJd ⟨_,rfl,lJd h⟩)) htake))
  | exact lJa (lJa (m:=Builtin.Tuple.tupleExact _) (lK0 (lJd ⟨_,rfl,lJd h⟩) htake))
end
end HT
namespace L2
open PySem PySem.Spec PyProof.Rows
abbrev TO:=St->Hp->(Option Int->Hp->Prop)->Prop
theorem kJ1 {ns:List Int}:∀ {us:List Value},Vals (ns.map V.int) us->IntsAre us ns:=by
 induction ns with
 | nil=>intro us r;rw[List.map_nil] at r;cases r;exact .nil
 | cons n ns ih=>
  intro us r
  rw[lJq] at r
  cases r with
  | cons r1 r2=>
   obtain⟨t,e⟩:=r1
   subst e
   exact .cons n t (ih r2)
section
variable {X:Cx} {e:Expr} {te:TE} {lo hi:Option Expr} {tl th:TO} {pos p2:Pos}
def SlR (X:Cx) (r:V->Option Int->Option Int->Hp->VK->Prop):Prop:=
 ∀(pins:List (Addr×Obj)) (s:Shared) (σ:St) (H:Hp) (x:V) (v vl vu:Value) (lo hi:Option Int) (sl:Addr) (Q:VK),Inv X pins σ H s->RelV x v->s.heap.IsSliceOf sl vl vu .none->IsPart vl lo->IsPart vu hi->r x lo hi H Q->
  ∃T id,typeLookup (.type T) "__getitem__"=pure (some (.builtin id))/\s.TypeIs v T/\wpAny (model X.prog X.w) X.A (getItem v (.ref sl)) (EP X pins σ Q) X.xe s
def cutV (xs:List V) (lo hi:Option Int):List V:=(xs.drop (HT.sIx xs.length 0 lo)).take (HT.sIx xs.length xs.length hi-HT.sIx xs.length 0 lo)
theorem jZ4 (xs:List V) (lo hi:Option Int):(cutV xs lo hi).length<=xs.length:=by
 unfold cutV
 rw[lQg,lXt]
 omega
noncomputable def rSlT (K:PySem.W.Frag):V->Option Int->Option Int->Hp->VK->Prop:=fun x lo hi H Q=>∃a xs,x= .ref a/\SqT K H a xs/\
 ¬ (HT.sIx xs.length 0 lo=0/\HT.sIx xs.length xs.length hi=xs.length)/\∀p,H p=none->Q (.ref p) (upd H p (.tup (cutV xs lo hi)))
theorem sl_tup:SlR X (rSlT X.K):=by
 intro pins s σ H x v vl vu lo hi sl Q I rx hs pl pu h
 obtain⟨a,xs,rfl,hx,hw,q⟩:=h
 cases rx
 obtain⟨its,r,ht,hz⟩:=I.tuple hx
 have hlen:its.toArray.size=xs.length:=by rw[lJw];exact r.length.symm
 refine⟨"tuple",_,lXd.lookup,ht.typeIs,?_⟩
 refine HT.getItem_tuple_cut ht hs pl pu (by rw[hlen];exact hw) ?_ (by rw[hlen];exact hz)
 rw[hlen]
 refine⟨.ref s.heap.objs.size,_,I.laid (t':=s.toks) (o:= .tup (cutV xs lo hi)) (fun b ob q=>lJk _ q) (lJg _) ?_,rfl,q _ (I.hok.fresh (lJg _))⟩
 exact⟨lK1 (jZ4 xs lo hi) hz,_,(r.drop (HT.sIx xs.length 0 lo)).take (HT.sIx xs.length xs.length hi-HT.sIx xs.length 0 lo),TupD.new _ _⟩
noncomputable def qVd (K:PySem.W.Frag):R2:=fun x y H Q=>∃a b xs ys,x= .ref a/\y= .ref b/\SqT K H a xs/\SqT K H b ys/\xs≠[]/\xs.length+ys.length<=sizeLine/\
 (ys=[]->Q (.ref a) H)/\(ys≠[]->∀p,H p=none->Q (.ref p) (upd H p (.tup (xs++ys))))
theorem Vals.nil_iff {xs:List V} {us:List Value} (r:Vals xs us):us=[]↔xs=[]:=by
 cases r with
 | nil=>simp
 | cons _ _=>simp
theorem qZg:OpR X (binaryOp .Add) (qVd X.K):=by
 intro pins s σ H x y v u Q I rx ry h
 obtain⟨a,b,xs,ys,rfl,rfl,ha,hb,hx,hz,q1,q2⟩:=h
 cases rx
 cases ry
 obtain⟨its,r1,p1,_⟩:=I.tuple ha
 obtain⟨its2,r2,p2,_⟩:=I.tuple hb
 refine HT.cat_tup p1 p2 (fun z=>hx (r1.nil_iff.mp z)) (fun z=>⟨.ref a,H,I,rfl,q1 (r2.nil_iff.mp z)⟩) (fun z=> ?_) (by rw[<-r1.length,<-r2.length];exact hz)
 refine⟨.ref s.heap.objs.size,_,I.laid (t':=s.toks) (o:= .tup (xs++ys)) (fun b ob q=>lJk _ q) (lJg _) ?_,rfl,q2 (fun w=>z (r2.nil_iff.mpr w)) _ (I.hok.fresh (lJg _))⟩
 exact⟨by rw[lKc];exact hz,_,r1.append r2,TupD.new _ _⟩
end
def ixN (n:Nat) (i:Int):Option Nat:=if 0<=i then (if i<n then some i.toNat else none) else if -(n:Int)<=i then some (i+n).toNat else none
def atI {α:Type} (xs:List α) (i:Int):Option α:=(ixN xs.length i).bind fun j=>xs[j]?
theorem qQa {n:Nat} {i:Int} {j:Nat} (h:ixN n i=some j):seqIndex? i n=some j/\j<n/\ -(n:Int)<=i/\i<n:=by
 unfold ixN at h
 by_cases h0:0<=i
 ·rw[lJc h0] at h
  by_cases h1:i<n
  ·rw[lJc h1] at h
   have e:i.toNat=j:=lJ2 h
   exact⟨by rw[seqIndex_of h0 h1,e],by omega,by omega,h1⟩
  ·rw[lJb h1] at h;cases h
 ·rw[lJb h0] at h
  by_cases h1: -(n:Int)<=i
  ·rw[lJc h1] at h
   have e:(i+n).toNat=j:=lJ2 h
   exact⟨by rw[seqIndex_neg (by omega) h1,e],by omega,h1,by omega⟩
  ·rw[lJb h1] at h;cases h
theorem qUl {α:Type} {xs:List α} {i:Int} {v:α} (h:atI xs i=some v):∃j,seqIndex? i xs.length=some j/\xs[j]? =some v/\j<xs.length/\ -(xs.length:Int)<=i/\i<xs.length:=by
 unfold atI at h
 cases e:ixN xs.length i with
 | none=>rw[e] at h;cases h
 | some j=>
  rw[e] at h
  obtain⟨h1,h2,h3,h4⟩:=qQa e
  exact⟨j,h1,h,h2,h3,h4⟩
def uJ4 (b:Expr):Prop:=∀o i,subscripted b false o i=operate [o,i] (getItem o i)
def IxR (X:Cx) (r:R2):Prop:=
 ∀(value slice:Expr) (pins:List (Addr×Obj)) (s:Shared) (σ:St) (H:Hp) (x y:V) (v u:Value) (Q:VK),Inv X pins σ H s->RelV x v->RelV y u->r x y H Q->
  subscripted slice false v u=operate [v,u] (getItem v u)->wpAny (model X.prog X.w) X.A (subscriptTail value slice v u) (EP X pins σ Q) X.xe s
def MtR (X:Cx) (id:String) (r:V->List V->Hp->VK->Prop):Prop:=
 ∀(pins:List (Addr×Obj)) (s:Shared) (σ:St) (H:Hp) (x:V) (xs:List V) (v:Value) (us:List Value) (Q:VK),Inv X pins σ H s->RelV x v->Vals xs us->r x xs H Q->
  wpAny (model X.prog X.w) X.A (call (.builtin id) (v::us)) (EP X pins σ Q) X.xe s
section
variable {X:Cx} {a b:Expr} {ta tb:TE} {pos:Pos}
theorem IxR.or {r r':R2} (h:IxR X r) (h':IxR X r'):IxR X (fun x y H Q=>r x y H Q\/r' x y H Q):=by
 intro value slice pins s σ H x y v u Q I rx ry q hs
 rcases q with q | q
 ·exact h value slice pins s σ H x y v u Q I rx ry q hs
 ·exact h' value slice pins s σ H x y v u Q I rx ry q hs
def rIxL (K:PySem.W.Frag):R2:=fun x y H Q=>∃p xs i v,x= .ref p/\y= .int i/\SqL K H p xs/\atI xs i=some v/\Q v H
def rIxT (K:PySem.W.Frag):R2:=fun x y H Q=>∃p xs i v,x= .ref p/\y= .int i/\SqT K H p xs/\atI xs i=some v/\Q v H
theorem ix_list:IxR X (rIxL X.K):=by
 intro value slice pins s σ H x y v u Q I rx ry h hs
 obtain⟨p,xs,i,z,rfl,rfl,hq,he,q⟩:=h
 cases rx
 obtain⟨t,rfl⟩:=ry
 obtain⟨its,r,pl,hz⟩:=I.list hq
 obtain⟨j,h1,h2,h3,h4,h5⟩:=qUl he
 obtain⟨w,ew,rw'⟩:=r.get h2
 have hl:=r.length
 have hn:=kQt
 have fin:EP X pins σ Q w s:=⟨z,H,I,rw',q⟩
 by_cases h0:0<=i
 ·have hj:i.toNat=j:=by
   rw[seqIndex_of h0 h5] at h1
   exact lJ2 h1
  exact item_listR pl.isList h0 (by omega) (by rw[hj];simpa using ew) fin hs
 ·have hj:(i+(its.toArray.size:Int)).toNat=j:=by
   rw[seqIndex_neg (by omega) h4] at h1
   rw[lJw,<-hl]
   exact lJ2 h1
  exact subscriptTail_builtinR (x:=w) pl.isList.typeIs slot_list_getitem.lookup
   (wpAny_getItem_list_neg (Q:=fun r s'=>r=w/\EP X pins σ Q r s') pl.isList (by omega) (by rw[lJw]<;>omega) (by omega) (by rw[hj];simpa using ew) ⟨rfl,fin⟩) hs
theorem ix_tup:IxR X (rIxT X.K):=by
 intro value slice pins s σ H x y v u Q I rx ry h hs
 obtain⟨p,xs,i,z,rfl,rfl,hq,he,q⟩:=h
 cases rx
 obtain⟨t,rfl⟩:=ry
 obtain⟨its,r,pl,hz⟩:=I.tuple hq
 obtain⟨j,h1,h2,h3,h4,h5⟩:=qUl he
 obtain⟨w,ew,rw'⟩:=r.get h2
 have hl:=r.length
 have hn:=kQt
 have fin:EP X pins σ Q w s:=⟨z,H,I,rw',q⟩
 exact subscriptTail_builtinR (x:=w) pl.typeIs slot_tuple_getitem.lookup
  (getItem_tuple (j:=j) (Q:=fun r s'=>r=w/\EP X pins σ Q r s') pl (by omega) (by omega) (by rw[lJw,<-hl];exact h1) (by simpa using ew) ⟨rfl,fin⟩) hs
theorem kZj (its:List Value) (n j:Nat) (u:Value):Obj.mapSeq (·.setIfInBounds j u) {cls:= .type "list",data:= .seq its.toArray n}={cls:= .type "list",data:= .seq (its.set j u).toArray n}:=by
 simp[Obj.mapSeq]
theorem Inv.lst {pins:List (Addr×Obj)} {σ:St} {H:Hp} {s:Shared} {p:Addr} {xs:List V} (I:Inv X pins σ H s) (h:H p=some (.lst xs)):
  ∃(its:List Value) (n:Nat),Vals xs its/\s.heap.get? p=some {cls:= .type "list",data:= .seq its.toArray n}/\xs.length<=sizeLine:=by
 obtain⟨z,its,n,r,e⟩:=I.hok p _ h
 exact⟨its,n,r,e,z⟩
theorem Inv.lstUpd {pins:List (Addr×Obj)} {σ:St} {H:Hp} {s:Shared} {p:Addr} {xs ys:List V} {its its':List Value} {n n':Nat} {f:Obj->Obj} (I:Inv X pins σ H s) (h:H p=some (.lst xs))
  (ho:s.heap.get? p=some {cls:= .type "list",data:= .seq its.toArray n}) (hf:f {cls:= .type "list",data:= .seq its.toArray n}={cls:= .type "list",data:= .seq its'.toArray n'}) (r:Vals ys its') (hz:ys.length<=sizeLine) (t:Nat):
  Inv X pins σ (upd H p (.lst ys)) {s with heap:=s.heap.update p f,toks:=t}:=by
 have e:(s.heap.update p f).get? p=some {cls:= .type "list",data:= .seq its'.toArray n'}:=by
  rw[lVx f ho (by rw[hf]<;>rfl),hf]
 refine I.write (x:=p) (e:=p) (by rw[h];trivial) (.inl rfl) (fun b u hb q=>(lYn _ _ (Ne.symm hb)).trans q) ⟨_,e⟩ ?_
 exact⟨hz,its',n',r,e⟩
def qVc:V->V->V->Hp->(Hp->Prop)->Prop:=fun o i v H Q=>∃p xs k j,o= .ref p/\i= .int k/\H p=some (.lst xs)/\ixN xs.length k=some j/\Q (upd H p (.lst (xs.set j v)))
theorem qU0:PSet X qVc:=by
 intro pins s σ H o i v ov iv u Q I ro ri rv h
 obtain⟨p,xs,k,j,rfl,rfl,hp,hj,q⟩:=h
 cases ro
 obtain⟨t,rfl⟩:=ri
 obtain⟨its,n,r,ho,hz⟩:=I.lst hp
 obtain⟨h1,h2,h3,h4⟩:=qQa hj
 have hl:=r.length
 have hn:=kQt
 have I':Inv X pins σ (upd H p (.lst (xs.set j v))) {s with heap:=s.heap.update p (Obj.mapSeq (·.setIfInBounds j u))}:=
  I.lstUpd hp ho (kZj its n j u) (r.set rv j) (by rw[List.length_set];exact hz) s.toks
 by_cases h0:0<=k
 ·have hk:k.toNat=j:=by
   rw[seqIndex_of h0 h4] at h1
   exact lJ2 h1
  exact PySem.W.ki_setAt ho h0 (by omega) (by rw[lJw,<-hl];exact h4) (by rw[hk];exact⟨_,I',q⟩)
 ·have hk:(k+(its.toArray.size:Int)).toNat=j:=by
   rw[seqIndex_neg (by omega) h3] at h1
   rw[lJw,<-hl]
   exact lJ2 h1
  exact PySem.W.ki_setBack ho (by omega) (by rw[lJw,<-hl];exact h3) (by omega) (by rw[hk];exact⟨_,I',q⟩)
theorem kQg (lo hi:Option Int) (n:Nat):(sliceBounds lo hi none n).1=((HT.sIx n 0 lo:Nat):Int)/\(sliceBounds lo hi none n).2.1=((HT.sIx n n hi:Nat):Int)/\(sliceBounds lo hi none n).2.2=1:=by
 refine⟨?_,?_,rfl⟩
 ·cases lo with
  | none=>simp[sliceBounds,HT.sIx]
  | some i=>
   simp only[sliceBounds,HT.sIx,Option.getD_none,show (1:Int)>0 by decide,lKh]
   by_cases h:i<0
   ·simp only[h,lKh]<;>omega
   ·simp only[h,lJ6]<;>omega
 ·cases hi with
  | none=>simp[sliceBounds,HT.sIx]
  | some i=>
   simp only[sliceBounds,HT.sIx,Option.getD_none,show (1:Int)>0 by decide,lKh]
   by_cases h:i<0
   ·simp only[h,lKh]<;>omega
   ·simp only[h,lJ6]<;>omega
theorem kKj (its:List Value) (lo hi:Option Int):slicePick its.toArray lo hi none=((its.drop (HT.sIx its.length 0 lo)).take (HT.sIx its.length its.length hi-HT.sIx its.length 0 lo)).toArray:=by
 obtain⟨h1,h2,h3⟩:=kQg lo hi its.toArray.size
 unfold slicePick
 rw[h1,h2,h3]
 simp only[sliceRange_one,pick_run,lJw]<;>rfl
def rSlL (K:PySem.W.Frag):V->Option Int->Option Int->Hp->VK->Prop:=fun x lo hi H Q=>∃a xs,x= .ref a/\SqL K H a xs/\∀p,H p=none->Q (.ref p) (upd H p (.lst (cutV xs lo hi)))
theorem qYx:SlR X (rSlL X.K):=by
 intro pins s σ H x v vl vu lo hi sl Q I rx hs pl pu h
 obtain⟨a,xs,rfl,hx,q⟩:=h
 cases rx
 obtain⟨its,r,ht,hz⟩:=I.list hx
 have hlen:=r.length
 refine⟨"list",_,slot_list_getitem.lookup,ht.isList.typeIs,?_⟩
 refine wpAny_getItem_list_slice ht.isList hs pl pu .none (by simp) ?_ (by rw[lJw]<;>omega)
 rw[kKj,<-hlen]
 refine⟨.ref s.heap.objs.size,_,I.laid (t':=s.toks) (o:= .lst (cutV xs lo hi)) (fun b ob q=>lJk _ q) (lJg _) ?_,rfl,q _ (I.hok.fresh (lJg _))⟩
 exact⟨lK1 (jZ4 xs lo hi) hz,_,0,(r.drop (HT.sIx xs.length 0 lo)).take (HT.sIx xs.length xs.length hi-HT.sIx xs.length 0 lo),lJ0 _ rfl⟩
def kJn:V->Bool
 | .non=>true
 | .bl _=>true
 | .int _=>true
 | .str _=>true
 | _=>false
noncomputable def eqV:V->V->Bool
 | .non,.non=>true
 | .bl a,.bl b=>a == b
 | .bl a,.int b=>(if a then 1 else 0) == b
 | .int a,.bl b=>a == (if b then 1 else 0)
 | .int a,.int b=>a == b
 | .str a,.str b=>a == b
 | _,_=>false
theorem eqAt_V {A:Around} {s:Shared} {y x:V} {u v:Value} (ry:RelV y u) (rx:RelV x v) (fy:kJn y=true) (fx:kJn x=true):SeqAt.EqAt A s u v (eqV y x):=by
 cases y with
 | non=>
  cases ry
  cases x with
  | non=>cases rx;exact SeqAt.EqAt.same _
  | bl b=>cases rx;exact SeqAt.EqAt.none_bool b
  | int b=>obtain⟨t,rfl⟩:=rx;exact SeqAt.EqAt.none_int b t
  | str b=>obtain⟨t,rfl⟩:=rx;exact SeqAt.EqAt.none_str b t
  | _=>exact absurd (show false=true from fx) lJs
 | bl a=>
  cases ry
  cases x with
  | non=>cases rx;exact SeqAt.EqAt.bool_none a
  | bl b=>cases rx;exact SeqAt.EqAt.bool_bool a b
  | int b=>obtain⟨t,rfl⟩:=rx;exact SeqAt.EqAt.bool_int a b t
  | str b=>obtain⟨t,rfl⟩:=rx;exact SeqAt.EqAt.bool_str a b t
  | _=>exact absurd (show false=true from fx) lJs
 | int a=>
  obtain⟨t',rfl⟩:=ry
  cases x with
  | non=>cases rx;exact SeqAt.EqAt.int_none a t'
  | bl b=>cases rx;exact SeqAt.EqAt.int_bool a t' b
  | int b=>obtain⟨t,rfl⟩:=rx;exact SeqAt.EqAt.int_int a t' b t
  | str b=>obtain⟨t,rfl⟩:=rx;exact SeqAt.EqAt.int_str a t' b t
  | _=>exact absurd (show false=true from fx) lJs
 | str a=>
  obtain⟨t',rfl⟩:=ry
  cases x with
  | non=>cases rx;exact SeqAt.EqAt.str_none a t'
  | bl b=>cases rx;exact SeqAt.EqAt.str_bool a t' b
  | int b=>obtain⟨t,rfl⟩:=rx;exact SeqAt.EqAt.str_int a t' b t
  | str b=>obtain⟨t,rfl⟩:=rx;exact SeqAt.EqAt.str_str a t' b t
  | _=>exact absurd (show false=true from fx) lJs
 | _=>exact absurd (show false=true from fy) lJs
def eqU (x:V) (u:Value):Bool:=match u with
 | .none=>eqV .non x
 | .bool b=>eqV (.bl b) x
 | .int i _=>eqV (.int i) x
 | .str z _=>eqV (.str z) x
 | _=>false
theorem qYj {x y:V} {u:Value} (r:RelV y u) (f:kJn y=true):eqU x u=eqV y x:=by
 cases y with
 | non=>cases r;rfl
 | bl b=>cases r;rfl
 | int i=>obtain⟨t,rfl⟩:=r;rfl
 | str z=>obtain⟨t,rfl⟩:=r;rfl
 | _=>exact absurd (show false=true from f) lJs
theorem jZ7 {x:V}:∀ {xs:List V} {us:List Value},Vals xs us->xs.all kJn=true->us.any (eqU x)=xs.any fun y=>eqV y x
 | _,_,.nil,_=>rfl
 | y::xs,u::us,.cons r t,f=>by
  rw[lVy,lKv] at f
  rw[lQ4,lQ4,qYj r f.1,jZ7 t f.2]
theorem jXq {A:Around} {s:Shared} {x:V} {v:Value} (rx:RelV x v) (fx:kJn x=true):∀ {xs:List V} {us:List Value},Vals xs us->xs.all kJn=true->∀u∈us,SeqAt.EqAt A s u v (eqU x u)
 | _,_,.nil,_=>fun u hu=>by cases hu
 | y::xs,u::us,.cons r t,f=>fun u' hu=>by
  rw[lVy,lKv] at f
  rcases (lJr.mp hu) with rfl | hu
  ·rw[qYj r f.1];exact eqAt_V r rx f.1 fx
  ·exact jXq rx fx t f.2 u' hu
def inV (x:V) (xs:List V):Bool:=xs.any fun y=>eqV y x
def rIn (K:PySem.W.Frag) (neg:Bool):R2:=fun x y H Q=>∃p xs,y= .ref p/\(SqL K H p xs\/SqT K H p xs)/\kJn x=true/\xs.all kJn=true/\Q (.bl (if neg then !inV x xs else inV x xs)) H
theorem qKi:OpR X (compareOp .In) (rIn X.K false):=by
 intro pins s σ H x y v u Q I rx ry h
 obtain⟨p,xs,rfl,hq,fx,fs,q⟩:=h
 cases ry
 rcases hq with hq | hq
 ·obtain⟨its,r,pl,hz⟩:=I.list hq
  refine SeqAt.in_listAt (eqU x) pl.isList (fun w hw=>jXq rx fx r fs w (by simpa using hw)) ⟨.bl _,H,I,rfl,?_⟩
  rw[show its.toArray.any (eqU x)=its.any (eqU x) by simp,jZ7 r fs]
  exact q
 ·obtain⟨its,r,pl,hz⟩:=I.tuple hq
  refine SeqAt.in_tupleAt (eqU x) pl (fun w hw=>jXq rx fx r fs w (by simpa using hw)) ⟨.bl _,H,I,rfl,?_⟩
  rw[show its.toArray.any (eqU x)=its.any (eqU x) by simp,jZ7 r fs]
  exact q
theorem kQo:OpR X (compareOp .NotIn) (rIn X.K true):=by
 intro pins s σ H x y v u Q I rx ry h
 obtain⟨p,xs,rfl,hq,fx,fs,q⟩:=h
 cases ry
 rcases hq with hq | hq
 ·obtain⟨its,r,pl,hz⟩:=I.list hq
  refine SeqAt.notIn_listAt (eqU x) pl.isList (fun w hw=>jXq rx fx r fs w (by simpa using hw)) ⟨.bl _,H,I,rfl,?_⟩
  rw[show its.toArray.any (eqU x)=its.any (eqU x) by simp,jZ7 r fs]
  exact q
 ·obtain⟨its,r,pl,hz⟩:=I.tuple hq
  refine SeqAt.notIn_tupleAt (eqU x) pl (fun w hw=>jXq rx fx r fs w (by simpa using hw)) ⟨.bl _,H,I,rfl,?_⟩
  rw[show its.toArray.any (eqU x)=its.any (eqU x) by simp,jZ7 r fs]
  exact q
theorem kUa:kUr X (.builtin "len") (fun xs H Q=>∃p ys,xs=[.ref p]/\(SqL X.K H p ys\/SqT X.K H p ys)/\Q (.int ys.length) H):=by
 intro pins s σ H xs us Q I r h
 obtain⟨p,ys,rfl,hq,q⟩:=h
 obtain⟨u,rfl,rx⟩:=kZ4 r
 cases rx
 have hn:=kQt
 rcases hq with hq | hq
 ·obtain⟨its,r',pl,hz⟩:=I.list hq
  have hlen:=r'.length
  exact Calls.call_len_list pl.isList (by simp only[lJw]<;>omega) ⟨.int ys.length,H,I.tok _,⟨s.toks+1,by rw[lJw,hlen]⟩,q⟩
 ·obtain⟨its,r',pl,hz⟩:=I.tuple hq
  have hlen:=r'.length
  exact len_tuple pl (by simp only[lJw]<;>omega) ⟨.int ys.length,H,I.tok _,⟨s.toks+1,by rw[lJw,hlen]⟩,q⟩
theorem kQ9:kUr X (.type "list") (fun xs H Q=>∃p ys,xs=[.ref p]/\(SqL X.K H p ys\/SqT X.K H p ys)/\∀l,H l=none->Q (.ref l) (upd H l (.lst ys))):=by
 intro pins s σ H xs us Q I r h
 obtain⟨p,ys,rfl,hq,q⟩:=h
 obtain⟨u,rfl,rx⟩:=kZ4 r
 cases rx
 have fin:∀(its:List Value),Vals ys its->ys.length<=sizeLine->∀(h':Heap) (c':Nat),(∀b o',s.heap.get? b=some o'->h'.get? b=some o')->
   h'.get? s.heap.objs.size=some {cls:= .type "list",dict:=none,data:= .seq its.toArray c',slots:= #[]}->EP X pins σ Q (.ref s.heap.objs.size) {s with heap:=h'}:=fun its r' hz h' c' kp e=>
  ⟨.ref s.heap.objs.size,_,I.laid (t':=s.toks) kp (lJg _) (show ObjOk X.prog X.w _ h' _ (.lst ys) from⟨hz,its,c',r',e⟩),rfl,q _ (I.hok.fresh (lJg _))⟩
 rcases hq with hq | hq
 ·obtain⟨its,r',pl,hz⟩:=I.list hq
  have hlen:=r'.length
  obtain⟨o,ho,hc,n,hd⟩:=pl.isList
  exact call_list_seq p (.inl rfl) ho hc hd (fun h' c' kp e=>fin its r' hz h' c' kp e) (by simp only[lJw]<;>omega)
 ·obtain⟨its,r',pl,hz⟩:=I.tuple hq
  have hlen:=r'.length
  obtain⟨o,ho,hc,n,hd⟩:=pl
  exact call_list_seq p (.inr rfl) ho hc hd (fun h' c' kp e=>fin its r' hz h' c' kp e) (by simp only[lJw]<;>omega)
theorem kK7:kUr X (.type "tuple") (fun xs H Q=>∃p ys,xs=[.ref p]/\((SqL X.K H p ys/\∀l,H l=none->Q (.ref l) (upd H l (.tup ys)))\/(SqT X.K H p ys/\Q (.ref p) H))):=by
 intro pins s σ H xs us Q I r h
 obtain⟨p,ys,rfl,h⟩:=h
 obtain⟨u,rfl,rx⟩:=kZ4 r
 cases rx
 rcases h with ⟨hq,q⟩ | ⟨hq,q⟩
 ·obtain⟨its,r',pl,hz⟩:=I.list hq
  have hlen:=r'.length
  refine call_tuple_list pl.isList (fun h' kp=> ?_) (by simp only[lJw]<;>omega)
  have I1:Inv X pins σ H {s with heap:=h'}:=I.kept (t':=s.toks) kp
  have I2:Inv X pins σ (upd H h'.objs.size (.tup ys)) {s with heap:=h'.push {cls:= .type "tuple",data:= .seq its.toArray} }:=
   I1.laid (t':=s.toks) (fun b o e=>lJk _ e) (lJg _) (show ObjOk X.prog X.w _ _ _ (.tup ys) from⟨hz,its,r',TupD.new _ _⟩)
  exact⟨.ref h'.objs.size,_,I2,rfl,q _ (I1.hok.fresh (lJg _))⟩
 ·obtain⟨its,r',pl,hz⟩:=I.tuple hq
  exact call_tuple_same pl ⟨.ref p,H,I,rfl,q⟩
def tyV (K:PySem.W.Frag) (T:String) (x:V) (H:Hp):Prop:=match x with
 | .str _=>T="str"
 | .int _=>T="int"
 | .ref p=>(T="list"/\∃xs,SqL K H p xs)\/(T="tuple"/\∃o,K.lookup p=some o/\o.cls= .type "tuple"/\o.dict=none)\/
   (T="dict"/\((∃kvs,H p=some (.dK kvs))\/∃kvs,H p=some (.dT kvs)))\/(T="set"/\∃S n,H p=some (.set S n))
 | _=>False
theorem tyV_is {pins:List (Addr×Obj)} {σ:St} {H:Hp} {s:Shared} {T:String} {x:V} {v:Value} (I:Inv X pins σ H s) (r:RelV x v) (ty:tyV X.K T x H):
  s.TypeIs v T/\∀a,v= .ref a->∃ob,s.heap.get? a=some ob/\ob.dict=none:=by
 cases x with
 | str z=>
  obtain⟨t,rfl⟩:=r
  cases (show T="str" from ty)
  exact⟨typeIs_str s z t,fun _ e=>nomatch e⟩
 | int i=>
  obtain⟨t,rfl⟩:=r
  cases (show T="int" from ty)
  exact⟨typeIs_int s i t,fun _ e=>nomatch e⟩
 | ref p=>
  cases r
  rcases ty with ⟨rfl,xs,hq⟩ | ⟨rfl,o,hk,hc,hd⟩ | ⟨rfl,hk⟩ | ⟨rfl,S,n,hk⟩
  ·obtain⟨its,_,pl,_⟩:=I.list hq
   refine⟨pl.isList.typeIs,fun a e=> ?_⟩
   cases e
   obtain⟨o,n,e,c,hd,_⟩:=pl
   exact⟨o,e,hd⟩
  ·refine⟨⟨o,I.kIn p o hk,hc⟩,fun a e=> ?_⟩
   cases e
   exact⟨o,I.kIn _ o hk,hd⟩
  ·have z:∃o,s.heap.get? p=some o/\o.ExactDict:=by
    rcases hk with ⟨kvs,hk⟩ | ⟨kvs,hk⟩
    ·obtain⟨_,_,_,_,o,_,_,e,ex,_⟩:=I.hok p _ hk
     exact⟨o,e,ex⟩
    ·obtain⟨_,_,_,_,o,_,_,e,ex,_⟩:=I.hok p _ hk
     exact⟨o,e,ex⟩
   obtain⟨o,e,ex⟩:=z
   refine⟨⟨o,e,ex.1⟩,fun a e2=> ?_⟩
   cases e2
   exact⟨o,e,ex.2.1⟩
  ·obtain⟨o,_,_,_,e,ex,_⟩:=I.hok p _ hk
   refine⟨⟨o,e,ex.1⟩,fun a e2=> ?_⟩
   cases e2
   exact⟨o,e,ex.2.1⟩
 | _=>exact False.elim ty
variable {o e:Expr} {es:List Expr} {to:TE} {t:TA} {name:Str} {apos cpos:Pos} {T id:String} {r:V->List V->Hp->VK->Prop}
end
def MtM (X:Cx) (id:String) (r:V->List V->Hp->VK->Prop):Prop:=
 ∀(pins:List (Addr×Obj)) (s:Shared) (σ:St) (H:Hp) (x:V) (xs:List V) (v:Value) (us:List Value) (Q:VK),Inv X pins σ H s->RelV x v->Vals xs us->r x xs H Q->
  wpAny (model X.prog X.w) X.A (call (.builtin id) (v::us)) (EP X pins σ Q) X.xe s
theorem Vals.one {x:V} {us:List Value} (h:Vals [x] us):∃u,us=[u]/\RelV x u:=by
 cases h with | cons r t=>(cases t;exact⟨_,rfl,r⟩)
theorem Vals.two {x y:V} {us:List Value} (h:Vals [x,y] us):∃u v,us=[u,v]/\RelV x u/\RelV y v:=by
 cases h with | cons r t=>(cases t with | cons q t=>(cases t;exact⟨_,_,rfl,r,q⟩))
theorem Vals.reverse {xs:List V} {us:List Value} (h:Vals xs us):Vals xs.reverse us.reverse:=by
 induction h with
 | nil=>exact .nil
 | cons r t ih=>rw[lXu,lXu];exact Vals.append ih (.cons r .nil)
theorem Vals.rep {xs:List V} {us:List Value} (h:Vals xs us):∀k:Nat,Vals (List.replicate k xs).flatten (List.replicate k us).flatten
 | 0=> .nil
 | k+1=>by
  rw[lXe,lXe,lXv,lXv]
  exact Vals.append h (Vals.rep h k)
theorem kQ0 (its:List Value):∀(k:Nat) (acc:List Value),
  List.foldl (fun x1 x2=>x1++x2) acc.toArray (List.replicate k its.toArray)=(acc++(List.replicate k its).flatten).toArray
 | 0,acc=>by simp
 | k+1,acc=>by
  have e:acc.toArray++its.toArray=(acc++its).toArray:=by simp
  have e2:(acc++its)++(List.replicate k its).flatten=acc++(List.replicate (k+1) its).flatten:=by
   rw[lXe,lXv,lJo]
  rw[<-e2,<-kQ0 its k (acc++its),<-e,lXe,lXf]
section
variable {X:Cx} {pins:List (Addr×Obj)} {σ:St} {H:Hp} {s:Shared} {l b:Addr} {xs ys zs:List V}
theorem Inv.lset {its its':List Value} {n:Nat} {f:Array Value->Array Value} {t':Nat} (I:Inv X pins σ H s) (hH:H l=some (.lst xs))
  (e:s.heap.get? l=some {cls:= .type "list",data:= .seq its.toArray n}) (hf:f its.toArray=its'.toArray) (hv:Vals ys its') (hz:ys.length<=sizeLine):
  Inv X pins σ (upd H l (.lst ys)) {s with heap:=s.heap.update l (Obj.mapSeq f),toks:=t'}:=by
 have q:=PySem.IsL.update e f
 rw[hf] at q
 refine I.write (x:=l) (e:=l) (by rw[hH];exact trivial) (.inl rfl) (fun b' u hb hu=>(lYn s.heap (Obj.mapSeq f) (Ne.symm hb)).trans hu) ⟨_,q⟩ ?_
 exact⟨hz,its',_,hv,q⟩
theorem Inv.lnew {its:List Value} {t':Nat} (I:Inv X pins σ H s) (hv:Vals ys its) (hz:ys.length<=sizeLine):
  Inv X pins σ (upd H s.heap.objs.size (.lst ys)) {s with heap:=s.heap.push {cls:= .type "list",data:= .seq its.toArray},toks:=t'}:=
 I.laid (fun _ _ q=>lJk _ q) (lJg _) ⟨hz,its,0,hv,lJ0 _ rfl⟩
theorem Inv.fresh (I:Inv X pins σ H s):H s.heap.objs.size=none:=I.hok.fresh (lJg _)
theorem Inv.lstM (I:Inv X pins σ H s) (hH:H l=some (.lst xs)):xs.length<=sizeLine/\∃(its:List Value) (n:Nat),Vals xs its/\xs.length=its.length/\s.heap.get? l=some {cls:= .type "list",data:= .seq its.toArray n}:=by
 obtain⟨z,its,n,r,e⟩:=I.hok l _ hH
 exact⟨z,its,n,r,r.length,e⟩
theorem qVo {n:Nat} (h:n<=sizeLine):Builtin.List.listTooLong n=false:=by
 unfold Builtin.List.listTooLong
 exact lJv (by omega)
end
section
variable {X:Cx}
def jKq:V->List V->Hp->VK->Prop:=fun x vs H Q=>∃l xs y,x= .ref l/\vs=[y]/\H l=some (.lst xs)/\xs.length<sizeLine/\Q .non (upd H l (.lst (xs++[y])))
theorem qKx:MtM X "list.append" jKq:=by
 intro pins s σ H x vs v us Q I rx rv h
 obtain⟨l,xs,y,rfl,rfl,hH,hz,q⟩:=h
 cases rx
 obtain⟨u,rfl,ru⟩:=rv.one
 obtain⟨z,its,n,r,hl,e⟩:=I.lstM hH
 refine call_meets F.slot_list_append ⟨_,e,rfl⟩ F.entry_list_append (F.args_list_append_2 _ _) (PySem.list_append l its.toArray n u (by rw[lJw];omega)) ⟨e,?_⟩
 refine⟨.non,_,I.lset (its':=its++[u]) hH e (by simp) (r.append (.cons ru .nil)) ?_,rfl,q⟩
 rw[lKc,List.length_singleton]
 omega
noncomputable def rCat:R2:=fun x y H Q=>∃l b xs zs,x= .ref l/\y= .ref b/\H l=some (.lst xs)/\H b=some (.lst zs)/\xs.length+zs.length<=sizeLine/\∀p,H p=none->Q (.ref p) (upd H p (.lst (xs++zs)))
theorem op_cat:OpR X (binaryOp .Add) rCat:=by
 intro pins s σ H x y v u Q I rx ry h
 obtain⟨l,b,xs,zs,rfl,rfl,hH,hB,hz,q⟩:=h
 cases rx
 cases ry
 obtain⟨z,its,n,r,hl,e⟩:=I.lstM hH
 obtain⟨z2,its2,n2,r2,hl2,e2⟩:=I.lstM hB
 refine PySem.P.add_list e e2 ?_ (by rw[lJw,lJw];omega)
 have ea:its.toArray++its2.toArray=(its++its2).toArray:=by simp
 rw[ea]
 exact⟨.ref _,_,I.lnew (t':=s.toks) (r.append r2) (by rw[lKc];omega),rfl,q _ I.fresh⟩
noncomputable def rRep:R2:=fun x y H Q=>∃l k xs,x= .ref l/\y= .int k/\H l=some (.lst xs)/\ -(2^63)<=k/\k<2^63/\xs.length*k.toNat<=sizeLine/\
 ∀p,H p=none->Q (.ref p) (upd H p (.lst (List.replicate k.toNat xs).flatten))
theorem qZq {α:Type} (xs:List α) (k:Nat):(List.replicate k xs).flatten.length=k*xs.length:=by
 induction k with
 | zero=>simp
 | succ k ih=>rw[lXe,lXv,lKc,ih,Nat.succ_mul,lXg]
theorem op_rep:OpR X (binaryOp .Mult) rRep:=by
 intro pins s σ H x y v u Q I rx ry h
 obtain⟨l,k,xs,rfl,rfl,hH,h1,h2,hz,q⟩:=h
 cases rx
 obtain⟨t,rfl⟩:=ry
 obtain⟨z,its,n,r,hl,e⟩:=I.lstM hH
 have hlen:its.toArray.size*k.toNat<=sizeLine:=by rw[lJw,<-hl];exact hz
 have hcap:¬ its.toArray.size*k.toNat>(2^63-1) / 8:=by
  have:(sizeLine:Nat)<=(2^63-1) / 8:=by decide
  omega
 have hfit:¬ (!Builtin.List.listFitsIndex k)=true:=by
  rw[fitsIndex_both h1 h2]
  exact lJs
 have hlong:¬ Builtin.List.listTooLong (its.toArray.size*k.toNat)=true:=by
  rw[qVo hlen]
  exact lJs
 have hnew:List.foldl (fun x1 x2=>x1++x2) #[] (List.replicate (if its.toArray.isEmpty=true then 0 else k.toNat) its.toArray)=(List.replicate k.toNat its).flatten.toArray:=by
  have f0:∀m:Nat,List.foldl (fun x1 x2=>x1++x2) #[] (List.replicate m its.toArray)=(List.replicate m its).flatten.toArray:=fun m=>by
   have:=kQ0 its m []
   rw[List.nil_append] at this
   exact this
  rw[f0]
  cases its with
  | nil=>simp
  | cons a r'=>rw[lJb (by simp)]
 refine wpAny_binaryOp_repeat_ref (T:="list") (U:="int") (by decide) ⟨_,e,rfl⟩ (fun s'=>typeIs_int s' k t) noFill_list_mul F.fills_int_mul F.slot_int_rmul repeat_list F.slot_int_index.lookup
  (call_meets F.slot_int_rmul (typeIs_int s k t) F.entry_int_rmul (F.args_int_rmul_2 _ _) (int___rmul___int_list k t l its.toArray n)
   ⟨e,rfl,⟨_,e,rfl⟩,call_meets F.slot_list_mul ⟨_,e,rfl⟩ F.entry_list_mul (F.args_list_mul_2 _ _) (AutoListH.list___mul___list_int_3 l its.toArray n k t hfit hcap hlong) ⟨e,?_⟩⟩)
 rw[hnew]
 exact⟨.ref _,_,I.lnew (t':=s.toks) (r.rep k.toNat) (by rw[qZq,Nat.mul_comm];exact hz),rfl,q _ I.fresh⟩
end
section
variable {prog:Program} {w:World} {A:Around} {E:Value->Shared->Prop} {s:Shared}
end
section
variable {X:Cx}
end
section
variable {κ:Type} [DecidableEq κ]
def valV (kvs:List (κ×V)) (k:κ):Option V:=(kvs.find? fun kv=>decide (kv.1=k)).map (·.2)
def putK (kvs:List (κ×V)) (k:κ) (v:V):List (κ×V):=
 if (kvs.any fun kv=>decide (kv.1=k))=true then kvs.map (fun kv=>if kv.1=k then (kv.1,v) else kv) else kvs++[(k,v)]
theorem jYt {p:κ×V} {r:List (κ×V)} {k:κ} (e:p.1=k):valV (p::r) k=some p.2:=by simp[valV,lQ5,e]
theorem jYu {p:κ×V} {r:List (κ×V)} {k:κ} (e:¬ p.1=k):valV (p::r) k=valV r k:=by simp[valV,lQ5,e]
theorem kXa (k:κ):∀kvs:List (κ×V),(kvs.any fun kv=>decide (kv.1=k))=(valV kvs k).isSome
 | []=>rfl
 | p::r=>by
  rw[lQ4]
  by_cases e:p.1=k
  ·simp only[jYt e,lJ4 e,Bool.true_or,Option.isSome_some]
  ·rw[jYu e,lJv e,Bool.false_or];exact kXa k r
theorem jZw (kvs:List (κ×V)) (k:κ) (v:V):(putK kvs k v).length<=kvs.length+1:=by
 unfold putK
 split
 ·rw[lJf];omega
 ·rw[lKc,lJ5,lQp];omega
theorem RelO.isSome_eq {o:Option V} {u:Option Value} (r:RelO o u):o.isSome=u.isSome:=by
 cases o with
 | none=>cases u with
  | none=>rfl
  | some _=>exact (show False from r).elim
 | some _=>cases u with
  | none=>exact (show False from r).elim
  | some _=>rfl
theorem KV.val {kvs:List (κ×V)} {vs:List (κ×Value)} (r:KV kvs vs) (k:κ):RelO (valV kvs k) (valueAt vs k):=by
 unfold KV at r
 induction r with
 | nil=>exact True.intro
 | @cons p q ps qs h t ih=>
  obtain⟨h1,h2⟩:=h
  by_cases e:p.1=k
  ·have e':q.1=k:=h1.symm.trans e
   have b:valueAt (q::qs) k=some q.2:=by simp[valueAt,lQ5,e']
   rw[jYt e,b];exact h2
  ·have e':¬ q.1=k:=fun z=>e (h1.trans z)
   have b:valueAt (q::qs) k=valueAt qs k:=by simp[valueAt,lQ5,e']
   rw[jYu e,b];exact ih
theorem KV.any {kvs:List (κ×V)} {vs:List (κ×Value)} (r:KV kvs vs) (k:κ):(kvs.any fun kv=>decide (kv.1=k))=vs.any fun kv=>decide (kv.1=k):=by
 unfold KV at r
 induction r with
 | nil=>rfl
 | cons h t ih=>rw[lQ4,lQ4,ih,h.1]
theorem KV.repl {kvs:List (κ×V)} {vs:List (κ×Value)} (r:KV kvs vs) (k:κ) {y:V} {u:Value} (ry:RelV y u):
  KV (kvs.map fun kv=>if kv.1=k then (kv.1,y) else kv) (vs.map fun kv=>if kv.1=k then (kv.1,u) else kv):=by
 unfold KV at r ⊢
 induction r with
 | nil=>exact .nil
 | @cons p q ps qs h t ih=>
  rw[lJq,lJq]
  refine .cons ?_ ih
  obtain⟨h1,h2⟩:=h
  by_cases e:p.1=k
  ·rw[lJc e,lJc (h1.symm.trans e)];exact⟨h1,ry⟩
  ·rw[lJb e,lJb (fun z=>e (h1.trans z))];exact⟨h1,h2⟩
theorem KV.put {kvs:List (κ×V)} {vs:List (κ×Value)} (r:KV kvs vs) (k:κ) {y:V} {u:Value} (ry:RelV y u):KV (putK kvs k y) (stored vs k u):=by
 unfold putK stored
 rw[r.any k]
 by_cases e:(vs.any fun kv=>decide (kv.1=k))=true
 ·rw[lJc e,lJc e];exact r.repl k ry
 ·rw[lJb e,lJb e];exact Paired.snoc r ⟨rfl,ry⟩
theorem KV.length {kvs:List (κ×V)} {vs:List (κ×Value)} (r:KV kvs vs):kvs.length=vs.length:=lQn r
end
theorem kQx {P:Program} {w:World} {k:Key} {u:Value} (r:RelV (kV k) u):(jJ4 P w).is k u=true:=by
 cases k with
 | inl i=>obtain⟨t,e⟩:=(show ∃t,u=Value.int i t from r);subst e;exact jZu P w i t
 | inr x=>obtain⟨t,e⟩:=(show ∃t,u=Value.str x t from r);subst e;exact kVn P w x t
abbrev KT (H:Hp):List (TKey×V)->List (TKey×Addr×Value)->Prop:=Paired fun p q=>p.1=q.1/\TKeyAt H p.1 q.2.1/\RelV p.2 q.2.2
theorem KT.val {H:Hp} {kvs:List (TKey×V)} {xs:List (TKey×Addr×Value)} (r:KT H kvs xs) (k:TKey):RelO (valV kvs k) ((atKey xs k).map (·.2)):=by
 induction r with
 | nil=>exact True.intro
 | @cons p q ps qs h t ih=>
  obtain⟨h1,_,h2⟩:=h
  by_cases e:p.1=k
  ·have e':q.1=k:=h1.symm.trans e
   have b:atKey (q::qs) k=some q.2:=by simp[atKey,lQ5,e']
   rw[jYt e,b];exact h2
  ·have e':¬ q.1=k:=fun z=>e (h1.trans z)
   have b:atKey (q::qs) k=atKey qs k:=by simp[atKey,lQ5,e']
   rw[jYu e,b];exact ih
theorem KT.repl {H:Hp} {kvs:List (TKey×V)} {xs:List (TKey×Addr×Value)} (r:KT H kvs xs) (k:TKey) {y:V} {u:Value} (ry:RelV y u):
  KT H (kvs.map fun kv=>if kv.1=k then (kv.1,y) else kv) (xs.map (putAt k u)):=by
 induction r with
 | nil=>exact .nil
 | @cons p q ps qs h t ih=>
  rw[lJq,lJq]
  refine .cons ?_ ih
  obtain⟨h1,h2,h3⟩:=h
  unfold putAt
  by_cases e:p.1=k
  ·rw[lJc e,lJc (h1.symm.trans e)];exact⟨h1,h2,ry⟩
  ·rw[lJb e,lJb (fun z=>e (h1.trans z))];exact⟨h1,h2,h3⟩
theorem KT.put {H:Hp} {kvs:List (TKey×V)} {xs:List (TKey×Addr×Value)} (r:KT H kvs xs) (k:TKey) {b:Addr} {y:V} {u:Value} (hb:TKeyAt H k b) (ry:RelV y u):
  KT H (putK kvs k y) (storedH xs k b u):=by
 have e:(kvs.any fun kv=>decide (kv.1=k))=(atKey xs k).isSome:=by
  rw[kXa,(r.val k).isSome_eq,lXw]
 unfold putK storedH
 rw[e]
 by_cases q:(atKey xs k).isSome=true
 ·rw[lJc q,lJc q];exact r.repl k ry
 ·rw[lJb q,lJb q];exact Paired.snoc r ⟨rfl,hb,ry⟩
theorem KT.keeps {H H':Hp} {kvs:List (TKey×V)} {xs:List (TKey×Addr×Value)} (r:KT H kvs xs) (ht:∀b ys,H b=some (.tup ys)->H' b=some (.tup ys)):KT H' kvs xs:=
 Paired.mapP r fun _ _ z=>⟨z.1,z.2.1.mono ht,z.2.2⟩
section
variable {P:Program} {w:World} {H:Hp} {h:Heap} {a:Addr}
theorem qU9 {u:HO} (ok:HOk P w H h) (e:Rd H a u):ObjOk P w H h a u:=e.ok ok
theorem qQ8 {kvs:List (Key×V)} (ok:HOk P w H h) (e:Rd H a (.dK kvs)):kvs.length<=sizeLine/\(a == sysModules)=false/\∃vs,KV kvs vs/\h.DictOf (jJ4 P w) a vs:=
 show ObjOk P w H h a (.dK kvs) from qU9 ok e
theorem dk_of {kvs:List (Key×V)} (ok:HOk P w H h) (e:H a=some (.dK kvs)):kvs.length<=sizeLine/\(a == sysModules)=false/\∃vs,KV kvs vs/\h.DictOf (jJ4 P w) a vs:=qQ8 ok (.inl e)
theorem kYa {K:Type} [DecidableEq K] {c:Nat} {T:KeyV P w K c} {R:K->V->Prop} (hR:∀k x u,R k x->RelV x u->T.is h k u):∀ {ks:List K} {xs:List V} {us:List Value},Paired R ks xs->Vals xs us->ItemsV T h ks us
 | _,_,_,.nil,.nil=> .nil
 | _,_,_,.cons r t,.cons q z=> .cons (hR _ _ _ r q) (kYa hR t z)
theorem kUv {K:Type} [DecidableEq K] {c:Nat} {T:KeyV P w K c} {R:K->V->Prop} {ks:List K} {xs:List V} {p:Addr} (ok:HOk P w H h) (hR:∀k x u,R k x->RelV x u->T.is h k u) (e:H p=some (.tup xs)) (r:Paired R ks xs):kJe T h ks (.ref p):=by
 obtain⟨_,its,q,o,h1,h2,n,h3,_⟩:=(show ObjOk P w H h p (.tup xs) from ok p _ e)
 exact⟨p,o,its.toArray,n,rfl,h1,h2,h3,by simpa using kYa hR r q⟩
theorem r1_of (ok:HOk P w H h) (k:K1) (x:V) (u:Value) (r:Rk1 H k x) (q:RelV x u):(vk1 P w).is h k u:=by
 cases k with
 | inl k=>cases (show x=kV k from r);exact kQx (P:=P) (w:=w) q
 | inr ks=>
  obtain⟨p,vs,rfl,e,t⟩:=(show ∃p vs,x= .ref p/\H p=some (.tup vs)/\Paired (fun k v=>v=kV k) ks vs from r)
  cases (show u=Value.ref p from q)
  exact kUv (T:=kJ7 P w) ok (fun k x u r q=>by subst r;exact kQx (P:=P) (w:=w) q) e t
theorem r2_of (ok:HOk P w H h) (k:K2) (x:V) (u:Value) (r:Rk2 H k x) (q:RelV x u):(vk2 P w).is h k u:=by
 cases k with
 | inl k=>cases (show x=kV k from r);exact kQx (P:=P) (w:=w) q
 | inr ks=>
  obtain⟨p,vs,rfl,e,t⟩:=(show ∃p vs,x= .ref p/\H p=some (.tup vs)/\Paired (Rk1 H) ks vs from r)
  cases (show u=Value.ref p from q)
  exact kUv (T:=vk1 P w) ok (r1_of ok) e t
theorem jYl {ks:TKey} (ok:HOk P w H h) (e:TKeyAt H ks a):(jJn P w).is h ks a:=by
 obtain⟨vs,h1,t⟩:=e
 exact kUv (T:=vk2 P w) ok (r2_of ok) h1 t
theorem kZt {kvs:List (TKey×V)} (ok:HOk P w H h) (e:Rd H a (.dT kvs)):kvs.length<=sizeLine/\(a == sysModules)=false/\
  ∃xs,KT H kvs xs/\h.DictOfH (jJn P w) a xs:=by
 obtain⟨z,y,xs,r,o,es,ep,h1,h2,h3,h4,h5⟩:=(show ObjOk P w H h a (.dT kvs) from qU9 ok e)
 refine⟨z,y,xs,r,o,es,ep,h1,h2,h3,h4,fun x hx=> ?_,h5⟩
 have all:∀ {l:List (TKey×V)} {m:List (TKey×Addr×Value)},KT H l m->∀x∈m,(jJn P w).is h x.1 x.2.1:=by
  intro l m q
  induction q with
  | nil=>intro x hx;exact nomatch hx
  | @cons p q ps qs hq t ih=>
   intro x hx
   rcases (lJr.mp hx) with e | hx
   ·subst e
    exact jYl ok (by rw[<-hq.1];exact hq.2.1)
   ·exact ih x hx
 exact all r x hx
theorem dt_of {kvs:List (TKey×V)} (ok:HOk P w H h) (e:H a=some (.dT kvs)):kvs.length<=sizeLine/\(a == sysModules)=false/\
  ∃xs,KT H kvs xs/\h.DictOfH (jJn P w) a xs:=kZt ok (.inl e)
end
def DGet (H:Hp) (a:Addr) (y:V) (r:Option V):Prop:=
 (∃kvs k,Rd H a (.dK kvs)/\y=kV k/\r=valV kvs k)\/∃kvs k b,Rd H a (.dT kvs)/\y= .ref b/\TKeyAt H k b/\r=valV kvs k
def DPut (H:Hp) (a:Addr) (y v:V) (H':Hp):Prop:=
 (∃kvs k,H a=some (.dK kvs)/\y=kV k/\kvs.length<sizeLine/\H'=upd H a (.dK (putK kvs k v)))\/
 ∃kvs k b,H a=some (.dT kvs)/\y= .ref b/\TKeyAt H k b/\kvs.length<sizeLine/\H'=upd H a (.dT (putK kvs k v))
theorem DGet.k {H:Hp} {a:Addr} {kvs:List (Key×V)} {k:Key} (e:H a=some (.dK kvs)):DGet H a (kV k) (valV kvs k):= .inl ⟨kvs,k,.inl e,rfl,rfl⟩
theorem DGet.t {H:Hp} {a b:Addr} {kvs:List (TKey×V)} {k:TKey} (e:H a=some (.dT kvs)) (eb:TKeyAt H k b):DGet H a (.ref b) (valV kvs k):= .inr ⟨kvs,k,b,.inl e,rfl,eb,rfl⟩
theorem DPut.k {H:Hp} {a:Addr} {kvs:List (Key×V)} {k:Key} {v:V} (e:H a=some (.dK kvs)) (hl:kvs.length<sizeLine):DPut H a (kV k) v (upd H a (.dK (putK kvs k v))):= .inl ⟨kvs,k,e,rfl,hl,rfl⟩
theorem DPut.t {H:Hp} {a b:Addr} {kvs:List (TKey×V)} {k:TKey} {v:V} (e:H a=some (.dT kvs)) (eb:TKeyAt H k b) (hl:kvs.length<sizeLine):
  DPut H a (.ref b) v (upd H a (.dT (putK kvs k v))):= .inr ⟨kvs,k,b,e,rfl,eb,hl,rfl⟩
section
variable {X:Cx} {pins:List (Addr×Obj)} {σ:St} {H:Hp} {s:Shared} {a:Addr} {y v:V} {u r:Value} {o:Option V} {A:Around} {E:Value->Shared->Prop}
theorem Inv.big (I:Inv X pins σ H s):sysModules<s.heap.objs.size:=by
 have h:mainGlobals<s.heap.objs.size:=(I.mod.glob.keeps I.bk).lt
 exact lQ6 (by decide) h
theorem qQ9 {Q:Value->Shared->Prop} (hu:A.units+20<cLine) (I:Inv X pins σ H s) (g:DGet H a y (some v)) (ry:RelV y u) (h:∀w' s',Inv X pins σ H s'->RelV v w'->Q w' s'):
  wpAny (model X.prog X.w) A (getItem (.ref a) u) Q E s:=by
 rcases g with ⟨kvs,k,e,ey,l⟩ | ⟨kvs,k,b,e,ey,eb,l⟩
 ·subst ey
  obtain⟨z,hd,vs,rel,dd⟩:=qQ8 I.hok e
  obtain⟨w',hw,rw'⟩:=RelO.some_of (v:=v) (o:=valueAt vs k) (by rw[l];exact rel.val k)
  exact wpAny_getItem_of (kQx ry) dd.mapOf hw (h w' _ (I.tok _) rw')
 ·subst ey
  cases (show u=Value.ref b from ry)
  obtain⟨z,hd,xs,rel,dd⟩:=kZt I.hok e
  obtain⟨w',hw,rw'⟩:=RelO.some_of (v:=v) (o:=(atKey xs k).map (·.2)) (by rw[l];exact rel.val k)
  obtain⟨p,hp,hp2⟩:=lQ7.mp hw
  refine wpAny_getItem_heap (jKc hu) (jYl I.hok eb) dd hp ?_
  rw[hp2]
  exact h w' _ (I.tok _) rw'
theorem d_in {Q:Value->Shared->Prop} (hu:A.units+20<cLine) (I:Inv X pins σ H s) (g:DGet H a y o) (ry:RelV y u) (h:∀s',Inv X pins σ H s'->Q (.bool o.isSome) s'):
  wpAny (model X.prog X.w) A (compareOp .In u (.ref a)) Q E s:=by
 rcases g with ⟨kvs,k,e,ey,l⟩ | ⟨kvs,k,b,e,ey,eb,l⟩
 ·subst ey
  obtain⟨z,hd,vs,rel,dd⟩:=qQ8 I.hok e
  refine wpAny_in_of (kQx ry) hd dd.mapOf ?_
  rw[<-(rel.val k).isSome_eq,<-l]
  exact h _ (I.tok _)
 ·subst ey
  cases (show u=Value.ref b from ry)
  obtain⟨z,hd,xs,rel,dd⟩:=kZt I.hok e
  refine wpAny_in_heap (jKc hu) (jYl I.hok eb) hd dd ?_
  have q:=(rel.val k).isSome_eq
  rw[lXw] at q
  rw[<-q,<-l]
  exact h _ (I.tok _)
theorem uJs {Q:Value->Shared->Prop} (hu:A.units+20<cLine) (I:Inv X pins σ H s) (g:DGet H a y o) (ry:RelV y u) (h:∀s',Inv X pins σ H s'->Q (.bool (!o.isSome)) s'):
  wpAny (model X.prog X.w) A (compareOp .NotIn u (.ref a)) Q E s:=by
 rcases g with ⟨kvs,k,e,ey,l⟩ | ⟨kvs,k,b,e,ey,eb,l⟩
 ·subst ey
  obtain⟨z,hd,vs,rel,dd⟩:=qQ8 I.hok e
  refine wpAny_notIn_of (kQx ry) hd dd.mapOf ?_
  rw[<-(rel.val k).isSome_eq,<-l]
  exact h _ (I.tok _)
 ·subst ey
  cases (show u=Value.ref b from ry)
  obtain⟨z,hd,xs,rel,dd⟩:=kZt I.hok e
  refine wpAny_notIn_heap (jKc hu) (jYl I.hok eb) hd dd ?_
  have q:=(rel.val k).isSome_eq
  rw[lXw] at q
  rw[<-q,<-l]
  exact h _ (I.tok _)
theorem kK5 {h':Heap} {t':Nat} {ob:HO} (I:Inv X pins σ H s) (mu:Mut (H a)) (hs:Heap.SameBut a s.heap h') (he:∃q,h'.get? a=some q) (new:ObjOk X.prog X.w (upd H a ob) h' a ob):
  Inv X pins σ (upd H a ob) {s with heap:=h',toks:=t'}:=
 I.write (x:=a) (e:=a) mu (.inl rfl) (fun b q hb z=>(hs.2 b hb).trans z) he new
theorem qYl {P:Program} {w:World} {H':Hp} {h':Heap} {kvs:List (Key×V)} {vs:List (Key×Value)} (z:kvs.length<=sizeLine) (hd:(a == sysModules)=false) (rel:KV kvs vs) (dd:h'.DictOf (jJ4 P w) a vs):
  ObjOk P w H' h' a (.dK kvs):=⟨z,hd,vs,rel,dd⟩
theorem kQ6 {H':Hp} {Q:Unit->Shared->Prop} (hu:A.units+20<cLine) (I:Inv X pins σ H s) (g:DPut H a y v H') (ry:RelV y u) (rv:RelV v r) (h:∀s',Inv X pins σ H' s'->Q () s'):
  wpAny (model X.prog X.w) A (setItem (.ref a) u r) Q E s:=by
 rcases g with ⟨kvs,k,e,ey,l,eH⟩ | ⟨kvs,k,b,e,ey,eb,l,eH⟩
 ·subst ey eH
  obtain⟨z,hd,vs,rel,dd⟩:=dk_of I.hok e
  have hz:vs.length<=sizeLine:=by rw[<-rel.length];exact z
  have hl:(putK kvs k v).length<=sizeLine:=by have:=jZw kvs k v;omega
  refine wpAny_setItem_pairs (hsz:=hz) (kQx ry) dd fun h' dd' hs=>h _ ?_
  have he:∃q,h'.get? a=some q:=let ⟨q,_,_,hq,_⟩:=dd';⟨q,hq⟩
  exact kK5 I (by rw[e];exact True.intro) hs he (qYl hl hd (rel.put k rv) dd')
 ·subst ey eH
  cases (show u=Value.ref b from ry)
  obtain⟨z,hd,xs,rel,dd⟩:=dt_of I.hok e
  have hz:xs.length<=sizeLine:=by rw[<-lQn rel];exact z
  have hl:(putK kvs k v).length<=sizeLine:=by have:=jZw kvs k v;omega
  refine wpAny_setItem_heap (hsz:=hz) (jKc hu) (jYl I.hok eb) dd fun h' dd' hs=>h _ ?_
  obtain⟨q,es,ep,hq,h2,h3,h4,_,h5⟩:=dd'
  refine kK5 I (by rw[e];exact True.intro) hs ⟨q,hq⟩ ⟨hl,hd,_,(rel.put k eb rv).keeps fun c ys ec=> ?_,q,es,ep,hq,h2,h3,h4,h5⟩
  rw[jJ1 (ne_of ec e (fun z=>nomatch z))]
  exact ec
end
section
variable {X:Cx} {pins:List (Addr×Obj)} {σ:St} {H:Hp} {s:Shared} {a:Addr} {kvs:List (Key×V)} {k:Key} {u:Value} {A:Around} {E:Value->Shared->Prop}
end
theorem kV3 {X:Cx} {pins:List (Addr×Obj)} {σ:St} {H:Hp} {s:Shared} {a:Addr} {y:V} {o:Option V} (I:Inv X pins σ H s) (g:DGet H a y o):s.TypeIs (.ref a) "dict":=by
 rcases g with ⟨kvs,k,e,_,_⟩ | ⟨kvs,k,b,e,_,_,_⟩
 ·obtain⟨_,_,vs,_,dd⟩:=qQ8 I.hok e
  exact dd.typeIs
 ·obtain⟨_,_,xs,_,dd⟩:=kZt I.hok e
  exact dd.typeIs
section
variable {X:Cx} {o i e value:Expr} {pos pos' tpos:Pos} {td ty tv:TE}
end
theorem kYo {P:Program} {w:World} {H:Hp} (h:Heap) (hb:sysModules<h.objs.size):ObjOk P w H (h.push {cls:= .type "dict",data:= .dict #[]}) h.objs.size (.dK []):=
 ⟨lJz _,beq_eq_false_iff_ne.mpr (Ne.symm (lJm hb)),[],.nil,Heap.DictOf.new h⟩
theorem qXg {P:Program} {w:World} {H:Hp} (h:Heap) (hb:sysModules<h.objs.size):ObjOk P w H (h.push {cls:= .type "dict",data:= .dict #[]}) h.objs.size (.dT []):=
 ⟨lJz _,beq_eq_false_iff_ne.mpr (Ne.symm (lJm hb)),[],.nil,_,#[],0,lJ0 _ rfl,⟨rfl,rfl,rfl⟩,rfl,rfl,lVl⟩
def tDNewK:TE:=fun _ H Q=>∀p,H p=none->Q (.ref p) (upd H p (.dK []))
def tDNewT:TE:=fun _ H Q=>∀p,H p=none->Q (.ref p) (upd H p (.dT []))
section
variable {X:Cx} {pos:Pos}
theorem qVi:PE X (.Dict [] [] pos) tDNewK:=fun pins s σ H Q I h=>
 wpAny_Dict_empty ⟨.ref s.heap.objs.size,_,I.laid (a:=s.heap.objs.size) (o:= .dK []) (t':=s.toks) (fun _ _ q=>lJk _ q) (lJg _) (kYo s.heap I.big),rfl,h _ (I.hok.fresh (lJg _))⟩
theorem qVh:PE X (.Dict [] [] pos) tDNewT:=fun pins s σ H Q I h=>
 wpAny_Dict_empty ⟨.ref s.heap.objs.size,_,I.laid (a:=s.heap.objs.size) (o:= .dT []) (t':=s.toks) (fun _ _ q=>lJk _ q) (lJg _) (qXg s.heap I.big),rfl,h _ (I.hok.fresh (lJg _))⟩
end
abbrev VV:List (V×V)->List (Value×Value)->Prop:=Paired fun p q=>RelV p.1 q.1/\RelV p.2 q.2
def mergeK (kvs more:List (Key×V)):List (Key×V):=more.foldl (fun acc kv=>putK acc kv.1 kv.2) kvs
theorem KV.merge:∀ {more:List (Key×V)} {rs:List (Key×Value)} {kvs:List (Key×V)} {vs:List (Key×Value)},KV more rs->KV kvs vs->KV (mergeK kvs more) (merged vs rs):=by
 intro more rs kvs vs r
 unfold KV at r
 induction r generalizing kvs vs with
 | nil=>intro q;exact q
 | @cons p q ps qs h t ih=>
  intro r0
  have e:KV (putK kvs p.1 p.2) (stored vs q.1 q.2):=by
   have:=r0.put p.1 h.2
   rw[<-h.1];exact this
  exact ih e
theorem kJ6 {P:Program} {w:World}:∀ {kvs:List (Key×V)} {ws:List (Value×Value)},VV (kvs.map fun kv=>(kV kv.1,kv.2)) ws->∃rs,Carries (jJ4 P w) ws rs/\KV kvs rs
 | [],_,r=>by rw[List.map_nil] at r;cases r;exact⟨[],True.intro,.nil⟩
 | p::kvs,_,r=>by
  rw[lJq] at r
  cases r with
  | @cons a b as bs h t=>
   obtain⟨rs,c,q⟩:=kJ6 (P:=P) (w:=w) t
   obtain⟨b1,b2⟩:=b
   exact⟨(p.1,b2)::rs,⟨kQx h.1,rfl,c⟩,.cons ⟨rfl,h.2⟩ q⟩
section
variable {X:Cx} {pins:List (Addr×Obj)} {σ:St} {H:Hp} {s:Shared} {a:Addr} {y d:V} {u r:Value} {o:Option V} {A:Around} {E:Value->Shared->Prop}
end
section
variable {X:Cx} {o e f:Expr} {apos cpos:Pos} {td ty tx:TE}
end
section
variable {X:Cx} {pins:List (Addr×Obj)} {σ:St} {H:Hp} {s:Shared} {a:Addr} {kvs:List (Key×V)} {A:Around} {E:Value->Shared->Prop}
end
section
variable {X:Cx} {pins:List (Addr×Obj)} {σ:St} {H:Hp} {s:Shared} {a:Addr} {y:V} {u:Value} {A:Around} {E:Value->Shared->Prop}
end
end L2
namespace Att
open PySem PySem.W PySem.Calls PyProof.Rows
theorem jZx {P:Params} {h:Heap}:∀(ns:List Int) (vs:List Value),WellAll P h vs (ns.map WData.int)->IntsAre vs ns:=by
 intro ns
 induction ns with
 | nil=>
  intro vs w
  rw[List.map_nil] at w
  cases w
  exact .nil
 | cons n ns ih=>
  intro vs w
  rw[lJq] at w
  cases w with
  | cons a b=>
   cases a
   exact .cons _ _ (ih _ b)
theorem qJs {l:OpenLaw} {n:Nat} (hn:l.most=some n) {P:Params} {h:Heap} {args:List WData} {vals:List Value}
  (hpre:l.row.toRowW.claim.pre args=true) (hwl:WellAll P h vals args):
  ∃a vs ns,vals=[Value.ref a]/\args=[WData.list (ns.map WData.int)]/\h.get? a=some {cls:= .type "list",data:= .seq vs.toArray}/\IntsAre vs ns/\ns.length<=n:=by
 have hsh:WShape.hasAll [] args [.list .int]=true:=(pre_splitW hpre).1
 have hc:l.pre.holds [] {args:=args}=true:=(pre_splitW hpre).2
 obtain⟨d,r,rfl,h1,h2⟩:=hasAllW_cons hsh
 obtain rfl:=hasAllW_nil h2
 obtain⟨xs,rfl,h3⟩:=hasW_list h1
 obtain⟨ns,rfl⟩:=items_int h3
 have hlen:ns.length<=n:=by
  unfold OpenLaw.pre at hc
  have h4:(WTm.not (.lt (.lit (.int (n:Int))) (.len (.arg 0)))).holds [] {args:=[.list (ns.map .int)]}=true:=by
   have h4:=(holds_andW hc).1
   rw[hn] at h4
   exact h4
  have h5:=condW_of h4 (w_not (w_lt w_lit (w_len_list (w_arg rfl))))
  rw[lJf] at h5
  refine Nat.le_of_not_lt fun q=> ?_
  have q':(n:Int)<((ns.length:Nat):Int):=by omega
  first
   | (rw[lJ4 q'] at h5;exact absurd h5 (by decide))
   | (simp at h5;omega)
 cases hwl with
 | cons w1 w2=>
  cases w2
  cases w1 with
  | list ho hall=>exact⟨_,_,ns,rfl,rfl,ho,jZx ns _ hall,hlen⟩
theorem qKb (l:OpenLaw) (args:List WData):l.row.toRowW.claim.post args (.bool true) args=true:=
 postW_of (r:=l.row.toRowW) (X:=(true == true))
  (show WShape.has [] (.bool true) .bool=true by first | rfl | decide | simp[WShape.has,WShape.arms,WShape.armsAll])
  (show (WTm.eq .res (.lit (.bool true))).value [] {args:=args,res:=some (.bool true),after:=args}=some (.bool (true == true)) from w_eq_bool (w_res rfl) w_lit) rfl
theorem attach_call {l:OpenLaw} {n:Nat} {q:Program} {loose:List Str} {XP:(Str->Option Value)->Heap->Prop} {YP:World->Heap->Prop} {d:DefRec}
  (hn:l.most=some n) (hdf:d.params.defaults=[])
  (call:∀(w:World) (s₀ s₁:Shared) (mg mb:Str->Option Value) (fa:Addr) (o:Obj) (pm cd doc:Value) (a:Addr) (vs:List Value) (ns:List Int),
   Ground q loose [] XP w s₀ mg mb s₁.heap->YP w s₁.heap->
   s₁.heap.get? fa=some o->o.data= .func (docDef d.name d.params d.body d.scope pm cd doc)->s₁.heap.CodeRec cd d.name->mg d.name=some (.ref fa)->
   s₁.heap.get? a=some {cls:= .type "list",data:= .seq vs.toArray}->IntsAre vs ns->ns.length<=n->s₁.gens= #[]->
   codeAny (model l.prog w) callerA (.call (.ref fa) ⟨[.ref a],[]⟩) (fun r s'=>r= .ok (.ret (.bool true))/\OldK s₁.heap s'.heap/\s'.os=s₁.os/\AllBare s'.gens) s₁):
  WalkO q loose XP YP l.row.toRowW d [] (fun f vs=>PySem.call f vs):=by
 intro w s₀ s₁ mg mb G Y fa o pm cd doc dV kV ho hd hcd hD hmg hg args vals as hpre hlay hrd hwl hlo
 obtain rfl:dV= .none:=Dflts.none hD hdf
 obtain rfl:kV= .none:=Dflts.noKw hD
 obtain⟨a,vs,ns,rfl,rfl,hobj,hints,hlen⟩:=qJs hn hpre hwl
 refine enter_call (codeAny_mono (call w s₀ s₁ mg mb fa o pm cd doc a vs ns G Y ho (fd_plain hd) hcd hmg hobj hints hlen hg) fun r s' hq=> ?_)
 obtain⟨rfl,h2,h3,h4⟩:=hq
 exact⟨.inl ⟨.bool true,.bool true,[],rfl,fun _=>rfl,.bool true,qKb l _,fun _=>⟨List.Pairwise.nil,fun _ hm=>(nomatch hm)⟩⟩,h2,h3,h4⟩
section
variable {prog:Program} {w:World} {A:Around} {E:Value->Shared->Prop} {s:Shared} {K:Frag}
end
end Att
namespace L2
open PySem PySem.Spec PyProof.Rows
theorem jQm:∀ {vs:List Value} {ns:List Int},IntsAre vs ns->Vals (ns.map V.int) vs
 | _,_,.nil=> .nil
 | _,_,.cons n t h=> .cons ⟨t,rfl⟩ (jQm h)
def Only (H:Hp):Prop:=∀b,H b=none\/∃o xs,H b=some (.frz o (.lst xs))
theorem qVv {P:Program} {w:World} {K:PySem.W.Frag} {mg mb:Str->Option Value} {CX:CXT} {k:Nat} {fa a:Addr} {fd:FuncData} {x:Str} {sp:Sp} {s₁:Shared} {vs:List Value} {ns:List Int}
  (KX:K.In s₁.heap) (hns:s₁.heap.Ns mainGlobals mg) (hb:s₁.heap.Ns builtinsNs mb) (hbb:∀x:Str,x≠"__name__"->mb x=bootBuiltins x) (hlim:s₁.heap.NoLimit) (hg:s₁.gens= #[])
  (ha:s₁.heap.get? a=some {cls:= .type "list",data:= .seq vs.toArray}) (hi:IntsAre vs ns) (hl:ns.length<=sizeLine) (hr:Room k callerA)
  (F:∀base:Heap,K.In base->base.Ns mainGlobals mg->FnOk P w K mg base CX k fa fd [x] sp) (hbind:∀(s:Shared) (u:Value),BindsTo s fd ⟨[u],[]⟩ [(x,u)])
  (hsp:∀H:Hp,Only H->SqL K H a (ns.map V.int)->sp [.ref a] H (fun v _=>v= .bl true) fun _ _ _=>False)
  (hCX:∀H e s',CX [] H s₁ (fun _ _ _=>False) e s'->False):
  codeAny (model P w) callerA (.call (.ref fa) ⟨[.ref a],[]⟩) (fun r s'=>r= .ok (.ret (.bool true))/\OldK s₁.heap s'.heap/\s'.os=s₁.os/\AllBare s'.gens) s₁:=by
 have rv:=jQm hi
 have lenV:=hi.length
 have core:∀H:Hp,Only H->SqL K H a (ns.map V.int)->HOk P w H s₁.heap->(∀b,H b≠none->b=a)->(H a≠none->K.lookup a=none)->
   codeAny (model P w) callerA (.call (.ref fa) ⟨[.ref a],[]⟩) (fun r s'=>r= .ok (.ret (.bool true))/\OldK s₁.heap s'.heap/\s'.os=s₁.os/\AllBare s'.gens) s₁:=by
  intro H hO hS hok hA hK
  have base_of:∀ {b:Addr} {o:Obj},s₁.heap.get? b=some o->H b=none->(hidT s₁.heap H).get? b=some o:=fun e n=>qV6 e n
  have noA:∀ {b:Addr} {o:Obj} {es:Array DictEntry} {ep:Nat},s₁.heap.get? b=some o->o.data= .dict es ep->H b=none:=fun {b o es ep} e d=>by
   cases q:H b with
   | none=>rfl
   | some u=>
    have e':b=a:=hA b (by rw[q];simp)
    subst e'
    rw[ha] at e;cases e
    have d':Data.seq vs.toArray _=Data.dict es ep:=d
    cases d'
  have nsK:∀ {b:Addr} {m:Str->Option Value},s₁.heap.Ns b m->(hidT s₁.heap H).Ns b m:=fun {b m} ⟨o,es,ep,e,d,r⟩=>⟨o,es,ep,base_of e (noA e d),d,r⟩
  have hKb:K.In (hidT s₁.heap H):=fun b o e=>base_of (KX b o e) (by
   cases q:H b with
   | none=>rfl
   | some u=>
    have e':b=a:=hA b (by rw[q];simp)
    subst e'
    rw[hK (by rw[q];simp)] at e;cases e)
  have hM:Mod K mg (hidT s₁.heap H):=⟨hKb,nsK hns,⟨mb,nsK hb,hbb⟩,let ⟨mc,h1,h2⟩:=hlim;⟨mc,nsK h1,h2⟩⟩
  have e0:Env0 P w K mg (hidT s₁.heap H) callerA [] s₁ H:=⟨rfl,hM,fun b o e=>qZk e,Nat.le_of_eq (qQf _ _),trivial,fun b hb=>absurd (show b∈([]:List Addr) from hb) (by simp),hok,.of_eq hg⟩
  refine codeAny_mono ((F _ hKb (nsK hns)).run callerA [] s₁ H ⟨[.ref a],[]⟩ [.ref a] [.ref a] _ _ hr e0 (hbind s₁ (.ref a)) (.cons rfl .nil) (hsp H hO hS)) fun r s' h=> ?_
  cases r with
  | error e=>exact (hCX H e s' h).elim
  | ok fl=>
   cases fl with
   | next=>exact False.elim h
   | brk=>exact False.elim h
   | cont=>exact False.elim h
   | ret u=>
    obtain⟨v,H',os,bare,un,hok',r',q⟩:=h
    have q':v= .bl true:=q
    subst q'
    obtain rfl:u=Value.bool true:=r'
    refine⟨rfl,OldK.of_keep fun b o e=> ?_,os,bare⟩
    cases q:H b with
    | none=>exact un.keep b o e q (by intro z;exact absurd (show b∈([]:List Addr) from z) (by simp)) (by simp)
    | some u=>
     rcases hO b with z | ⟨ob,xs,z⟩
     ·rw[q] at z;cases z
     ·have z2:=un.frzs b ob _ z
      obtain⟨e1,_⟩:=hok b _ z
      obtain⟨e2,_⟩:=hok' b _ z2
      rw[e] at e1;cases e1
      exact e2
 cases hk:K.lookup a with
 | some o=>
  have e:=KX a o hk
  rw[ha] at e
  cases e
  refine core (fun _=>none) (fun _=> .inl rfl) (.inr ⟨_,vs.toArray,_,hk,rfl,rfl,rfl,by rw[lJw,lenV];exact hl,by simpa using rv⟩) (fun b u z=>by have z':(none:Option HO)=some u:=z;cases z') (fun b z=>absurd rfl z) fun z=>absurd rfl z
 | none=>
  refine core (fun b=>if b=a then some (.frz {cls:= .type "list",data:= .seq vs.toArray} (.lst (ns.map V.int))) else none) (fun b=> ?_) (.inl (.inr ⟨{cls:= .type "list",data:= .seq vs.toArray},lJc rfl⟩)) (fun b u z=> ?_) (fun b z=> ?_) fun _=>hk
  ·by_cases hb:b=a
   ·exact .inr ⟨_,_,lJc hb⟩
   ·exact .inl (lJb hb)
  ·by_cases hb:b=a
   ·have z':=(lJc hb).symm.trans z
    cases z'
    subst hb
    exact⟨ha,by rw[lJf];exact hl,vs,_,rv,ha⟩
   ·have z':=(lJb hb).symm.trans z
    cases z'
  ·by_cases hb:b=a
   ·exact hb
   ·exact absurd (lJb hb) z
theorem walk_of {l:PySem.W.OpenLaw} {n k:Nat} {q:Program} {loose:List Str} {XP:(Str->Option Value)->Heap->Prop} {YP:World->Heap->Prop} {d:DefRec} {K:Params->PySem.W.Frag} {CX:World->CXT} {sp:World->Sp} {x:Str}
  (hn:l.most=some n) (hn2:n<=sizeLine) (hdf:d.params.defaults=[]) (hr:Room k callerA)
  (hY:∀(w:World) (h:Heap),YP w h->(K w.params).In h)
  (F:∀(w:World) (mg:Str->Option Value) (fa:Addr) (h:Heap),(K w.params).In h->h.Ns mainGlobals mg->mg d.name=some (.ref fa)->
   ∃fd:FuncData,(∀(s:Shared) (u:Value),BindsTo s fd ⟨[u],[]⟩ [(x,u)])/\
    ∀base:Heap,(K w.params).In base->base.Ns mainGlobals mg->FnOk l.prog w (K w.params) mg base (CX w) k fa fd [x] (sp w))
  (hsp:∀(w:World) (H:Hp) (a:Addr) (ns:List Int),ns.length<=n->Only H->SqL (K w.params) H a (ns.map V.int)->sp w [.ref a] H (fun v _=>v= .bl true) fun _ _ _=>False)
  (hCX:∀(w:World) (H:Hp) (s:Shared) (e:Value) (s':Shared),CX w [] H s (fun _ _ _=>False) e s'->False):
  PySem.W.WalkO q loose XP YP l.row.toRowW d [] (fun f vs=>PySem.call f vs):=by
 refine Att.attach_call hn hdf fun w s₀ s₁ mg mb fa o pm cd doc a vs ns G Y ho hd hcd hmg hobj hints hlen hg=> ?_
 have KX:=hY w _ Y
 obtain⟨fd,hb,hF⟩:=F w mg fa _ KX G.T.g hmg
 exact qVv KX G.T.g G.T.b G.T.builtins G.T.nolimit hg hobj hints (lK1 hlen hn2) hr hF hb (fun H hO hS=>hsp w H a ns hlen hO hS) fun H e s'=>hCX w H s₁ e s'
noncomputable def jV8 (s:Stmt):Arguments:=match s with
 | .FunctionDef _ a _ _ _ _ _ _ _ _=>a
 | _=>{posonlyargs:=[],args:=[],vararg:=none,kwonlyargs:=[],kw_defaults:=[],kwarg:=none,defaults:=[]}
def jQ1 (s:Stmt):List Stmt:=match s with
 | .FunctionDef _ _ b _ _ _ _ _ _ _=>b
 | _=>[]
def jJ0 (s:Stmt):Scope:=match s with
 | .FunctionDef _ _ _ _ _ _ sc _ _ _=>sc
 | _=>{kind:= .function,names:=[],isGenerator:=false,isCoroutine:=false}
abbrev CX0:CXT:=fun _ _ _ _ _ _=>False
abbrev E0:XK:=fun _ _ _=>False
theorem pass0 {X:Cx}:qYm CX0 X E0:=fun _ _ _ _ _ _ _ h=>h.elim
structure Fun (K:PySem.W.Frag) (x qual:Str) (st:Stmt) (f:Addr) (fd:FuncData):Prop where
 ex:∃(oc:Value) (od:Option Addr) (kV doc pm:Value) (an:Option Addr) (cdv ct:Value) (osl:Array (Option Value)),
  fd=PySem.W.fnOf x qual (jV8 st) (jQ1 st) (jJ0 st) .none kV doc pm an cdv ct/\K.lookup f=some ⟨oc,od,.func fd,osl⟩/\PySem.W.codeIn K cdv qual=true
 kp:PySem.W.keepIn K (.ref f)=true
section
variable {P:Program} {w:World} {K:PySem.W.Frag} {mg:Str->Option Value} {base:Heap}
theorem Fun.ok {x qual:Str} {st:Stmt} {f:Addr} {fd:FuncData} {N ps:List Str} {k:Nat} {sp:Sp} (F:Fun K x qual st f fd) (S:FnScope N ps (jJ0 st)) (len:∀vs H Q E,sp vs H Q E->vs.length=ps.length)
  (hbody:∀(cdv:Value) (A:Around) (outer:List Env) (s:Shared) (H:Hp) (vs:List V) (Q:VK) (E:XK),Room k (A.deeper (envOfC qual (jJ0 st) s.heap.objs.size f cdv))->sp vs H Q E->
   ∃t,PSs (cxOf CX0 P w K mg base N qual (jJ0 st) f cdv A outer s H E).nox (jQ1 st) t/\t {nx:=fun _ H'=>Q .non H',rt:=Q} (start N vs) H):FnOk P w K mg base CX0 (k+1) f fd ps sp:=by
 obtain⟨oc,od,kV,doc,pm,an,cdv,ct,osl,rfl,lk,hcd⟩:=F.ex
 refine fn_of lk hcd S len fun A outer s H vs Q E hr hsp=> ?_
 obtain⟨t,h,q⟩:=hbody cdv A outer s H vs Q E hr hsp
 exact⟨t,h.nox,q⟩
theorem Fun.binds {x qual:Str} {st:Stmt} {f:Addr} {fd:FuncData} {ps:List Str} (F:Fun K x qual st f fd)
  (h:∀(kV doc pm:Value) (an:Option Addr) (cdv ct:Value) (us:List Value),us.length=ps.length->bindArgs (PySem.W.fnOf x qual (jV8 st) (jQ1 st) (jJ0 st) .none kV doc pm an cdv ct) ⟨us,[]⟩=pure (ps.zip us)):Binds K fd ps []:=by
 obtain⟨oc,od,kV,doc,pm,an,cdv,ct,osl,rfl,lk,hcd⟩:=F.ex
 exact .all (h kV doc pm an cdv ct)
theorem fun_mk {x qual:Str} {st:Stmt} {f:Addr} {oc:Value} {od an:Option Addr} {osl:Array (Option Value)} {kV doc pm cdv ct:Value} (l:K.lookup f=some ⟨oc,od,.func (PySem.W.fnOf x qual (jV8 st) (jQ1 st) (jJ0 st) .none kV doc pm an cdv ct),osl⟩)
  (c:PySem.W.codeIn K cdv qual=true) (k:PySem.W.keepIn K (.ref f)=true):Fun K x qual st f (PySem.W.fnOf x qual (jV8 st) (jQ1 st) (jJ0 st) .none kV doc pm an cdv ct):=⟨⟨oc,od,kV,doc,pm,an,cdv,ct,osl,rfl,l,c⟩,k⟩
end
theorem hu_of {A:Around} {k:Nat} (hr:Room k A):A.units+20<cLine:=Nat.lt_of_le_of_lt (Nat.add_le_add_left (by decide:20<=64) _) hr.units
section
variable {X:Cx}
end
end L2
set_option Elab.async false
set_option linter.all false
set_option maxRecDepth 100000
set_option maxHeartbeats 5000000
namespace L3
open PySem PySem.Spec PyProof.Rows L2
inductive T where
 | non | bl (b:Bool) | int (i:Int) | str (x:Str) | tup (xs:List T) | scr (xs:List T) | ref (a:Addr) | ty (n:String)
structure Ext (H H':Hp):Prop where
 tup:∀b xs,H b=some (.tup xs)->H' b=some (.tup xs)
 frz:∀b ob u,H b=some (.frz ob u)->H' b=some (.frz ob u)
theorem Ext.refl (H:Hp):Ext H H:=⟨fun _ _ h=>h,fun _ _ _ h=>h⟩
theorem Ext.trans {H H1 H2:Hp} (a:Ext H H1) (b:Ext H1 H2):Ext H H2:=⟨fun c o h=>b.tup c o (a.tup c o h),fun c o u h=>b.frz c o u (a.frz c o u h)⟩
def FrL (K:PySem.W.Frag) (H:Hp) (a:Addr) (xs:List V):Prop:=
 (∃ob,H a=some (.frz ob (.lst xs)))\/
  ∃(o:Obj) (its:Array Value) (n:Nat),K.lookup a=some o/\o.cls= .type "list"/\o.dict=none/\o.data= .seq its n/\its.size<=sizeLine/\Vals xs its.toList
theorem FrL.sq {K:PySem.W.Frag} {H:Hp} {a:Addr} {xs:List V} (h:FrL K H a xs):SqL K H a xs:=by
 rcases h with ⟨ob,h⟩ | h
 ·exact .inl (.inr ⟨ob,h⟩)
 ·exact .inr h
theorem FrL.mono {K:PySem.W.Frag} {H H':Hp} {a:Addr} {xs:List V} (e:Ext H H') (h:FrL K H a xs):FrL K H' a xs:=by
 rcases h with ⟨ob,h⟩ | h
 ·exact .inl ⟨ob,e.frz _ _ _ h⟩
 ·exact .inr h
mutual
noncomputable def Rep (K:PySem.W.Frag) (H:Hp):T->V->Prop
 | .non,v=>v= .non
 | .bl b,v=>v= .bl b
 | .int i,v=>v= .int i
 | .str x,v=>v= .str x
 | .ref a,v=>v= .ref a
 | .ty n,v=>v= .ty n
 | .tup xs,v=>∃a vs,v= .ref a/\H a=some (.tup vs)/\Reps K H xs vs
 | .scr xs,v=>∃a vs,v= .ref a/\FrL K H a vs/\Reps K H xs vs
noncomputable def Reps (K:PySem.W.Frag) (H:Hp):List T->List V->Prop
 | [],vs=>vs=[]
 | x::xs,vs=>∃v ws,vs=v::ws/\Rep K H x v/\Reps K H xs ws
end
mutual
theorem Rep.mono {K:PySem.W.Frag} {H H':Hp} (e:Ext H H'):∀(x:T) {v:V},Rep K H x v->Rep K H' x v
 | .non,_,h=>h
 | .bl _,_,h=>h
 | .int _,_,h=>h
 | .str _,_,h=>h
 | .ref _,_,h=>h
 | .ty _,_,h=>h
 | .tup xs,_,⟨a,vs,r1,r2,r3⟩=>⟨a,vs,r1,e.tup _ _ r2,Reps.mono e xs r3⟩
 | .scr xs,_,⟨a,vs,r1,r2,r3⟩=>⟨a,vs,r1,r2.mono e,Reps.mono e xs r3⟩
theorem Reps.mono {K:PySem.W.Frag} {H H':Hp} (e:Ext H H'):∀(xs:List T) {vs:List V},Reps K H xs vs->Reps K H' xs vs
 | [],_,h=>h
 | x::xs,_,⟨v,ws,r1,r2,r3⟩=>⟨v,ws,r1,Rep.mono e x r2,Reps.mono e xs r3⟩
end
section
variable {K:PySem.W.Frag} {H:Hp}
theorem Reps.length:∀ {xs:List T} {vs:List V},Reps K H xs vs->xs.length=vs.length
 | [],_,h=>by cases h;rfl
 | _::_,_,⟨_,_,r1,_,r3⟩=>by subst r1;simp[Reps.length r3]
theorem Reps.get:∀ {xs:List T} {vs:List V} {i:Nat} {x:T},Reps K H xs vs->xs[i]? =some x->∃v,vs[i]? =some v/\Rep K H x v
 | [],_,_,_,_,e=>by simp at e
 | y::ys,_,0,x,⟨v,ws,r1,r2,r3⟩,e=>by subst r1;simp at e;subst e;exact⟨v,rfl,r2⟩
 | y::ys,_,i+1,x,⟨v,ws,r1,r2,r3⟩,e=>by subst r1;simpa using Reps.get r3 (by simpa using e)
theorem Reps.get':∀ {xs:List T} {vs:List V} {i:Nat} {v:V},Reps K H xs vs->vs[i]? =some v->∃x,xs[i]? =some x/\Rep K H x v
 | [],_,_,_,h,e=>by cases h;simp at e
 | y::ys,_,0,x,⟨v,ws,r1,r2,r3⟩,e=>by subst r1;simp at e;subst e;exact⟨y,rfl,r2⟩
 | y::ys,_,i+1,x,⟨v,ws,r1,r2,r3⟩,e=>by subst r1;simpa using Reps.get' r3 (by simpa using e)
theorem Reps.append:∀ {xs ys:List T} {vs ws:List V},Reps K H xs vs->Reps K H ys ws->Reps K H (xs++ys) (vs++ws)
 | [],_,_,_,h,h2=>by cases h;exact h2
 | _::_,_,_,_,⟨v,ws,r1,r2,r3⟩,h2=>by subst r1;exact⟨v,_,rfl,r2,Reps.append r3 h2⟩
theorem Reps.one {x:T} {v:V} (r:Rep K H x v):Reps K H [x] [v]:=⟨v,[],rfl,r,rfl⟩
theorem Reps.set {x:T} {v:V} (r:Rep K H x v):∀ {xs:List T} {vs:List V} (i:Nat),Reps K H xs vs->Reps K H (xs.set i x) (vs.set i v)
 | [],_,_,e=>by cases e;rfl
 | _::_,_,0,⟨_,ws,r1,r2,r3⟩=>by subst r1;exact⟨v,ws,rfl,r,r3⟩
 | _::_,_,i+1,⟨u,ws,r1,r2,r3⟩=>by subst r1;exact⟨u,_,rfl,r2,Reps.set r i r3⟩
theorem Reps.take:∀ {xs:List T} {vs:List V} (n:Nat),Reps K H xs vs->Reps K H (xs.take n) (vs.take n)
 | _,_,0,_=>by simp[Reps]
 | [],_,_+1,h=>by cases h;simp[Reps]
 | _::_,_,n+1,⟨u,ws,r1,r2,r3⟩=>by subst r1;exact⟨u,_,rfl,r2,Reps.take n r3⟩
theorem Reps.drop:∀ {xs:List T} {vs:List V} (n:Nat),Reps K H xs vs->Reps K H (xs.drop n) (vs.drop n)
 | _,_,0,h=>h
 | [],_,_+1,h=>by cases h;simp[Reps]
 | _::_,_,n+1,⟨u,ws,r1,r2,r3⟩=>by subst r1;exact Reps.drop n r3
theorem Reps.reverse:∀ {xs:List T} {vs:List V},Reps K H xs vs->Reps K H xs.reverse vs.reverse
 | [],_,h=>by cases h;simp[Reps]
 | _::_,_,⟨u,ws,r1,r2,r3⟩=>by
  subst r1;rw[lXu,lXu];exact (Reps.reverse r3).append ⟨u,[],rfl,r2,rfl⟩
theorem Reps.rep {xs:List T} {vs:List V} (r:Reps K H xs vs):∀n:Nat,Reps K H (List.replicate n xs).flatten (List.replicate n vs).flatten
 | 0=>by simp[Reps]
 | n+1=>by simpa[lXe] using r.append (Reps.rep r n)
theorem Reps.atI {xs:List T} {vs:List V} {i:Int} {x:T} (r:Reps K H xs vs) (h:atI xs i=some x):∃v,atI vs i=some v/\Rep K H x v:=by
 unfold L2.atI at h ⊢
 rw[<-r.length]
 cases e:ixN xs.length i with
 | none=>rw[e] at h;cases h
 | some j=>rw[e] at h;exact r.get h
end
inductive GO where
 | lst (xs:List T) | dct (kvs:List (TKey×T)) | dck (kvs:List (Key×T)) | fdc (kvs:List (TKey×T)) | ins (cn:Str) (fs:List (Str×T))
abbrev Gp:=Addr->Option GO
def gup (G:Gp) (a:Addr) (o:GO):Gp:=fun b=>if b=a then some o else G b
theorem jJe {G:Gp} {a:Addr} {o:GO}:gup G a o a=some o:=by simp[gup]
theorem jJo {G:Gp} {a b:Addr} {o:GO} (h:b≠a):gup G a o b=G b:=by simp[gup,h]
theorem qQh {G:Gp} {a:Addr} {o o':GO}:gup (gup G a o) a o'=gup G a o':=by funext b;by_cases h:b=a<;>simp[gup,h]
def asL:Option GO->Option (List T)
 | some (.lst xs)=>some xs
 | _=>none
def seqT (G:Gp):T->Option (List T)
 | .tup xs=>some xs
 | .scr xs=>some xs
 | .ref a=>asL (G a)
 | _=>none
def PKV {κ:Type} (K:PySem.W.Frag) (H:Hp):List (κ×T)->List (κ×V)->Prop:=Paired fun p q=>p.1=q.1/\Rep K H p.2 q.2
noncomputable def GOk (K:PySem.W.Frag) (H:Hp) (a:Addr):GO->Prop
 | .lst xs=>∃vs,H a=some (.lst vs)/\Reps K H xs vs
 | .dct kvs=>∃ws,H a=some (.dT ws)/\PKV K H kvs ws
 | .dck kvs=>∃ws,H a=some (.dK ws)/\PKV K H kvs ws
 | .fdc kvs=>∃ob ws,H a=some (.frz ob (.dT ws))/\PKV K H kvs ws
 | .ins cn fs=>∃C dx ws,H a=some (.ins C dx ws)/\PySem.W.nsIn K mainGlobals cn=some (some (.ref C))/\PKV K H fs ws
def GRel (K:PySem.W.Frag) (H:Hp) (G:Gp):Prop:=∀a o,G a=some o->GOk K H a o
section
variable {K:PySem.W.Frag} {H H':Hp} {G:Gp} {a:Addr}
theorem PKV.mono {κ:Type} {kvs:List (κ×T)} {ws:List (κ×V)} (e:Ext H H') (h:PKV K H kvs ws):PKV K H' kvs ws:=Paired.mapP h fun _ _ z=>⟨z.1,Rep.mono e _ z.2⟩
theorem GOk.move {o:GO} (h:GOk K H a o) (e:Ext H H') (ha:H' a=H a):GOk K H' a o:=by
 cases o with
 | lst xs=>obtain⟨vs,h1,h2⟩:=h;exact⟨vs,ha.trans h1,Reps.mono e _ h2⟩
 | dct kvs=>obtain⟨vs,h1,h2⟩:=h;exact⟨vs,ha.trans h1,h2.mono e⟩
 | dck kvs=>obtain⟨vs,h1,h2⟩:=h;exact⟨vs,ha.trans h1,h2.mono e⟩
 | fdc kvs=>obtain⟨ob,vs,h1,h2⟩:=h;exact⟨ob,vs,ha.trans h1,h2.mono e⟩
 | ins cn fs=>obtain⟨C,dx,ws,h1,h2,h3⟩:=h;exact⟨C,dx,ws,ha.trans h1,h2,h3.mono e⟩
theorem GOk.some {o:GO} (h:GOk K H a o):H a≠none:=by
 cases o with
 | lst xs=>obtain⟨vs,h1,h2⟩:=h;rw[h1];simp
 | dct kvs=>obtain⟨vs,h1,h2⟩:=h;rw[h1];simp
 | dck kvs=>obtain⟨vs,h1,h2⟩:=h;rw[h1];simp
 | fdc kvs=>obtain⟨ob,vs,h1,h2⟩:=h;rw[h1];simp
 | ins cn fs=>obtain⟨C,dx,ws,h1,h2,h3⟩:=h;rw[h1];simp
theorem GRel.fresh (g:GRel K H G) (h:H a=none):G a=none:=by
 cases e:G a with
 | none=>rfl
 | some o=>exact absurd h (g a o e).some
def Soft (o:Option HO):Prop:=o=none\/(∃xs,o=some (.lst xs))\/(∃kvs,o=some (.dK kvs))\/(∃kvs,o=some (.dT kvs))\/∃C dx fs,o=some (.ins C dx fs)
theorem Ext.upd {o:HO} (h:Soft (H a)):Ext H (L2.upd H a o):=by
 refine⟨fun b xs e=> ?_,fun b ob u e=> ?_⟩
 ·rw[jJ1];exact e
  rintro rfl;rw[e] at h;rcases h with h | ⟨_,h⟩ | ⟨_,h⟩ | ⟨_,h⟩ | ⟨_,_,_,h⟩<;>cases h
 ·rw[jJ1];exact e
  rintro rfl;rw[e] at h;rcases h with h | ⟨_,h⟩ | ⟨_,h⟩ | ⟨_,h⟩ | ⟨_,_,_,h⟩<;>cases h
theorem GRel.upd {o:HO} {go:GO} (g:GRel K H G) (h:Soft (H a)) (n:GOk K (L2.upd H a o) a go):GRel K (L2.upd H a o) (gup G a go):=by
 intro b u e
 by_cases hb:b=a
 ·subst hb;rw[jJe] at e;cases e;exact n
 ·rw[jJo hb] at e;exact (g b u e).move (Ext.upd h) (jJ1 hb)
theorem Soft.none (h:H a=none):Soft (H a):= .inl h
theorem Soft.lst {xs:List V} (h:H a=some (.lst xs)):Soft (H a):= .inr (.inl ⟨xs,h⟩)
theorem Soft.dT {xs:List (TKey×V)} (h:H a=some (.dT xs)):Soft (H a):= .inr (.inr (.inr (.inl ⟨xs,h⟩)))
theorem Soft.dK {xs:List (Key×V)} (h:H a=some (.dK xs)):Soft (H a):= .inr (.inr (.inl ⟨xs,h⟩))
theorem GRel.tupNew {vs:List V} (g:GRel K H G) (h:H a=Option.none):GRel K (L2.upd H a (.tup vs)) G:=by
 intro b u e
 have hb:b≠a:=by rintro rfl;exact (g b u e).some h
 exact (g b u e).move (Ext.upd (.none h)) (jJ1 hb)
theorem Rep.tupNew {xs:List T} {vs:List V} (r:Reps K H xs vs) (h:H a=Option.none):Rep K (L2.upd H a (.tup vs)) (.tup xs) (.ref a):=
 ⟨a,vs,rfl,jKb,Reps.mono (Ext.upd (.none h)) _ r⟩
theorem GRel.lstNew {xs:List T} {vs:List V} (g:GRel K H G) (r:Reps K H xs vs) (h:Soft (H a)):GRel K (L2.upd H a (.lst vs)) (gup G a (.lst xs)):=
 g.upd h ⟨vs,jKb,Reps.mono (Ext.upd h) _ r⟩
theorem GRel.lst {xs:List T} (g:GRel K H G) (h:G a=some (.lst xs)):∃vs,H a=some (.lst vs)/\Reps K H xs vs:=g a _ h
end
abbrev St3:=List (Option T)
def SRel (K:PySem.W.Frag) (H:Hp) (σ:L2.St) (τ:St3):Prop:=σ.length=τ.length/\∀(i:Nat) (t:T),τ[i]? =some (some t)->∃v,σ[i]? =some (some v)/\Rep K H t v
theorem SRel.mono {K:PySem.W.Frag} {H H':Hp} {σ:L2.St} {τ:St3} (e:Ext H H') (h:SRel K H σ τ):SRel K H' σ τ:=
 ⟨h.1,fun i t q=>let ⟨v,h1,h2⟩:=h.2 i t q;⟨v,h1,Rep.mono e _ h2⟩⟩
theorem SRel.set {K:PySem.W.Frag} {H:Hp} {σ:L2.St} {τ:St3} {t:T} {v:V} (h:SRel K H σ τ) (i:Nat) (r:Rep K H t v):SRel K H (σ.set i (some v)) (τ.set i (some t)):=by
 refine⟨by simp[h.1],fun j u q=> ?_⟩
 by_cases hj:i=j
 ·subst hj
  have hl:i<τ.length:=by
   rcases lQm i τ.length with z | z
   ·exact z
   ·rw[lKo (by simpa using z)] at q;cases q
  rw[lXs hl] at q
  cases q
  exact⟨v,by rw[lXs (by rw[h.1];exact hl)],r⟩
 ·rw[lYl hj] at q ⊢
  exact h.2 j u q
def Inv3 (X:Cx) (pins:List (Addr×Obj)) (τ:St3) (G:Gp) (H:Hp) (s:Shared):Prop:=∃ σ,Inv X pins σ H s/\SRel X.K H σ τ/\GRel X.K H G
abbrev VK3:=T->Gp->Prop
abbrev TE3:=St3->Gp->VK3->Prop
abbrev TT3:=St3->Gp->(Bool->Gp->Prop)->Prop
abbrev TA3:=St3->Gp->(List T->Gp->Prop)->Prop
structure Ends3 where
 nx:St3->Gp->Prop
 rt:VK3
 bk:St3->Gp->Prop:=fun _ _=>False
 ct:St3->Gp->Prop:=fun _ _=>False
abbrev TS3:=Ends3->St3->Gp->Prop
def RU (K:PySem.W.Frag) (H:Hp) (t:T) (u:Value):Prop:=∃v,Rep K H t v/\RelV v u
def RUs (K:PySem.W.Frag) (H:Hp) (ts:List T) (us:List Value):Prop:=∃vs,Reps K H ts vs/\Vals vs us
theorem RU.mono {K:PySem.W.Frag} {H H':Hp} {t:T} {u:Value} (e:Ext H H') (h:RU K H t u):RU K H' t u:=let ⟨v,h1,h2⟩:=h;⟨v,Rep.mono e _ h1,h2⟩
def EP3 (X:Cx) (pins:List (Addr×Obj)) (τ:St3) (H:Hp) (Q:VK3) (u:Value) (s':Shared):Prop:=∃t G' H',Ext H H'/\Inv3 X pins τ G' H' s'/\RU X.K H' t u/\Q t G'
def TP3 (X:Cx) (pins:List (Addr×Obj)) (τ:St3) (H:Hp) (Q:Bool->Gp->Prop) (b:Bool) (s':Shared):Prop:=∃G' H',Ext H H'/\Inv3 X pins τ G' H' s'/\Q b G'
def AP3 (X:Cx) (pins:List (Addr×Obj)) (τ:St3) (H:Hp) (Q:List T->Gp->Prop) (us:List Value) (s':Shared):Prop:=∃ts G' H',Ext H H'/\Inv3 X pins τ G' H' s'/\RUs X.K H' ts us/\Q ts G'
def SP3 (X:Cx) (pins:List (Addr×Obj)) (H:Hp) (D:Ends3) (f:Flow) (s':Shared):Prop:=
 match f with
 | .next=>∃ τ' G' H',Ext H H'/\Inv3 X pins τ' G' H' s'/\D.nx τ' G'
 | .brk=>∃ τ' G' H',Ext H H'/\Inv3 X pins τ' G' H' s'/\D.bk τ' G'
 | .cont=>∃ τ' G' H',Ext H H'/\Inv3 X pins τ' G' H' s'/\D.ct τ' G'
 | .ret u=>∃t τ' G' H',Ext H H'/\Inv3 X pins τ' G' H' s'/\RU X.K H' t u/\D.rt t G'
def PE3 (X:Cx) (e:Expr) (t:TE3):Prop:=∀(pins:List (Addr×Obj)) (s:Shared) (τ:St3) (G:Gp) (H:Hp) (Q:VK3),Inv3 X pins τ G H s->t τ G Q->wpAny (model X.prog X.w) X.A (eval e X.env) (EP3 X pins τ H Q) X.xe s
def PT3 (X:Cx) (e:Expr) (t:TT3):Prop:=∀(pins:List (Addr×Obj)) (s:Shared) (τ:St3) (G:Gp) (H:Hp) (Q:Bool->Gp->Prop),Inv3 X pins τ G H s->t τ G Q->wpAny (model X.prog X.w) X.A (isTrue e X.env (eval e X.env)) (TP3 X pins τ H Q) X.xe s
def PW3 (X:Cx) (e:Expr) (t:TT3):Prop:=∀(whole:Sem Value) (pins:List (Addr×Obj)) (s:Shared) (τ:St3) (G:Gp) (H:Hp) (Q:Bool->Gp->Prop),Inv3 X pins τ G H s->t τ G Q->wpAny (model X.prog X.w) X.A (isTrue e X.env whole) (TP3 X pins τ H Q) X.xe s
theorem PW3.pt {X:Cx} {e:Expr} {t:TT3} (h:PW3 X e t):PT3 X e t:=h _
def PA3 (X:Cx) (es:List Expr) (t:TA3):Prop:=∀(pos:Pos) (pins:List (Addr×Obj)) (s:Shared) (τ:St3) (G:Gp) (H:Hp) (Q:List T->Gp->Prop),Inv3 X pins τ G H s->t τ G Q->wpAny (model X.prog X.w) X.A (spliced (backTo pos (starEach es X.env))) (AP3 X pins τ H Q) X.xe s
def PS3 (X:Cx) (st:Stmt) (t:TS3):Prop:=∀(pins:List (Addr×Obj)) (s:Shared) (τ:St3) (G:Gp) (H:Hp) (D:Ends3),Inv3 X pins τ G H s->t D τ G->wpAny (model X.prog X.w) X.A (exec st X.env) (SP3 X pins H D) X.xe s
def PSs3 (X:Cx) (st:List Stmt) (t:TS3):Prop:=∀(pins:List (Addr×Obj)) (s:Shared) (τ:St3) (G:Gp) (H:Hp) (D:Ends3),Inv3 X pins τ G H s->t D τ G->wpAny (model X.prog X.w) X.A (execs st X.env) (SP3 X pins H D) X.xe s
section
variable {X:Cx} {pins:List (Addr×Obj)} {τ:St3} {G:Gp} {H H1:Hp} {s:Shared} {C:Prop}
theorem EP3.el {Q:VK3} {u:Value} (h:EP3 X pins τ H Q u s) (k:∀t G' H',Ext H H'->Inv3 X pins τ G' H' s->RU X.K H' t u->Q t G'->C):C:=let ⟨t,G',H',a,b,c,d⟩:=h;k t G' H' a b c d
theorem AP3.el {Q:List T->Gp->Prop} {u:List Value} (h:AP3 X pins τ H Q u s) (k:∀t G' H',Ext H H'->Inv3 X pins τ G' H' s->RUs X.K H' t u->Q t G'->C):C:=let ⟨t,G',H',a,b,c,d⟩:=h;k t G' H' a b c d
theorem TP3.el {Q:Bool->Gp->Prop} {u:Bool} (h:TP3 X pins τ H Q u s) (k:∀G' H',Ext H H'->Inv3 X pins τ G' H' s->Q u G'->C):C:=let ⟨G',H',a,b,c⟩:=h;k G' H' a b c
theorem Inv3.el (h:Inv3 X pins τ G H s) (k:∀ σ,Inv X pins σ H s->SRel X.K H σ τ->GRel X.K H G->C):C:=let ⟨σ,a,b,c⟩:=h;k σ a b c
theorem RU.el {K:PySem.W.Frag} {t:T} {u:Value} (h:RU K H t u) (k:∀v,Rep K H t v->RelV v u->C):C:=let ⟨v,a,b⟩:=h;k v a b
theorem RUs.el {K:PySem.W.Frag} {t:List T} {u:List Value} (h:RUs K H t u) (k:∀v,Reps K H t v->Vals v u->C):C:=let ⟨v,a,b⟩:=h;k v a b
end
section
variable {X:Cx} {pins:List (Addr×Obj)} {τ:St3} {G:Gp} {H H1:Hp} {s:Shared}
theorem EP3.ext {Q:VK3} {u:Value} (e:Ext H H1) (h:EP3 X pins τ H1 Q u s):EP3 X pins τ H Q u s:=let ⟨t,G',H',a,b⟩:=h;⟨t,G',H',e.trans a,b⟩
theorem TP3.ext {Q:Bool->Gp->Prop} {u:Bool} (e:Ext H H1) (h:TP3 X pins τ H1 Q u s):TP3 X pins τ H Q u s:=let ⟨G',H',a,b⟩:=h;⟨G',H',e.trans a,b⟩
theorem SP3.ext {D:Ends3} {f:Flow} (e:Ext H H1) (h:SP3 X pins H1 D f s):SP3 X pins H D f s:=by
 cases f with
 | next=>obtain⟨τ',G',H',a,b⟩:=h;exact⟨τ',G',H',e.trans a,b⟩
 | brk=>obtain⟨τ',G',H',a,b⟩:=h;exact⟨τ',G',H',e.trans a,b⟩
 | cont=>obtain⟨τ',G',H',a,b⟩:=h;exact⟨τ',G',H',e.trans a,b⟩
 | ret u=>obtain⟨t,τ',G',H',a,b⟩:=h;exact⟨t,τ',G',H',e.trans a,b⟩
theorem bin3 {a b:Expr} {ta tb:TE3} (ha:PE3 X a ta) (hb:PE3 X b tb) {R:T->T->Gp->Prop} (I:Inv3 X pins τ G H s) (h:ta τ G fun x G1=>tb τ G1 fun y G2=>R x y G2)
  {α:Type} {Q:α->Shared->Prop} {f:Value->Value->Sem α}
  (hf:∀v u s2 x y G2 H2,Ext H H2->Inv3 X pins τ G2 H2 s2->RU X.K H2 x v->RU X.K H2 y u->R x y G2->wpAny (model X.prog X.w) X.A (f v u) Q X.xe s2):
  wpAny (model X.prog X.w) X.A (eval a X.env) (fun v s₁=>wpAny (model X.prog X.w) X.A (eval b X.env) (fun u s₂=>wpAny (model X.prog X.w) X.A (f v u) Q X.xe s₂) X.xe s₁) X.xe s:=by
 refine thn (ha pins s τ G H _ I h) fun v s1 w_=>w_.el fun x G1 H1 e1 I1 r1 q1=> ?_
 refine thn (hb pins s1 τ G1 H1 _ I1 q1) fun u s2 w_=>w_.el fun y G2 H2 e2 I2 r2 q2=> ?_
 exact hf v u s2 x y G2 H2 (e1.trans e2) I2 (r1.mono e2) r2 q2
def up (K:PySem.W.Frag) (H:Hp) (Q:VK3):VK:=fun v H'=>∃t G',Ext H H'/\GRel K H' G'/\Rep K H' t v/\Q t G'
theorem jV3 {σ:L2.St} {Q:VK3} {u:Value} (hs:SRel X.K H σ τ) (h:EP X pins σ (up X.K H Q) u s):EP3 X pins τ H Q u s:=
 let ⟨v,H',I',r',t,G',e,g',rt,q⟩:=h
 ⟨t,G',H',e,⟨σ,I',hs.mono e,g'⟩,⟨v,rt,r'⟩,q⟩
end
section
variable {X:Cx} {pos:Pos}
def tVar (i:Nat):TE3:=fun τ G Q=>∃t,τ[i]? =some (some t)/\Q t G
def tC (t:T):TE3:=fun _ G Q=>Q t G
theorem jJb (i:Nat) {x:Str} (hN:X.N[i]? =some x:=by rfl) (hv:Vis X.env.scope x:=by first | exact Or.inl rfl | exact Or.inr (Or.inl rfl) | exact Or.inr (Or.inr rfl))
  (hd:(x == ("__debug__":Str))=false:=by decide) (hcd:(x == ("__classdict__":Str))=false:=by decide):PE3 X (.Name x pos) (tVar i):=by
 rintro pins s τ G H Q ⟨σ,I,hs,hg⟩ ⟨t,e,q⟩
 obtain⟨v,ev,rv⟩:=hs.2 i t e
 exact thn (pe_var hN hv hd hcd pins s σ H (up X.K H Q) I ⟨v,ev,t,G,.refl H,hg,rv,q⟩) fun u s' h=>jV3 hs h
theorem jJl {i j}:PE3 X (.Constant (.int i) j pos) (tC (.int i)):=fun pins s τ G H Q ⟨σ,I,hs,hg⟩ q=>
 thn (pe_int pins s σ H (up X.K H Q) I ⟨.int i,G,.refl H,hg,rfl,q⟩) fun u s' h=>jV3 hs h
theorem e_bl {b j}:PE3 X (.Constant (.bool b) j pos) (tC (.bl b)):=fun pins s τ G H Q ⟨σ,I,hs,hg⟩ q=>
 thn (pe_bl pins s σ H (up X.K H Q) I ⟨.bl b,G,.refl H,hg,rfl,q⟩) fun u s' h=>jV3 hs h
theorem jZ3 {j}:PE3 X (.Constant .none j pos) (tC .non):=fun pins s τ G H Q ⟨σ,I,hs,hg⟩ q=>
 thn (pe_non pins s σ H (up X.K H Q) I ⟨.non,G,.refl H,hg,rfl,q⟩) fun u s' h=>jV3 hs h
end
abbrev R3:=T->T->Gp->VK3->Prop
def Op3 (X:Cx) (f:Value->Value->Sem Value) (r:R3):Prop:=
 ∀(pins:List (Addr×Obj)) (s:Shared) (τ:St3) (G:Gp) (H:Hp) (x y:T) (v u:Value) (Q:VK3),Inv3 X pins τ G H s->RU X.K H x v->RU X.K H y u->r x y G Q->wpAny (model X.prog X.w) X.A (f v u) (EP3 X pins τ H Q) X.xe s
def Un3 (X:Cx) (f:Value->Sem Value) (r:T->Gp->VK3->Prop):Prop:=
 ∀(pins:List (Addr×Obj)) (s:Shared) (τ:St3) (G:Gp) (H:Hp) (x:T) (v:Value) (Q:VK3),Inv3 X pins τ G H s->RU X.K H x v->r x G Q->wpAny (model X.prog X.w) X.A (f v) (EP3 X pins τ H Q) X.xe s
def Call3 (X:Cx) (f:Value) (r:List T->Gp->VK3->Prop):Prop:=
 ∀(pins:List (Addr×Obj)) (s:Shared) (τ:St3) (G:Gp) (H:Hp) (xs:List T) (us:List Value) (Q:VK3),Inv3 X pins τ G H s->RUs X.K H xs us->r xs G Q->wpAny (model X.prog X.w) X.A (call f us) (EP3 X pins τ H Q) X.xe s
def Mt3 (X:Cx) (id:String) (r:T->List T->Gp->VK3->Prop):Prop:=
 ∀(pins:List (Addr×Obj)) (s:Shared) (τ:St3) (G:Gp) (H:Hp) (x:T) (xs:List T) (v:Value) (us:List Value) (Q:VK3),Inv3 X pins τ G H s->RU X.K H x v->RUs X.K H xs us->r x xs G Q->
  wpAny (model X.prog X.w) X.A (call (.builtin id) (v::us)) (EP3 X pins τ H Q) X.xe s
def Ix3 (X:Cx) (r:R3):Prop:=
 ∀(value slice:Expr) (pins:List (Addr×Obj)) (s:Shared) (τ:St3) (G:Gp) (H:Hp) (x y:T) (v u:Value) (Q:VK3),Inv3 X pins τ G H s->RU X.K H x v->RU X.K H y u->r x y G Q->
  subscripted slice false v u=operate [v,u] (getItem v u)->wpAny (model X.prog X.w) X.A (subscriptTail value slice v u) (EP3 X pins τ H Q) X.xe s
def Set3 (X:Cx) (r:T->T->T->Gp->(Gp->Prop)->Prop):Prop:=
 ∀(pins:List (Addr×Obj)) (s:Shared) (τ:St3) (G:Gp) (H:Hp) (o i v:T) (ov iv u:Value) (Q:Gp->Prop),Inv3 X pins τ G H s->RU X.K H o ov->RU X.K H i iv->RU X.K H v u->r o i v G Q->
  wpAny (model X.prog X.w) X.A (setItem ov iv u) (fun _ s'=>∃G' H',Ext H H'/\Inv3 X pins τ G' H' s'/\Q G') X.xe s
def Tru3 (X:Cx) (r:T->Gp->(Bool->Gp->Prop)->Prop):Prop:=
 ∀(pins:List (Addr×Obj)) (s:Shared) (τ:St3) (G:Gp) (H:Hp) (x:T) (v:Value) (Q:Bool->Gp->Prop),Inv3 X pins τ G H s->RU X.K H x v->r x G Q->wpAny (model X.prog X.w) X.A (truthy v) (TP3 X pins τ H Q) X.xe s
section
variable {X:Cx}
theorem Op3.of {f:Value->Value->Sem Value} {r:R2} {r3:R3} (h:OpR X f r)
  (hr:∀H G x y a b Q,GRel X.K H G->Rep X.K H x a->Rep X.K H y b->r3 x y G Q->r a b H (up X.K H Q)):Op3 X f r3:=by
 rintro pins s τ G H x y v u Q ⟨σ,I,hs,hg⟩ ⟨a,ra,rv⟩ ⟨b,rb,ru⟩ q
 exact thn (h pins s σ H a b v u _ I rv ru (hr H G x y a b Q hg ra rb q)) fun u s' h=>jV3 hs h
theorem Un3.of {f:Value->Sem Value} {r:V->Hp->VK->Prop} {r3:T->Gp->VK3->Prop} (h:UnR X f r)
  (hr:∀H G x a Q,GRel X.K H G->Rep X.K H x a->r3 x G Q->r a H (up X.K H Q)):Un3 X f r3:=by
 rintro pins s τ G H x v Q ⟨σ,I,hs,hg⟩ ⟨a,ra,rv⟩ q
 exact thn (h pins s σ H a v _ I rv (hr H G x a Q hg ra q)) fun u s' h=>jV3 hs h
theorem Call3.of {f:Value} {r:List V->Hp->VK->Prop} {r3:List T->Gp->VK3->Prop} (h:kUr X f r)
  (hr:∀H G xs as Q,GRel X.K H G->Reps X.K H xs as->r3 xs G Q->r as H (up X.K H Q)):Call3 X f r3:=by
 rintro pins s τ G H xs us Q ⟨σ,I,hs,hg⟩ ⟨as,ra,rv⟩ q
 exact thn (h pins s σ H as us _ I rv (hr H G xs as Q hg ra q)) fun u s' h=>jV3 hs h
theorem Mt3.of {id:String} {r:V->List V->Hp->VK->Prop} {r3:T->List T->Gp->VK3->Prop} (h:MtR X id r)
  (hr:∀H G x xs a as Q,GRel X.K H G->Rep X.K H x a->Reps X.K H xs as->r3 x xs G Q->r a as H (up X.K H Q)):Mt3 X id r3:=by
 rintro pins s τ G H x xs v us Q ⟨σ,I,hs,hg⟩ ⟨a,ra,rv⟩ ⟨as,ras,rvs⟩ q
 exact thn (h pins s σ H a as v us _ I rv rvs (hr H G x xs a as Q hg ra ras q)) fun u s' h=>jV3 hs h
theorem Ix3.of {r:R2} {r3:R3} (h:IxR X r)
  (hr:∀H G x y a b Q,GRel X.K H G->Rep X.K H x a->Rep X.K H y b->r3 x y G Q->r a b H (up X.K H Q)):Ix3 X r3:=by
 rintro value slice pins s τ G H x y v u Q ⟨σ,I,hs,hg⟩ ⟨a,ra,rv⟩ ⟨b,rb,ru⟩ q hh
 exact thn (h value slice pins s σ H a b v u _ I rv ru (hr H G x y a b Q hg ra rb q) hh) fun u s' h=>jV3 hs h
theorem Set3.of {t:TSet} {r3:T->T->T->Gp->(Gp->Prop)->Prop} (h:PSet X t)
  (hr:∀H G o i v a b c Q,GRel X.K H G->Rep X.K H o a->Rep X.K H i b->Rep X.K H v c->r3 o i v G Q->t a b c H (fun H'=>∃G',Ext H H'/\GRel X.K H' G'/\Q G')):Set3 X r3:=by
 rintro pins s τ G H o i v ov iv u Q ⟨σ,I,hs,hg⟩ ⟨a,ra,rv⟩ ⟨b,rb,ru⟩ ⟨c,rc,rw'⟩ q
 exact thn (h pins s σ H a b c ov iv u _ I rv ru rw' (hr H G o i v a b c Q hg ra rb rc q)) fun _ s' ⟨H',I',G',e,g',q'⟩=>⟨G',H',e,⟨σ,I',hs.mono e,g'⟩,q'⟩
theorem Tru3.of {r:V->Hp->(Bool->Hp->Prop)->Prop} {r3:T->Gp->(Bool->Gp->Prop)->Prop} (h:TruR X r)
  (hr:∀H G x a Q,GRel X.K H G->Rep X.K H x a->r3 x G Q->r a H (fun b H'=>H'=H/\Q b G)):Tru3 X r3:=by
 rintro pins s τ G H x v Q ⟨σ,I,hs,hg⟩ ⟨a,ra,rv⟩ q
 exact thn (h pins s σ H a v _ I rv (hr H G x a Q hg ra q)) fun b s' ⟨H',I',e,q'⟩=>by
  subst e;exact⟨G,H',.refl _,⟨σ,I',hs,hg⟩,q'⟩
theorem Op3.or {f:Value->Value->Sem Value} {r r':R3} (h:Op3 X f r) (h':Op3 X f r'):Op3 X f (fun x y G Q=>r x y G Q\/r' x y G Q):=by
 intro pins s τ G H x y v u Q I rx ry q
 rcases q with q | q
 ·exact h pins s τ G H x y v u Q I rx ry q
 ·exact h' pins s τ G H x y v u Q I rx ry q
def rI (C:Int->Int->Prop) (g:Int->Int->T):R3:=fun x y G Q=>∃i j,x= .int i/\y= .int j/\C i j/\Q (g i j) G
def rI0 (g:Int->Int->T):R3:=fun x y G Q=>∃i j,x= .int i/\y= .int j/\Q (g i j) G
theorem o_I {f:Value->Value->Sem Value} {C:Int->Int->Prop} {g:Int->Int->V} {g':Int->Int->T} (h:OpR X f (L2.rI C g)) (hg':∀K H i j,Rep K H (g' i j) (g i j)):Op3 X f (rI C g'):=
 Op3.of h fun H G x y a b Q hg ra rb ⟨i,j,ex,ey,c,q⟩=>by
  subst ex;subst ey
  cases (show a= .int i from ra);cases (show b= .int j from rb)
  exact⟨i,j,rfl,rfl,c,g' i j,G,.refl H,hg,hg' _ _ i j,q⟩
theorem o_I0 {f:Value->Value->Sem Value} {g:Int->Int->V} {g':Int->Int->T} (h:OpR X f (L2.rI0 g)) (hg':∀K H i j,Rep K H (g' i j) (g i j)):Op3 X f (rI0 g'):=
 Op3.of h fun H G x y a b Q hg ra rb ⟨i,j,ex,ey,q⟩=>by
  subst ex;subst ey
  cases (show a= .int i from ra);cases (show b= .int j from rb)
  exact⟨i,j,rfl,rfl,g' i j,G,.refl H,hg,hg' _ _ i j,q⟩
theorem o_add:Op3 X (binaryOp .Add) (rI0 fun i j=> .int (i+j)):=o_I0 op_add fun _ _ _ _=>rfl
theorem o_mul:Op3 X (binaryOp .Mult) (rI CMul fun i j=> .int (i*j)):=o_I op_mul fun _ _ _ _=>rfl
theorem qX7:Op3 X (binaryOp .FloorDiv) (rI CDiv fun i j=> .int (i / j)):=o_I qZf fun _ _ _ _=>rfl
theorem jZr:Op3 X (binaryOp .Mod) (rI (fun _ j=>0<j) fun i j=> .int (i%j)):=o_I op_mod fun _ _ _ _=>rfl
theorem o_pow:Op3 X (binaryOp .Pow) (rI CPow fun i j=> .int (i^j.toNat)):=o_I op_pow fun _ _ _ _=>rfl
theorem o_lt:Op3 X (compareOp .Lt) (rI0 fun i j=> .bl (decide (i<j))):=o_I0 op_lt fun _ _ _ _=>rfl
theorem o_le:Op3 X (compareOp .LtE) (rI0 fun i j=> .bl (decide (i<=j))):=o_I0 op_le fun _ _ _ _=>rfl
theorem o_gt:Op3 X (compareOp .Gt) (rI0 fun i j=> .bl (decide (j<i))):=o_I0 op_gt fun _ _ _ _=>rfl
theorem o_ge:Op3 X (compareOp .GtE) (rI0 fun i j=> .bl (decide (j<=i))):=o_I0 op_ge fun _ _ _ _=>rfl
def kJl:T->Bool
 | .non=>true
 | _=>false
theorem Rep.non_iff {K:PySem.W.Frag} {H:Hp} {x:T} {a:V} (r:Rep K H x a):decide (a= .non)=kJl x:=by
 cases x with
 | non=>cases (show a= .non from r);rfl
 | bl b=>cases (show a= .bl b from r);rfl
 | int b=>cases (show a= .int b from r);rfl
 | str b=>cases (show a= .str b from r);rfl
 | ref b=>cases (show a= .ref b from r);rfl
 | ty b=>cases (show a= .ty b from r);rfl
 | tup b=>obtain⟨_,_,e,_⟩:=(show ∃c vs,a= .ref c/\_ from r);subst e;rfl
 | scr b=>obtain⟨_,_,e,_⟩:=(show ∃c vs,a= .ref c/\_ from r);subst e;rfl
theorem o_isN:Op3 X (compareOp .Is) (fun x y G Q=>y= .non/\Q (.bl (kJl x)) G):=
 Op3.of op_isN fun H G x y a b Q hg ra rb ⟨ey,q⟩=>by
  subst ey;cases (show b= .non from rb)
  exact⟨rfl,.bl (kJl x),G,.refl H,hg,by rw[ra.non_iff];rfl,q⟩
theorem kXu:Op3 X (compareOp .IsNot) (fun x y G Q=>y= .non/\Q (.bl (!kJl x)) G):=
 Op3.of qZe fun H G x y a b Q hg ra rb ⟨ey,q⟩=>by
  subst ey;cases (show b= .non from rb)
  exact⟨rfl,.bl (!kJl x),G,.refl H,hg,by rw[ra.non_iff];rfl,q⟩
end
def tOp (r:R3) (ta tb:TE3):TE3:=fun τ G Q=>ta τ G fun x G1=>tb τ G1 fun y G2=>r x y G2 Q
def tUn (r:T->Gp->VK3->Prop) (ta:TE3):TE3:=fun τ G Q=>ta τ G fun x G1=>r x G1 Q
def jJy (t:TE3):TT3:=fun τ G Q=>t τ G fun x G1=>∃c,x= .bl c/\Q c G1
def tAnd (t u:TT3):TT3:=fun τ G Q=>t τ G fun c G1=>if c=true then u τ G1 Q else Q false G1
def tOr (t u:TT3):TT3:=fun τ G Q=>t τ G fun c G1=>if c=true then Q true G1 else u τ G1 Q
def tNot (t:TT3):TT3:=fun τ G Q=>t τ G fun c G1=>Q (!c) G1
def jY6 (ta tb:TE3):TE3:=fun τ G Q=>ta τ G fun x G1=>∃c,x= .bl c/\if c=true then tb τ G1 Q else Q (.bl false) G1
def tOrV (ta tb:TE3):TE3:=fun τ G Q=>ta τ G fun x G1=>∃c,x= .bl c/\if c=true then Q (.bl true) G1 else tb τ G1 Q
def qUs (ta:TE3):TE3:=fun τ G Q=>ta τ G fun x G1=>∃c,x= .bl c/\Q (.bl (!c)) G1
def tIf (t:TT3) (ta tb:TE3):TE3:=fun τ G Q=>t τ G fun c G1=>if c=true then ta τ G1 Q else tb τ G1 Q
noncomputable def jVq (r r':R3) (ta tb tc:TE3):TE3:=fun τ G Q=>ta τ G fun x G1=>tb τ G1 fun y G2=>r x y G2 fun z G3=>∃k,z= .bl k/\if k=true then tc τ G3 (fun w G4=>r' y w G4 Q) else Q (.bl false) G3
def tNil:TA3:=fun _ G Q=>Q [] G
def jJc (ta:TE3) (tr:TA3):TA3:=fun τ G Q=>ta τ G fun x G1=>tr τ G1 fun xs G2=>Q (x::xs) G2
def tTup (t:TA3):TE3:=fun τ G Q=>t τ G fun xs G1=>xs.length<=sizeLine/\Q (.tup xs) G1
def tLst (t:TA3):TE3:=fun τ G Q=>t τ G fun xs G1=>xs.length<=sizeLine/\∀p,G1 p=none->Q (.ref p) (gup G1 p (.lst xs))
def tCB (r:List T->Gp->VK3->Prop) (t:TA3):TE3:=fun τ G Q=>t τ G fun xs G1=>r xs G1 Q
section
variable {X:Cx} {a b c:Expr} {ta tb tc:TE3} {tA tB:TT3} {pos:Pos} {rest es:List Expr} {t:TA3}
theorem e_op {op:Operator} {r:R3} (ho:Op3 X (binaryOp op) r) (ha:PE3 X a ta) (hb:PE3 X b tb):PE3 X (.BinOp a op b pos) (tOp r ta tb):=by
 intro pins s τ G H Q I h
 exact wpAny_BinOp (bin3 ha hb I h fun v u s2 x y G2 H2 e I2 rx ry q=>thn (ho pins s2 τ G2 H2 x y v u Q I2 rx ry q) fun _ _ z=>z.ext e)
theorem e_un {op:UnaryOp} {r:T->Gp->VK3->Prop} (ho:Un3 X (unaryOp op) r) (ha:PE3 X a ta):PE3 X (.UnaryOp op a pos) (tUn r ta):=by
 intro pins s τ G H Q I h
 exact UnaryOp_ (thn (ha pins s τ G H _ I h) fun v s1 w_=>w_.el fun x G1 H1 e I1 r1 q1=>thn (ho pins s1 τ G1 H1 x v Q I1 r1 q1) fun _ _ z=>z.ext e)
theorem qXf {op:CmpOp} {r:R3} (ho:Op3 X (compareOp op) r) (ha:PE3 X a ta) (hb:PE3 X b tb) (hm:behindInMarks op b=false):PE3 X (.Compare a [op] [b] pos) (tOp r ta tb):=by
 intro pins s τ G H Q I h
 exact wpAny_Compare1 (bin3 ha hb I h fun v u s2 x y G2 H2 e I2 rx ry q=>thn (ho pins s2 τ G2 H2 x y v u Q I2 rx ry q) fun _ _ z=>z.ext e) hm
theorem jQb {op:CmpOp} {r:R3} (ho:Op3 X (compareOp op) r) (ha:PE3 X a ta) (hb:PE3 X b tb) (hm:behindInMarks op b=false):PT3 X (.Compare a [op] [b] pos) (jJy (tOp r ta tb)):=by
 intro pins s τ G H Q I h
 refine wpAny_isTrue_Compare1 (bin3 ha hb I h fun v u s2 x y G2 H2 e I2 rx ry q=>thn (ho pins s2 τ G2 H2 x y v u _ I2 rx ry q) fun w' s3 w_=>w_.el fun z G3 H3 e3 I3 r3 ⟨k,ez,q3⟩=> ?_) hm
 subst ez
 obtain⟨v',rv',ru'⟩:=r3
 cases (show v'= .bl k from rv');cases ru'
 exact lVh ⟨G3,H3,e.trans e3,I3,q3⟩
theorem kQd {e:Expr} {t:TE3} (h:PE3 X e t) (he:∀whole,isTrue e X.env whole=(do let v <-whole;standAt e.pos;holding [v] (truthy v)):=by intro _;rfl):PT3 X e (jJy t):=by
 intro pins s τ G H Q I hw
 refine isTrue_plain (thn (h pins s τ G H _ I hw) fun v s1 w_=>w_.el fun x G1 H1 e1 I1 r1 ⟨k,ez,q1⟩=> ?_) (he _)
 subst ez
 obtain⟨v',rv',ru'⟩:=r1
 cases (show v'= .bl k from rv');cases ru'
 exact lVh ⟨G1,H1,e1,I1,q1⟩
def tTru (r:T->Gp->(Bool->Gp->Prop)->Prop) (t:TE3):TT3:=fun τ G Q=>t τ G fun x G1=>r x G1 Q
theorem t_tru {e:Expr} {t:TE3} {r:T->Gp->(Bool->Gp->Prop)->Prop} (hr:Tru3 X r) (h:PE3 X e t) (he:∀whole,isTrue e X.env whole=(do let v <-whole;standAt e.pos;holding [v] (truthy v)):=by intro _;rfl):PT3 X e (tTru r t):=by
 intro pins s τ G H Q I hw
 exact isTrue_plain (thn (h pins s τ G H _ I hw) fun v s1 w_=>w_.el fun x G1 H1 e1 I1 r1 q1=>thn (hr pins s1 τ G1 H1 x v Q I1 r1 q1) fun _ _ z=>z.ext e1) (he _)
theorem w_and1 (ha:PT3 X a tA):PW3 X (.BoolOp .And [a] pos) tA:=by
 intro wh pins s τ G H Q I h
 refine isTrue_and (thn (ha pins s τ G H Q I h) fun c s1 e=> ?_)
 cases c with
 | true=>exact isTrue_and_nil e
 | false=>exact e
theorem qYo (ha:PT3 X a tA):PW3 X (.BoolOp .Or [a] pos) tA:=by
 intro wh pins s τ G H Q I h
 refine isTrue_or (thn (ha pins s τ G H Q I h) fun c s1 e=> ?_)
 cases c with
 | false=>exact isTrue_or_nil e
 | true=>exact e
theorem w_and (ha:PT3 X a tA) (hb:PW3 X (.BoolOp .And (b::rest) pos) tB):PW3 X (.BoolOp .And (a::b::rest) pos) (tAnd tA tB):=by
 intro wh pins s τ G H Q I h
 refine isTrue_and (thn (ha pins s τ G H _ I h) fun c s1 w_=>w_.el fun G1 H1 e1 I1 q1=> ?_)
 cases c with
 | true=>exact thn (hb wh pins s1 τ G1 H1 Q I1 q1) fun _ _ z=>z.ext e1
 | false=>exact⟨G1,H1,e1,I1,q1⟩
theorem w_or (ha:PT3 X a tA) (hb:PW3 X (.BoolOp .Or (b::rest) pos) tB):PW3 X (.BoolOp .Or (a::b::rest) pos) (tOr tA tB):=by
 intro wh pins s τ G H Q I h
 refine isTrue_or (thn (ha pins s τ G H _ I h) fun c s1 w_=>w_.el fun G1 H1 e1 I1 q1=> ?_)
 cases c with
 | true=>exact⟨G1,H1,e1,I1,q1⟩
 | false=>exact thn (hb wh pins s1 τ G1 H1 Q I1 q1) fun _ _ z=>z.ext e1
theorem kKe (ha:PT3 X a tA):PT3 X (.UnaryOp .Not a pos) (tNot tA):=by
 intro pins s τ G H Q I h
 exact isTrue_not (thn (ha pins s τ G H (fun c G1=>Q (!c) G1) I h) fun c s1 w_=>w_.el fun G1 H1 e1 I1 q1=>⟨G1,H1,e1,I1,q1⟩)
theorem kZs {op} {t:TE3} (h:PE3 X a t):PE3 X (.BoolOp op [a] pos) t:=fun pins s τ G H Q I hw=>BoolOp_one (h pins s τ G H Q I hw)
theorem kK3 (ha:PE3 X a ta) (hb:PE3 X (.BoolOp .And (b::rest) pos) tb):PE3 X (.BoolOp .And (a::b::rest) pos) (jY6 ta tb):=by
 intro pins s τ G H Q I h
 refine BoolOp_and (thn (ha pins s τ G H _ I h) fun v s1 w_=>w_.el fun x G1 H1 e1 I1 r1 ⟨k,ez,q1⟩=> ?_)
 subst ez
 obtain⟨v',rv',ru'⟩:=r1
 cases (show v'= .bl k from rv');cases ru'
 refine lVh ?_
 cases k with
 | true=>exact thn (hb pins s1 τ G1 H1 Q I1 q1) fun _ _ z=>z.ext e1
 | false=>exact⟨.bl false,G1,H1,e1,I1,⟨.bl false,rfl,rfl⟩,q1⟩
theorem e_not (ha:PE3 X a ta):PE3 X (.UnaryOp .Not a pos) (qUs ta):=by
 intro pins s τ G H Q I h
 refine UnaryOp_ (thn (ha pins s τ G H _ I h) fun v s1 w_=>w_.el fun x G1 H1 e1 I1 r1 ⟨k,ez,q1⟩=> ?_)
 subst ez
 obtain⟨v',rv',ru'⟩:=r1
 cases (show v'= .bl k from rv');cases ru'
 exact not_of (lVh ⟨.bl (!k),G1,H1,e1,I1,⟨.bl (!k),rfl,rfl⟩,q1⟩)
theorem kV2 (hc:PT3 X c tA) (ha:PE3 X a ta) (hb:PE3 X b tb):PE3 X (.IfExp c a b pos) (tIf tA ta tb):=by
 intro pins s τ G H Q I h
 refine IfExp_ (thn (hc pins s τ G H _ I h) fun k s1 w_=>w_.el fun G1 H1 e1 I1 q1=> ?_)
 cases k with
 | true=>exact thn (ha pins s1 τ G1 H1 Q I1 q1) fun _ _ z=>z.ext e1
 | false=>exact thn (hb pins s1 τ G1 H1 Q I1 q1) fun _ _ z=>z.ext e1
theorem jJf:PA3 X [] tNil:=fun _ _ _ _ G H Q I h=>Calls.spliced_nil ⟨[],G,H,.refl H,I,⟨[],rfl,.nil⟩,h⟩
theorem jJa {e:Expr} {te:TE3} (ha:PE3 X e te) (hr:PA3 X es t) (hs:starEach (e::es) X.env=(false,eval e X.env)::starEach es X.env:=by rfl):PA3 X (e::es) (jJc te t):=by
 intro pos pins s τ G H Q I h
 rw[hs]
 show wpAny _ _ (spliced ((false,eval e X.env)::backTo pos (starEach es X.env))) _ _ s
 refine Calls.spliced_cons (thn (ha pins s τ G H _ I h) fun u s1 w_=>w_.el fun x G1 H1 e1 I1 r1 q1=> ?_)
 refine thn (hr pos pins s1 τ G1 H1 _ I1 q1) fun us s2 w_=>w_.el fun xs G2 H2 e2 I2 r_ q2=>r_.el fun vs rs rv=> ?_
 obtain⟨v,rr,rvv⟩:=r1.mono e2
 exact⟨x::xs,G2,H2,e1.trans e2,I2,⟨v::vs,⟨v,vs,rfl,rr,rs⟩,.cons rvv rv⟩,q2⟩
theorem jVc {x1} (h:PA3 X es t):PE3 X (.Tuple es x1 pos) (tTup t):=by
 intro pins s τ G H Q I hq
 refine wpAny_Tuple_spliced (thn (h pos pins s τ G H _ I hq) fun us s1 w_=>w_.el fun xs G1 H1 e1 i_ r_ ⟨z,q⟩=>i_.el fun σ I1 hs1 hg1=>r_.el fun vs rs rv=>⟨by rw[<-rv.length,<-rs.length];exact z,?_⟩)
 have hf:H1 s1.heap.objs.size=none:=I1.hok.fresh (lJg _)
 have e2:Ext H1 (upd H1 s1.heap.objs.size (.tup vs)):= .upd (.none hf)
 refine⟨.tup xs,G1,upd H1 s1.heap.objs.size (.tup vs),e1.trans e2,⟨σ,I1.laid (t':=s1.toks) (fun b u e=>lJk _ e) (lJg _) ?_,hs1.mono e2,hg1.tupNew hf⟩,⟨.ref s1.heap.objs.size,Rep.tupNew rs hf,rfl⟩,q⟩
 exact⟨by rw[<-rs.length];exact z,us,rv,⟨_,lJ0 _ rfl,rfl,_,rfl,rfl⟩⟩
theorem jK7 (h:PA3 X es t):PE3 X (.List es pos) (tLst t):=by
 intro pins s τ G H Q I hq
 refine wpAny_List_spliced (thn (h pos pins s τ G H _ I hq) fun us s1 w_=>w_.el fun xs G1 H1 e1 i_ r_ ⟨z,q⟩=>i_.el fun σ I1 hs1 hg1=>r_.el fun vs rs rv=>⟨by rw[<-rv.length,<-rs.length];exact z,?_⟩)
 have hf:H1 s1.heap.objs.size=none:=I1.hok.fresh (lJg _)
 have e2:Ext H1 (upd H1 s1.heap.objs.size (.lst vs)):= .upd (.none hf)
 refine⟨.ref s1.heap.objs.size,gup G1 s1.heap.objs.size (.lst xs),upd H1 s1.heap.objs.size (.lst vs),e1.trans e2,⟨σ,I1.laid (t':=s1.toks) (fun b u e=>lJk _ e) (lJg _) ?_,hs1.mono e2,hg1.lstNew rs (.none hf)⟩,⟨.ref s1.heap.objs.size,rfl,rfl⟩,q _ (hg1.fresh hf)⟩
 exact⟨by rw[<-rs.length];exact z,us,0,rv,lJ0 _ rfl⟩
theorem e_ix {r:R3} (hr:Ix3 X r) (ha:PE3 X a ta) (hb:PE3 X b tb) (hs:uJ4 b):PE3 X (.Subscript a b pos) (tOp r ta tb):=by
 intro pins s τ G H Q I h
 exact Subscript_ (bin3 ha hb I h fun v u s2 x y G2 H2 e I2 rx ry q=>thn (hr a b pins s2 τ G2 H2 x y v u Q I2 rx ry q (hs _ _)) fun _ _ z=>z.ext e)
def rIx:R3:=fun x y G Q=>∃xs i t,seqT G x=some xs/\y= .int i/\atI xs i=some t/\Q t G
theorem jVk {o:Option GO} {xs:List T} (h:asL o=some xs):o=some (.lst xs):=by
 cases o with
 | none=>cases h
 | some g=>cases g with
  | lst ys=>cases h;rfl
  | dct _=>cases h
  | dck _=>cases h
  | fdc _=>cases h
  | ins _ _=>cases h
theorem jQ7 {K:PySem.W.Frag} {H:Hp} {G:Gp} {x:T} {a:V} {xs:List T} (hg:GRel K H G) (r:Rep K H x a) (h:seqT G x=some xs):
  ∃p vs,a= .ref p/\(SqL K H p vs\/SqT K H p vs)/\Reps K H xs vs:=by
 cases x with
 | tup ys=>cases h;obtain⟨p,vs,e,h1,h2⟩:=(show ∃p vs,a= .ref p/\H p=some (.tup vs)/\Reps K H xs vs from r);exact⟨p,vs,e,.inr (.of h1),h2⟩
 | scr ys=>cases h;obtain⟨p,vs,e,h1,h2⟩:=(show ∃p vs,a= .ref p/\FrL K H p vs/\Reps K H xs vs from r);exact⟨p,vs,e,.inl h1.sq,h2⟩
 | ref p=>
  obtain⟨vs,h1,h2⟩:=hg.lst (jVk h)
  exact⟨p,vs,r,.inl (.of h1),h2⟩
 | non=>cases h
 | bl _=>cases h
 | int _=>cases h
 | str _=>cases h
 | ty _=>cases h
theorem ix_any:Ix3 X rIx:=
 Ix3.of (ix_list.or ix_tup) fun H G x y a b Q hg ra rb ⟨xs,i,t,hx,ey,ht,q⟩=>by
  subst ey;cases (show b= .int i from rb)
  obtain⟨p,vs,e,hq,r⟩:=jQ7 hg ra hx
  subst e
  obtain⟨v,hv,rv⟩:=r.atI ht
  rcases hq with hq | hq
  ·exact .inl ⟨p,vs,i,v,rfl,rfl,hq,hv,t,G,.refl H,hg,rv,q⟩
  ·exact .inr ⟨p,vs,i,v,rfl,rfl,hq,hv,t,G,.refl H,hg,rv,q⟩
theorem jJq {id:String} {r:List T->Gp->VK3->Prop} {x:Str} {p:Pos} {e:Expr} (hc:Call3 X (.builtin id) r) (hg:Gl X x) (hm:X.mg x=none) (hv:bootBuiltins x=some (.builtin id)) (ha:PA3 X (e::es) t) (hn:x≠"__name__":=by decide) (hdb:(x == ("__debug__":Str))=false:=by decide)
  (he:starEach (e::es) X.env=(false,eval e X.env)::starEach es X.env:=by rfl) (hpl:(backTo pos (starEach es X.env)).any (·.1)=false:=by rfl):PE3 X (.Call (.Name x p) (e::es) [] pos) (tCB r t):=by
 intro pins s τ G H Q I h
 obtain⟨σ,I0,hs0,hg0⟩:=_root_.id I
 refine wpAny_Call_Name_kw (jUb I0 hg hm hv ?_ hn hdb)
 exact lY8 (thn (ha pos pins s τ G H _ I h) fun us s1 w_=>w_.el fun xs G1 H1 e1 I1 r1 q1=>thn (hc pins s1 τ G1 H1 xs us Q I1 r1 q1) fun _ _ z=>z.ext e1) he hpl
theorem jK4 {T0:String} {r:List T->Gp->VK3->Prop} {x:Str} {p:Pos} {e:Expr} (hc:Call3 X (.type T0) r) (hg:Gl X x) (hm:X.mg x=none) (hv:bootBuiltins x=some (.type T0)) (ha:PA3 X (e::es) t) (hn:x≠"__name__":=by decide) (hdb:(x == ("__debug__":Str))=false:=by decide)
  (he:starEach (e::es) X.env=(false,eval e X.env)::starEach es X.env:=by rfl) (hpl:(backTo pos (starEach es X.env)).any (·.1)=false:=by rfl):PE3 X (.Call (.Name x p) (e::es) [] pos) (tCB r t):=by
 intro pins s τ G H Q I h
 obtain⟨σ,I0,hs0,hg0⟩:=_root_.id I
 refine wpAny_Call_Name_kw (jUb I0 hg hm hv ?_ hn hdb)
 exact lQ8 (thn (ha pos pins s τ G H _ I h) fun us s1 w_=>w_.el fun xs G1 H1 e1 I1 r1 q1=>thn (hc pins s1 τ G1 H1 xs us Q I1 r1 q1) fun _ _ z=>z.ext e1) he hpl
theorem jQ8 {K:PySem.W.Frag} {H:Hp} {x:T} {vs:List V} (h:Reps K H [x] vs):∃v,vs=[v]/\Rep K H x v:=by
 obtain⟨v,ws,rfl,r,e⟩:=h;cases e;exact⟨v,rfl,r⟩
theorem kY6 {K:PySem.W.Frag} {H:Hp} {x y:T} {vs:List V} (h:Reps K H [x,y] vs):∃v w,vs=[v,w]/\Rep K H x v/\Rep K H y w:=by
 obtain⟨v,ws,rfl,r,w,ws2,rfl,r2,e⟩:=h;cases e;exact⟨v,w,rfl,r,r2⟩
def rLen:List T->Gp->VK3->Prop:=fun xs G Q=>∃x ys,xs=[x]/\seqT G x=some ys/\Q (.int ys.length) G
theorem jXx:Call3 X (.builtin "len") rLen:=
 Call3.of kUa fun H G xs as Q hg ra ⟨x,ys,e,hx,q⟩=>by
  subst e
  obtain⟨v,rfl,rv⟩:=jQ8 ra
  obtain⟨p,vs,rfl,hq,r⟩:=jQ7 hg rv hx
  exact⟨p,vs,rfl,hq,.int ys.length,G,.refl H,hg,by rw[r.length];rfl,q⟩
def rAbs:List T->Gp->VK3->Prop:=fun xs G Q=>∃i,xs=[.int i]/\Q (.int (if i<0 then -i else i)) G
theorem c_abs:Call3 X (.builtin "abs") rAbs:=
 Call3.of qXi fun H G xs as Q hg ra ⟨i,e,q⟩=>by
  subst e
  obtain⟨v,rfl,rv⟩:=jQ8 ra
  cases (show v= .int i from rv)
  exact⟨i,rfl,.int _,G,.refl H,hg,rfl,q⟩
def rMax:List T->Gp->VK3->Prop:=fun xs G Q=>∃i j,xs=[.int i,.int j]/\Q (.int (if j>i then j else i)) G
theorem c_max (hc:X.calm=true):Call3 X (.builtin "max") rMax:=
 Call3.of (qUf hc) fun H G xs as Q hg ra ⟨i,j,e,q⟩=>by
  subst e
  obtain⟨v,w,rfl,rv,rw'⟩:=kY6 ra
  cases (show v= .int i from rv);cases (show w= .int j from rw')
  exact⟨i,j,rfl,.int _,G,.refl H,hg,rfl,q⟩
def rIntOf:List T->Gp->VK3->Prop:=fun xs G Q=>∃k,xs=[.bl k]/\Q (.int (if k then 1 else 0)) G
def qY9:List T->Gp->VK3->Prop:=fun xs G Q=>∃i j,xs=[.int i,.int j]/\CDiv i j/\Q (.tup [.int (i / j),.int (i%j)]) G
def kVe:List T->Gp->VK3->Prop:=fun xs G Q=>∃x ys,xs=[x]/\seqT G x=some ys/\∀p,G p=none->Q (.ref p) (gup G p (.lst ys))
theorem c_list:Call3 X (.type "list") kVe:=
 Call3.of kQ9 fun H G xs as Q hg ra ⟨x,ys,e,hx,q⟩=>by
  subst e
  obtain⟨v,rfl,rv⟩:=jQ8 ra
  obtain⟨p,vs,rfl,hq,r⟩:=jQ7 hg rv hx
  exact⟨p,vs,rfl,hq,fun l hl=>⟨.ref l,_,.upd (.none hl),hg.lstNew r (.none hl),rfl,q l (hg.fresh hl)⟩⟩
def jK2:List T->Gp->VK3->Prop:=fun xs G Q=>∃x ys,xs=[x]/\seqT G x=some ys/\Q (.tup ys) G
theorem jYh:Call3 X (.type "tuple") jK2:=
 Call3.of kK7 fun H G xs as Q hg ra ⟨x,ys,e,hx,q⟩=>by
  subst e
  obtain⟨v,rfl,rv⟩:=jQ8 ra
  obtain⟨p,vs,rfl,hq,r⟩:=jQ7 hg rv hx
  cases x with
  | tup zs=>
   cases hx
   obtain⟨p',vs',e',h1,h2⟩:=(show ∃p' vs',V.ref p= .ref p'/\H p'=some (.tup vs')/\Reps X.K H ys vs' from rv)
   cases e'
   exact⟨p,vs',rfl,.inr ⟨.of h1,.tup ys,G,.refl H,hg,⟨p,vs',rfl,h1,h2⟩,q⟩⟩
  | scr zs=>
   cases hx
   obtain⟨p',vs',e',h1,h2⟩:=(show ∃p' vs',V.ref p= .ref p'/\FrL X.K H p' vs'/\Reps X.K H ys vs' from rv)
   cases e'
   exact⟨p,vs',rfl,.inl ⟨h1.sq,fun l hl=>⟨.tup ys,G,.upd (.none hl),hg.tupNew hl,Rep.tupNew h2 hl,q⟩⟩⟩
  | ref p'=>
   cases (show V.ref p= .ref p' from rv)
   obtain⟨vs',h1,h2⟩:=hg.lst (jVk hx)
   exact⟨p,vs',rfl,.inl ⟨.of h1,fun l hl=>⟨.tup ys,G,.upd (.none hl),hg.tupNew hl,Rep.tupNew h2 hl,q⟩⟩⟩
  | non=>cases hx
  | bl _=>cases hx
  | int _=>cases hx
  | str _=>cases hx
  | ty _=>cases hx
noncomputable def rCat:R3:=fun x y G Q=>∃p q xs ys,x= .ref p/\y= .ref q/\G p=some (.lst xs)/\G q=some (.lst ys)/\xs.length+ys.length<=sizeLine/\∀l,G l=none->Q (.ref l) (gup G l (.lst (xs++ys)))
noncomputable def rRep:R3:=fun x y G Q=>∃p xs n,x= .ref p/\y= .int n/\G p=some (.lst xs)/\n.toNat * xs.length<=sizeLine/\n<2^62/\ -(2^62)<n/\∀l,G l=none->Q (.ref l) (gup G l (.lst (List.replicate n.toNat xs).flatten))
def tyT (G:Gp) (T0:String) (x:T):Prop:=match x with
 | .str _=>T0="str"
 | .int _=>T0="int"
 | .ref p=>(T0="list"/\∃xs,G p=some (.lst xs))\/(T0="dict"/\((∃kvs,G p=some (.dck kvs))\/∃kvs,G p=some (.dct kvs)))
 | _=>False
theorem tyT.of {K:PySem.W.Frag} {H:Hp} {G:Gp} {T0:String} {x:T} {a:V} (hg:GRel K H G) (r:Rep K H x a) (h:tyT G T0 x):tyV K T0 a H:=by
 cases x with
 | str z=>cases (show a= .str z from r);exact h
 | int z=>cases (show a= .int z from r);exact h
 | ref p=>
  cases (show a= .ref p from r)
  rcases h with ⟨e,xs,h⟩ | ⟨e,h⟩
  ·obtain⟨vs,h1,_⟩:=hg.lst h;exact .inl ⟨e,vs,.of h1⟩
  ·refine .inr (.inr (.inl ⟨e,?_⟩))
   rcases h with ⟨kvs,h⟩ | ⟨kvs,h⟩
   ·obtain⟨ws,h1,_⟩:=hg p _ h;exact .inl ⟨ws,h1⟩
   ·obtain⟨ws,h1,_⟩:=hg p _ h;exact .inr ⟨ws,h1⟩
 | non=>exact False.elim h
 | bl _=>exact False.elim h
 | ty _=>exact False.elim h
 | tup _=>exact False.elim h
 | scr _=>exact False.elim h
def tBM (T0:String) (r:T->List T->Gp->VK3->Prop) (to:TE3) (t:TA3):TE3:=fun τ G Q=>to τ G fun x G1=>tyT G1 T0 x/\t τ G1 fun xs G2=>r x xs G2 Q
theorem e_bm {T0 id:String} {r:T->List T->Gp->VK3->Prop} {o e:Expr} {name:Str} {apos cpos:Pos} {to:TE3} (pa:PlainAttrs T0) (slot:Slot T0 name id) (hty:typeOf (.builtin id)=pure (.type "method_descriptor")) (hm:Mt3 X id r) (ho:PE3 X o to) (ha:PA3 X (e::es) t)
  (hbase:attributeBase o name X.env (eval o X.env)=eval o X.env:=by rfl)
  (hfew:((backTo cpos (starEach (e::es) X.env)).all (fun x=> !x.1)&&(backToKw cpos (keywordEach [] X.env)).all (fun x=>x.1.isSome)
   &&decide ((e::es).length+([]:List Keyword).length+(if ([]:List Keyword).isEmpty then 0 else 1)<30))=true:=by rfl)
  (hline:(apos.endLine == cpos.line)=true:=by rfl) (hs:starEach (e::es) X.env=(false,eval e X.env)::starEach es X.env:=by rfl) (hplain:(backTo cpos (starEach es X.env)).any (·.1)=false:=by rfl):
  PE3 X (.Call (.Attribute o name apos) (e::es) [] cpos) (tBM T0 r to t):=by
 intro pins s τ G H Q I h
 refine wpAny_Call_method_late hbase hfew hline rfl (thn (ho pins s τ G H _ I h) fun v s1 w_=>w_.el fun x G1 H1 e1 I1 r1 ⟨ty,q1⟩=> ?_)
 obtain⟨σ,I0,hs0,hg0⟩:=_root_.id I1
 obtain⟨a0,ra0,rv0⟩:=_root_.id r1
 obtain⟨h1,h2⟩:=tyV_is I0 rv0 (tyT.of hg0 ra0 ty)
 refine⟨T0,id,pa,slot,hty,h1,h2,?_⟩
 have hA:=ha cpos pins s1 τ G1 H1 _ I1 q1
 rw[hs] at hA ⊢
 refine Calls.callWith_builtin (by show (false||(backTo cpos (starEach es X.env)).any (·.1))=false;rw[hplain]<;>rfl) (Calls.evalArgs_plain ?_)
 exact thn hA fun us s2 w_=>w_.el fun vs G2 H2 e2 I2 r2 q2=>thn (hm pins s2 τ G2 H2 x vs v us Q I2 (r1.mono e2) r2 q2) fun _ _ z=>(z.ext e2).ext e1
def jKq:T->List T->Gp->VK3->Prop:=fun x xs G Q=>∃p ys y,x= .ref p/\xs=[y]/\G p=some (.lst ys)/\ys.length<sizeLine/\Q .non (gup G p (.lst (ys++[y])))
def qVc:T->T->T->Gp->(Gp->Prop)->Prop:=fun o i v G Q=>∃p xs k j,o= .ref p/\i= .int k/\G p=some (.lst xs)/\ixN xs.length k=some j/\Q (gup G p (.lst (xs.set j v)))
theorem s_list:Set3 X qVc:=
 Set3.of qU0 fun H G o i v a b c Q hg ra rb rc ⟨p,xs,k,j,eo,ei,hp,hj,q⟩=>by
  subst eo;subst ei
  cases (show a= .ref p from ra);cases (show b= .int k from rb)
  obtain⟨vs,h1,h2⟩:=hg.lst hp
  exact⟨p,vs,k,j,rfl,rfl,h1,by rw[<-h2.length];exact hj,_,.upd (.lst h1),hg.lstNew (h2.set rc j) (.lst h1),q⟩
end
section
variable {X:Cx}
theorem o_cat:Op3 X (binaryOp .Add) rCat:=
 Op3.of op_cat fun H G x y a b Q hg ra rb ⟨p,q,xs,ys,ex,ey,hp,hq,hz,h⟩=>by
  subst ex;subst ey
  cases (show a= .ref p from ra);cases (show b= .ref q from rb)
  obtain⟨vs,h1,h2⟩:=hg.lst hp
  obtain⟨ws,h3,h4⟩:=hg.lst hq
  exact⟨p,q,vs,ws,rfl,rfl,h1,h3,by rw[<-h2.length,<-h4.length];exact hz,fun l hl=>⟨.ref l,_,.upd (.none hl),hg.lstNew (h2.append h4) (.none hl),rfl,h l (hg.fresh hl)⟩⟩
theorem o_rep:Op3 X (binaryOp .Mult) rRep:=
 Op3.of op_rep fun H G x y a b Q hg ra rb ⟨p,xs,n,ex,ey,hp,hz,h1,h2,h⟩=>by
  subst ex;subst ey
  cases (show a= .ref p from ra);cases (show b= .int n from rb)
  obtain⟨vs,h3,h4⟩:=hg.lst hp
  refine⟨p,n,vs,rfl,rfl,h3,by omega,by omega,by rw[<-h4.length,Nat.mul_comm];exact hz,fun l hl=>⟨.ref l,_,.upd (.none hl),hg.lstNew (h4.rep _) (.none hl),rfl,h l (hg.fresh hl)⟩⟩
theorem jKx:Mt3 X "list.append" jKq:=
 Mt3.of qKx fun H G x xs a as Q hg ra ras ⟨p,ys,y,ex,exs,hp,hz,q⟩=>by
  subst ex;subst exs
  cases (show a= .ref p from ra)
  obtain⟨v,rfl,rv⟩:=jQ8 ras
  obtain⟨vs,h1,h2⟩:=hg.lst hp
  exact⟨p,vs,v,rfl,rfl,h1,by rw[<-h2.length];exact hz,.non,_,.upd (.lst h1),hg.lstNew (h2.append (.one rv)) (.lst h1),rfl,q⟩
end
def jKr:TS3:=fun D τ G=>D.nx τ G
def tSeq (t u:TS3):TS3:=fun D τ G=>t {D with nx:=u D} τ G
def jUh (te:TE3):TS3:=fun D τ G=>te τ G fun _ G1=>D.nx τ G1
def tRet (te:TE3):TS3:=fun D τ G=>te τ G D.rt
def tRetN:TS3:=fun D _ G=>D.rt .non G
def tIfS (c:TT3) (t u:TS3):TS3:=fun D τ G=>c τ G fun b G1=>if b=true then t D τ G1 else u D τ G1
def kY1:TS3:=fun D τ G=>D.ct τ G
section
variable {X:Cx} {st:Stmt} {rest:List Stmt} {t u:TS3} {e:Expr} {te:TE3} {pos:Pos}
theorem jKj:PSs3 X [] jKr:=fun _ _ τ G H _ I h=>wpAny_execs_nil ⟨τ,G,H,.refl H,I,h⟩
theorem jJd (h1:PS3 X st t) (h2:PSs3 X rest u):PSs3 X (st::rest) (tSeq t u):=by
 intro pins s τ G H D I h
 refine wpAny_execs_cons (thn (h1 pins s τ G H {D with nx:=u D} I h) fun f s1 q=> ?_)
 cases f with
 | next=>
  obtain⟨τ',G',H',e',I',q⟩:=q
  exact thn (h2 pins s1 τ' G' H' D I' q) fun _ _ z=>z.ext e'
 | ret v=>exact q
 | brk=>exact q
 | cont=>exact q
theorem jJh (h1:PS3 X st t):PSs3 X [st] t:=by
 intro pins s τ G H D I h
 refine wpAny_execs_cons (thn (h1 pins s τ G H D I h) fun f s1 q=> ?_)
 cases f with
 | next=>exact wpAny_execs_nil q
 | ret v=>exact q
 | brk=>exact q
 | cont=>exact q
theorem s_cont:PS3 X (.Continue pos) kY1:=fun _ _ τ G H _ I h=>wpAny_Continue ⟨τ,G,H,.refl H,I,h⟩
theorem jQw (he:PE3 X e te) (hs:swapsWith e none pos.line X.env=pure false:=by rfl):PS3 X (.Expr e pos) (jUh te):=by
 intro pins s τ G H D I h
 obtain⟨σ,I0,hs0,hg0⟩:=id I
 exact wpAny_Expr_any (thn (he pins s τ G H _ I h) fun v s1 w_=>w_.el fun x G1 H1 e1 I1 r1 q1=>⟨τ,G1,H1,e1,I1,q1⟩) I0.quiet hs
theorem jJz (he:PE3 X e te):PS3 X (.Return (some e) pos) (tRet te):=by
 intro pins s τ G H D I h
 exact wpAny_Return_some (thn (he pins s τ G H _ I h) fun v s1 w_=>w_.el fun x G1 H1 e1 I1 r1 q1=>⟨x,τ,G1,H1,e1,I1,r1,q1⟩)
theorem s_if {c:Expr} {a b:List Stmt} {tc:TT3} (hc:PT3 X c tc) (ha:PSs3 X a t) (hb:PSs3 X b u):PS3 X (.If c a b pos) (tIfS tc t u):=by
 intro pins s τ G H D I h
 refine wpAny_If (thn (hc pins s τ G H _ I h) fun d s1 w_=>w_.el fun G1 H1 e1 I1 q1=> ?_)
 cases d with
 | true=>exact thn (ha pins s1 τ G1 H1 D I1 q1) fun _ _ z=>z.ext e1
 | false=>exact thn (hb pins s1 τ G1 H1 D I1 q1) fun _ _ z=>z.ext e1
end
abbrev TG3:=T->St3->Gp->(St3->Gp->Prop)->Prop
abbrev TGs3:=List T->St3->Gp->(St3->Gp->Prop)->Prop
def GP3 (X:Cx) (pins:List (Addr×Obj)) (H:Hp) (Q:St3->Gp->Prop) (s':Shared):Prop:=∃ τ' G' H',Ext H H'/\Inv3 X pins τ' G' H' s'/\Q τ' G'
def PG3 (X:Cx) (target:Expr) (t:TG3):Prop:=
 ∀(pins:List (Addr×Obj)) (s:Shared) (τ:St3) (G:Gp) (H:Hp) (v:T) (u:Value) (Q:St3->Gp->Prop),Inv3 X pins τ G H s->RU X.K H v u->t v τ G Q->
  wpAny (model X.prog X.w) X.A (assign target X.env u) (fun _ s'=>GP3 X pins H Q s') X.xe s
def PGs3 (X:Cx) (ts:List Expr) (t:TGs3):Prop:=
 ∀(pins:List (Addr×Obj)) (s:Shared) (τ:St3) (G:Gp) (H:Hp) (vs:List T) (us:List Value) (Q:St3->Gp->Prop),Inv3 X pins τ G H s->RUs X.K H vs us->t vs τ G Q->
  wpAny (model X.prog X.w) X.A (assignInOrder ((assignEach ts X.env).map (·.2)) us) (fun _ s'=>GP3 X pins H Q s') X.xe s
def jJg (i:Nat):TG3:=fun v τ G Q=>Q (τ.set i (some v)) G
def gNil:TGs3:=fun vs τ G Q=>vs=[]/\Q τ G
def jKg (t:TG3) (u:TGs3):TGs3:=fun vs τ G Q=>∃v r,vs=v::r/\t v τ G fun τ' G'=>u r τ' G' Q
def gTup (n:Nat) (t:TGs3):TG3:=fun v τ G Q=>∃xs,v= .tup xs/\xs.length=n/\t xs τ G Q
def gSub (to ti:TE3) (t:T->T->T->Gp->(Gp->Prop)->Prop):TG3:=fun v τ G Q=>to τ G fun o G1=>ti τ G1 fun i G2=>t o i v G2 fun G3=>Q τ G3
def tAsg (te:TE3) (g:TG3):TS3:=fun D τ G=>te τ G fun x G1=>g x τ G1 D.nx
section
variable {X:Cx} {pos:Pos}
theorem jJm {i:Nat} {x:Str} (hN:X.N.Nodup) (hi:X.N[i]? =some x:=by rfl) (hx:Loc X.env.scope x:=by first | exact Or.inl rfl | exact Or.inr rfl) (hf:X.fn x=true\/X.env.scope.names.lookup x=some .local:=by first | exact .inl rfl | exact .inr rfl):PG3 X (.Name x pos) (jJg i):=by
 rintro pins s τ G H v u Q ⟨σ,I,hs,hg⟩ ⟨a,ra,rv⟩ h
 exact wpAny_assign_Name (kKh I hN hi hx rv (fun s' I'=>⟨_,G,H,.refl H,⟨_,I',hs.set i ra,hg⟩,h⟩) hf)
theorem jVa:PGs3 X [] gNil:=by
 rintro pins s τ G H vs us Q I ⟨as,r,rv⟩ ⟨e,h⟩
 subst e
 cases (show as=[] from r)
 cases rv
 exact assignInOrder_nil ⟨τ,G,H,.refl H,I,h⟩
theorem jJ6 {e:Expr} {es:List Expr} {t:TG3} {u:TGs3} (h1:PG3 X e t) (h2:PGs3 X es u)
  (hs:(assignEach (e::es) X.env).map (·.2)=assign e X.env::(assignEach es X.env).map (·.2):=by rfl):PGs3 X (e::es) (jKg t u):=by
 rintro pins s τ G H vs us Q I ⟨as,r,rv⟩ ⟨v,vr,e1,h⟩
 subst e1
 obtain⟨a,ar,rfl,ra,rar⟩:=r
 cases rv with
 | cons q qq=>
  rw[hs]
  refine assignInOrder_cons (thn (h1 pins s τ G H v _ _ I ⟨a,ra,q⟩ h) fun _ s1 ⟨τ1,G1,H1,e1,I1,q1⟩=> ?_)
  exact thn (h2 pins s1 τ1 G1 H1 vr _ Q I1 ⟨ar,Reps.mono e1 _ rar,qq⟩ q1) fun _ s2 ⟨τ2,G2,H2,e2,z⟩=>⟨τ2,G2,H2,e1.trans e2,z⟩
theorem jZz {es:List Expr} {k:Nat} {t:TGs3} {n:Nat} (hc:X.calm=true) (h:PGs3 X es t)
  (hn:(assignEach es X.env).length=n:=by rfl) (hst:(assignEach es X.env).findIdx? (·.1)=none:=by rfl):PG3 X (.Tuple es k pos) (gTup n t):=by
 rintro pins s τ G H v u Q ⟨σ,I,hs,hg⟩ ⟨a,ra,rv⟩ ⟨xs,ev,hl,hw⟩
 subst ev
 obtain⟨p,vs,e1,h1,r1⟩:=(show ∃p vs,a= .ref p/\H p=some (.tup vs)/\Reps X.K H xs vs from ra)
 subst e1
 cases rv
 obtain⟨its,rv,ht,hz⟩:=I.tuple (.of h1)
 refine assign_Tuple_tuple (I.ok.hd hc) ht (by simp[hn,<-hl,r1.length,rv.length]) hst fun h' hx=> ?_
 have I1:Inv X pins σ H {s with heap:=h'}:=I.kept (t':=s.toks) fun b o e=>hx b o (lJm (lJi e)) e
 exact h pins _ τ G H xs _ Q ⟨σ,I1,hs,hg⟩ ⟨vs,r1,by simpa using rv⟩ hw
theorem kVw {o i:Expr} {to ti:TE3} {t:T->T->T->Gp->(Gp->Prop)->Prop} (ho:PE3 X o to) (hi:PE3 X i ti) (hs:Set3 X t)
  (ha:∀v,assign (.Subscript o i pos) X.env v=(do
   let ov <-holding [v] (eval o X.env)
   let iv <-holding [v,ov] (eval i X.env)
   standAt pos
   holding [v,ov,iv] (setItem ov iv v)
   release [v,ov,iv] []):=by intro _;rfl):PG3 X (.Subscript o i pos) (gSub to ti t):=by
 intro pins s τ G H v u Q I r h
 rw[ha]
 refine lJa (lKx (thn (ho pins s τ G H _ I h) fun ov s1 w_=>w_.el fun x G1 H1 e1 I1 r1 q1=> ?_))
 refine lJa (lKx (thn (hi pins s1 τ G1 H1 _ I1 q1) fun iv s2 w_=>w_.el fun y G2 H2 e2 I2 r2 q2=> ?_))
 refine lJa (wpAny_standAt (lJa (lKx (thn (hs pins s2 τ G2 H2 x y v ov iv u _ I2 (r1.mono e2) r2 (r.mono (e1.trans e2)) q2) fun _ s3 ⟨G3,H3,e3,I3,q3⟩=> ?_))))
 exact wpAny_release ⟨τ,G3,H3,(e1.trans e2).trans e3,I3,q3⟩
theorem kKl {tg e:Expr} {te:TE3} {g:TG3} (he:PE3 X e te) (hg:PG3 X tg g) (hs:swapsWithSole [tg] e pos.line X.env=pure false:=by rfl) (hw:swappedStores [tg] e X.env=pure none:=by rfl)
  (h1:(assignEach [tg] X.env).map (·.2)=[assign tg X.env]:=by rfl):PS3 X (.Assign [tg] e pos) (tAsg te g):=by
 intro pins s τ G H D I h
 refine wpAny_Assign_stores (thn (he pins s τ G H _ I h) fun v s1 w_=>w_.el fun x G1 H1 e1 I1 r1 q1=> ?_) hs hw
 rw[h1]
 exact thn (hg pins s1 τ G1 H1 x v _ I1 r1 q1) fun _ s2 ⟨τ2,G2,H2,e2,q⟩=>⟨τ2,G2,H2,e1.trans e2,q⟩
theorem jJw {i:Nat} {x:Str} {e:Expr} {te:TE3} {pos':Pos} (hN:X.N.Nodup) (he:PE3 X e te) (hi:X.N[i]? =some x:=by rfl) (hx:Loc X.env.scope x:=by first | exact Or.inl rfl | exact Or.inr rfl)
  (hs:swapsWith e (some (.Name x pos')) pos.line X.env=pure false:=by rfl) (hf:X.fn x=true\/X.env.scope.names.lookup x=some .local:=by first | exact .inl rfl | exact .inr rfl):
  PS3 X (.Assign [.Name x pos'] e pos) (tAsg te (jJg i)):=by
 intro pins s τ G H D I h
 refine wpAny_Assign_Name (thn (he pins s τ G H _ I h) fun v s1 w_=>w_.el fun y G1 H1 e1 i_ r_ q1=>i_.el fun σ I1 hs1 hg1=>r_.el fun a ra rv=> ?_) hs
 exact kKh I1 hN hi hx rv (fun s2 I2=>⟨_,G1,H1,e1,⟨_,I2,hs1.set i ra,hg1⟩,q1⟩) hf
def tPar (i j:Nat) (ta:TA3):TS3:=fun D τ G=>ta τ G fun vs G1=>∃v w,vs=[v,w]/\D.nx ((τ.set i (some v)).set j (some w)) G1
noncomputable def jVp (c:TT3) (tb:TS3):TS3:=fun D τ G=>∃W:Nat->St3->Gp->Prop,(∃m,W m τ G)/\∀m τ G,W m τ G->
 c τ G fun b G1=>if b=true then ∃N:St3->Gp->Prop,(∀ τ' G',N τ' G'->∃m',m'<m/\W m' τ' G')/\tb {D with nx:=N,ct:=N,bk:=D.nx} τ G1 else D.nx τ G1
theorem kKk {c:Expr} {body:List Stmt} {tc:TT3} {tb:TS3} (hp:PassesOwn (model X.prog X.w) X.A X.env X.xe) (hc:PT3 X c tc) (hb:PSs3 X body tb):PS3 X (.While c body [] pos) (jVp tc tb):=by
 intro pins s τ G H D I h
 obtain⟨W,⟨m0,w0⟩,turn⟩:=h
 refine wpAny_While (codeAny_whileLoop (fun n s'=>∃ τ' G' H',Ext H H'/\Inv3 X pins τ' G' H' s'/\W n τ' G') ?_ m0 ⟨τ,G,H,.refl H,I,w0⟩)
 rintro n s1 ⟨τ1,G1,H1,e1,I1,w1⟩
 refine lV8 hp (thn (hc pins s1 τ1 G1 H1 _ I1 (turn n τ1 G1 w1)) fun b s2 w_=>w_.el fun G2 H2 e2 I2 q2=> ?_)
 cases b with
 | true=>
  obtain⟨N,hN,q2⟩:=q2
  rw[lJc rfl]
  refine lV8 hp (thn (hb pins s2 τ1 G2 H2 _ I2 q2) fun f s3 q3=> ?_)
  cases f with
  | next=>
   obtain⟨τ3,G3,H3,e3,I3,n3⟩:=q3
   obtain⟨m',hm,w3⟩:=hN τ3 G3 n3
   exact⟨m',hm,τ3,G3,H3,(e1.trans e2).trans e3,I3,w3⟩
  | cont=>
   obtain⟨τ3,G3,H3,e3,I3,n3⟩:=q3
   obtain⟨m',hm,w3⟩:=hN τ3 G3 n3
   exact⟨m',hm,τ3,G3,H3,(e1.trans e2).trans e3,I3,w3⟩
  | brk=>exact SP3.ext (f:= .next) (e1.trans e2) q3
  | ret v=>exact SP3.ext (f:= .ret v) (e1.trans e2) q3
 | false=>
  rw[lJb lJs]
  exact wpAny_execs_nil ⟨τ1,G2,H2,e1.trans e2,I2,q2⟩
end
def Items (K:PySem.W.Frag) (H0:Hp) (J:It) (xs:List T) (stay:Gp->Prop):Prop:=
 ∀i H G,Ext H0 H->GRel K H G->stay G->(i<xs.length->J.go i H)/\(xs.length<=i->J.stop i H)/\(i<xs.length->∀x H',J.yld i H x H'->Ext H H'/\GRel K H' G/\∃t,xs[i]? =some t/\Rep K H' t x)
abbrev TI3:=St3->Gp->(List T->(Gp->Prop)->Gp->Prop)->Prop
def PIE3 (X:Cx) (pins:List (Addr×Obj)) (τ:St3) (H:Hp) (tg:Expr) (R:List T->(Gp->Prop)->Gp->Prop) (itv:Value) (s2:Shared):Prop:=
 ∃(it:Addr) (fp:List Addr) (tn:Nat->Heap->Prop) (J:It) (xs:List T) (stay:Gp->Prop) (G':Gp) (H':Hp),itv= .ref it/\Ext H H'/\Inv3 X pins τ G' H' s2/\Turn X.prog X.w X.K tg J fp it tn/\tn 0 s2.heap/\(∀b∈fp,FpOk X pins H' b)/\
  Items X.K H' J xs stay/\R xs stay G'
def PI3 (X:Cx) (tg iter:Expr) (wi:TI3):Prop:=
 ∀(pins:List (Addr×Obj)) (s:Shared) (τ:St3) (G:Gp) (H:Hp) (R:List T->(Gp->Prop)->Gp->Prop),Inv3 X pins τ G H s->wi τ G R->
  wpAny (model X.prog X.w) X.A (eval iter X.env) (fun v s1=>wpAny (model X.prog X.w) X.A (pyIter v) (PIE3 X pins τ H tg R) X.xe s1) X.xe s
noncomputable def tFor (wi:TI3) (g:TG3) (tb:TS3):TS3:=fun D τ G=>wi τ G fun xs stay G1=>∃P:Nat->St3->Gp->Prop,P 0 τ G1/\(∀i τ G,i<=xs.length->P i τ G->stay G)/\
 (∀i x τ G,xs[i]? =some x->P i τ G->g x τ G fun τ2 G2=>tb {D with nx:=P (i+1),ct:=P (i+1),bk:=D.nx} τ2 G2)/\∀ τ G,P xs.length τ G->D.nx τ G
section
variable {X:Cx} {tg:Expr} {pos:Pos}
theorem jQn {iter:Expr} {body:List Stmt} {wi:TI3} {g:TG3} {tb:TS3} (hp:PassesOwn (model X.prog X.w) X.A X.env X.xe) (hc:X.calm=true) (hi:PI3 X tg iter wi) (hg:PG3 X tg g) (hb:PSs3 X body tb)
  (hs:∀x,foldedSetIterable iter X.env x=pure x:=by intro _;rfl):PS3 X (.For tg iter body [] pos) (tFor wi g tb):=by
 intro pins s τ G H D I h
 refine wpAny_For (thn (hi pins s τ G H _ I h) fun v s1 h1=>thn h1 fun itv s2 h2=> ?_) hs
 obtain⟨it,fp,tn,J,xs,stay,G2,H2,e,eH,I2,T0,st2,f2,IT,P,p0,hstay,turn,fin⟩:=h2
 subst e
 have stat:∀ {H':Hp},(∀b∈fp,H' b=none)->∀b∈fp,FpOk X pins H' b:=fun hn b hb=>⟨hn b hb,(f2 b hb).2⟩
 refine codeAny_forLoop_any (fun n s'=>∃i τ' G' H',n=xs.length-i/\i<=xs.length/\Ext H2 H'/\Inv3 X pins τ' G' H' s'/\tn i s'.heap/\(∀b∈fp,H' b=none)/\P i τ' G') ?_ xs.length ⟨0,τ,G2,H2,rfl,lJz _,.refl _,I2,st2,fun b hb=>(f2 b hb).1,p0⟩
 rintro n s3 ⟨i,τ3,G3,H3,en,hi3,e3,⟨σ3,I3,hs3,hg3⟩,st3,fr3,p3⟩
 obtain⟨go,stop,yl⟩:=IT i H3 G3 e3 hg3 (hstay i τ3 G3 hi3 p3)
 by_cases hlt:i<xs.length
 ·refine lV8 hp (thn (T0.item X rfl rfl rfl hc i pins s3 σ3 H3 X.xe I3 (stat fr3) st3 (go hlt)) fun r s4 ⟨u,hr,h4⟩=> ?_)
  subst hr
  refine lV8 hp (thn h4 fun _ s5 ⟨x,H5,I5,r5,y5,st5,fr5⟩=> ?_)
  obtain⟨e5,g5,t,ht,rt⟩:=yl hlt x H5 y5
  have I5':=I5.pinned (stat fr5) (T0.obj _ _ st5)
  refine lV8 hp (thn (hg _ s5 τ3 G3 H5 t u _ ⟨σ3,I5',hs3.mono e5,g5⟩ ⟨x,rt,r5⟩ (turn i t τ3 G3 ht p3)) fun _ s6 ⟨τ6,G6,H6,e6,I6,q6⟩=> ?_)
  refine lV8 hp (thn (hb _ s6 τ6 G6 H6 _ I6 q6) fun f s7 q7=> ?_)
  have e36:Ext H2 H6:=(e3.trans e5).trans e6
  have again:∀ {τ7:St3} {G7:Gp} {H7:Hp},Ext H6 H7->Inv3 X (pins++jQq fp s5.heap) τ7 G7 H7 s7->P (i+1) τ7 G7->
    ∃m,m<n/\∃i τ' G' H',m=xs.length-i/\i<=xs.length/\Ext H2 H'/\Inv3 X pins τ' G' H' s7/\tn i s7.heap/\(∀b∈fp,H' b=none)/\P i τ' G':=fun {τ7 G7 H7} e7 ⟨σ7,I7,hs7,hg7⟩ p7=>by
   refine⟨xs.length-(i+1),by omega,i+1,τ7,G7,H7,rfl,hlt,e36.trans e7,⟨σ7,I7.unpinned,hs7,hg7⟩,T0.keep _ _ _ st5 fun b hb o e=>(I7.pin (b,o) (lJ3 _ (lJ3 _ (jQl hb e)))).1,fun b hb=> ?_,p7⟩
   obtain⟨o,e,d⟩:=T0.obj _ _ st5 b hb
   exact (I7.pin (b,o) (lJ3 _ (lJ3 _ (jQl hb e)))).2.1
  have un:∀ {τ7:St3} {G7:Gp} {H7:Hp},Inv3 X (pins++jQq fp s5.heap) τ7 G7 H7 s7->Inv3 X pins τ7 G7 H7 s7:=fun ⟨σ7,I7,a,b⟩=>⟨σ7,I7.unpinned,a,b⟩
  cases f with
  | next=>obtain⟨τ7,G7,H7,e7,I7,n7⟩:=q7;exact again e7 I7 n7
  | cont=>obtain⟨τ7,G7,H7,e7,I7,n7⟩:=q7;exact again e7 I7 n7
  | brk=>obtain⟨τ7,G7,H7,e7,I7,q7⟩:=q7;exact⟨τ7,G7,H7,(eH.trans e36).trans e7,un I7,q7⟩
  | ret v=>obtain⟨x7,τ7,G7,H7,e7,I7,r7,q7⟩:=q7;exact⟨x7,τ7,G7,H7,(eH.trans e36).trans e7,un I7,r7,q7⟩
 ·have ei:i=xs.length:=by omega
  refine lV8 hp (thn (T0.done X rfl rfl rfl hc i pins s3 σ3 H3 X.xe I3 (stat fr3) st3 (stop (by omega))) fun r s4 ⟨hr,I4⟩=> ?_)
  subst hr;subst ei
  exact wpAny_execs_nil ⟨τ3,G3,H3,eH.trans e3,⟨σ3,I4,hs3,hg3⟩,fin τ3 G3 p3⟩
def iSeq (tl:TE3):TI3:=fun τ G R=>tl τ G fun x G1=>∃xs,seqT G1 x=some xs/\R xs (fun G'=>seqT G' x=some xs) G1
theorem jQu {l:Expr} {tl:TE3} (hl:PE3 X l tl):PI3 X tg l (iSeq tl):=by
 intro pins s τ G H R I h
 refine thn (hl pins s τ G H _ I h) fun v s1 w_=>w_.el fun x G1 H1 e1 i_ r_ ⟨xs,hx,q⟩=>i_.el fun σ I1 hs1 hg1=>r_.el fun a ra rv=> ?_
 obtain⟨p,vs,e,hq,r⟩:=jQ7 hg1 ra hx
 subst e
 cases rv
 have fpk:∀b∈[s1.heap.objs.size],FpOk X pins H1 b:=fun b hb=>by
  have e:b=s1.heap.objs.size:=by simpa using hb
  subst e
  exact I1.fpOk (lJg _) (I1.hok.fresh (lJg _))
 rcases hq with hq | hq
 ·obtain⟨its,rv,pl,hz⟩:=I1.list hq
  refine lYf pl.isList ?_
  refine⟨s1.heap.objs.size,[s1.heap.objs.size],_,_,xs,fun G'=>seqT G' x=some xs,G1,H1,rfl,e1,⟨σ,I1.kept (t':=s1.toks) fun b o e=>lJk _ e,hs1,hg1⟩,kZ8 p _,⟨_,lJ0 _ rfl,rfl,rfl⟩,fpk,?_,q⟩
  intro i H2 G2 e2 g2 st
  have ra2:=Rep.mono e2 _ ra
  have now:∃ws,SqL X.K H2 p ws/\Reps X.K H2 xs ws:=by
   cases x with
   | scr ys=>cases hx;obtain⟨p',ws,ep,h1,h2⟩:=(show ∃p' ws,V.ref p= .ref p'/\FrL X.K H2 p' ws/\Reps X.K H2 xs ws from ra2);cases ep;exact⟨ws,h1.sq,h2⟩
   | ref p'=>cases (show V.ref p= .ref p' from ra);obtain⟨ws,h1,h2⟩:=g2.lst (jVk st);exact⟨ws,.of h1,h2⟩
   | tup ys=>
    obtain⟨p',ws,ep,h1,h2⟩:=(show ∃p' ws,V.ref p= .ref p'/\H1 p'=some (.tup ws)/\Reps X.K H1 ys ws from ra)
    cases ep
    exfalso
    obtain⟨its',_,pl',_⟩:=I1.tuple (.of h1)
    obtain⟨o,n,ho,hc,_⟩:=pl
    obtain⟨o',ho',hc',_⟩:=pl'
    rw[ho] at ho';cases ho'
    rw[hc] at hc';exact absurd hc' (by decide)
   | non=>cases hx
   | bl _=>cases hx
   | int _=>cases hx
   | str _=>cases hx
   | ty _=>cases hx
  obtain⟨ws,h1,h2⟩:=now
  have hlen:=h2.length
  refine⟨fun hi=> ?_,fun hi=>⟨ws,h1,by omega⟩,fun _ y H' ⟨eH,hy⟩=> ?_⟩
  ·exact⟨ws,ws[i]'(by omega),h1,by simp[hlen▸hi]⟩
  ·subst eH
   obtain⟨t,ht,rt⟩:=h2.get' (hy ws h1)
   exact⟨.refl _,g2,t,ht,rt⟩
 ·obtain⟨its,rv,pl,hz⟩:=I1.tuple hq
  refine wpAny_pyIter_tuple (show s1.heap.IsTuple p its.toArray from pl) ?_
  refine⟨s1.heap.objs.size,[s1.heap.objs.size],_,_,xs,fun G'=>seqT G' x=some xs,G1,H1,rfl,e1,⟨σ,I1.kept (t':=s1.toks) fun b o e=>lJk _ e,hs1,hg1⟩,kYy p _,⟨_,lJ0 _ rfl,rfl,rfl⟩,fpk,?_,q⟩
  intro i H2 G2 e2 g2 st
  have ra2:=Rep.mono e2 _ ra
  have now:∃ws,H2 p=some (.tup ws)/\Reps X.K H2 xs ws:=by
   cases x with
   | tup ys=>cases hx;obtain⟨p',ws,ep,h1,h2⟩:=(show ∃p' ws,V.ref p= .ref p'/\H2 p'=some (.tup ws)/\Reps X.K H2 xs ws from ra2);cases ep;exact⟨ws,h1,h2⟩
   | scr ys=>
    obtain⟨p',ws,ep,h1,h2⟩:=(show ∃p' ws,V.ref p= .ref p'/\FrL X.K H1 p' ws/\Reps X.K H1 ys ws from ra)
    cases ep
    exfalso
    obtain⟨its',_,pl',_⟩:=I1.list h1.sq
    obtain⟨o,n,ho,hc,_⟩:=pl'
    obtain⟨o',ho',hc',_⟩:=pl
    rw[ho] at ho';cases ho'
    rw[hc] at hc';exact absurd hc' (by decide)
   | ref p'=>
    cases (show V.ref p= .ref p' from ra)
    obtain⟨ws,h1,h2⟩:=hg1.lst (jVk hx)
    exfalso
    obtain⟨its',_,pl',_⟩:=I1.list (.of h1)
    obtain⟨o,n,ho,hc,_⟩:=pl'
    obtain⟨o',ho',hc',_⟩:=pl
    rw[ho] at ho';cases ho'
    rw[hc] at hc';exact absurd hc' (by decide)
   | non=>cases hx
   | bl _=>cases hx
   | int _=>cases hx
   | str _=>cases hx
   | ty _=>cases hx
  obtain⟨ws,h1,h2⟩:=now
  have hlen:=h2.length
  refine⟨fun hi=> ?_,fun hi=>⟨ws,.of h1,by omega⟩,fun _ y H' ⟨eH,hy⟩=> ?_⟩
  ·exact⟨ws,ws[i]'(by omega),.of h1,by simp[hlen▸hi]⟩
  ·subst eH
   obtain⟨t,ht,rt⟩:=h2.get' (hy ws (.of h1))
   exact⟨.refl _,g2,t,ht,rt⟩
def rngT (lo:Int) (n:Nat):List T:=(List.range n).map fun (k:Nat)=>T.int (lo+k)
def jK6 (ta:TA3):TI3:=fun τ G R=>ta τ G fun vs G1=>∃j:Int,vs=[.int j]/\ -(2^62)<=j/\j<2^62/\R (rngT 0 j.toNat) (fun _=>True) G1
def jYq (ta:TA3):TI3:=fun τ G R=>ta τ G fun vs G1=>∃i j:Int,vs=[.int i,.int j]/\(-(2^62)<=i/\i<2^62/\ -(2^62)<=j/\j<2^62)/\R (rngT i (j-i).toNat) (fun _=>True) G1
theorem kQy {K:PySem.W.Frag} {H:Hp} (lo:Int) (n:Nat):Items K H (Itr lo n) (rngT lo n) fun _=>True:=by
 intro i H' G e g _
 have hl:(rngT lo n).length=n:=by simp[rngT]
 refine⟨fun h=>by rw[hl] at h;exact h,fun h=>by rw[hl] at h;exact h,fun hi x H2 ⟨eH,ex⟩=> ?_⟩
 rw[hl] at hi
 subst eH;subst ex
 exact⟨.refl _,g,.int (lo+i),by simp[rngT,hi],rfl⟩
theorem jKy {a:Expr} {ta:TA3} {p:Pos} (hg:Gl X "range") (hm:X.mg "range"=none) (ha:PA3 X [a] ta) (hs:starEach [a] X.env=[(false,eval a X.env)]:=by rfl):PI3 X tg (.Call (.Name "range" p) [a] [] pos) (jK6 ta):=by
 intro pins s τ G H R I h
 obtain⟨σ,I0,hs0,hg0⟩:=id I
 refine Call_ (jUb I0 hg hm boot_range (lQ8 (thn (ha pos pins s τ G H _ I h) fun us s1 w_=>w_.el fun xs G1 H1 e1 i_ r_ q1=>i_.el fun σ I1 hs1 hg1=>r_.el fun as ras rvs=> ?_) hs rfl))
 obtain⟨j,e,q1,q2,q⟩:=q1
 subst e
 obtain⟨v,rfl,rv⟩:=jQ8 ras
 cases (show v= .int j from rv)
 obtain⟨u,rfl,ru⟩:=rvs.one
 obtain⟨t,rfl⟩:=ru
 refine call_range_1 (thn (kXn (tg:=tg) (R:=fun J H'=>J=Itr 0 j.toNat/\H'=H1) I1 (by omega) (by omega) q1 q2 ⟨by simp,rfl⟩) fun itv s2 z=> ?_)
 obtain⟨it,fp,tn,J,H',ei,I2,T0,st,fk,eJ,eH⟩:=z
 subst eJ;subst eH
 exact⟨it,fp,tn,_,rngT 0 j.toNat,fun _=>True,G1,H',ei,e1,⟨σ,I2,hs1,hg1⟩,T0,st,fk,kQy 0 j.toNat,q⟩
theorem jXt {a b:Expr} {ta:TA3} {p:Pos} (hg:Gl X "range") (hm:X.mg "range"=none) (ha:PA3 X [a,b] ta) (hs:starEach [a,b] X.env=[(false,eval a X.env),(false,eval b X.env)]:=by rfl) (hs2:starEach [b] X.env=[(false,eval b X.env)]:=by rfl):
  PI3 X tg (.Call (.Name "range" p) [a,b] [] pos) (jYq ta):=by
 intro pins s τ G H R I h
 obtain⟨σ,I0,hs0,hg0⟩:=id I
 refine Call_ (jUb I0 hg hm boot_range (lQ8 (thn (ha pos pins s τ G H _ I h) fun us s1 w_=>w_.el fun xs G1 H1 e1 i_ r_ q1=>i_.el fun σ I1 hs1 hg1=>r_.el fun as ras rvs=> ?_) (by rw[hs,hs2]) (by rw[hs2];rfl)))
 obtain⟨i,j,e,⟨q1,q2,q3,q4⟩,q⟩:=q1
 subst e
 obtain⟨v,w,rfl,rv,rw'⟩:=kY6 ras
 cases (show v= .int i from rv);cases (show w= .int j from rw')
 obtain⟨u,u',rfl,ru,ru'⟩:=rvs.two
 obtain⟨t,rfl⟩:=ru
 obtain⟨t',rfl⟩:=ru'
 refine call_range_2 (thn (kXn (tg:=tg) (R:=fun J H'=>J=Itr i (j-i).toNat/\H'=H1) I1 q1 q2 q3 q4 ⟨rfl,rfl⟩) fun itv s2 z=> ?_)
 obtain⟨it,fp,tn,J,H',ei,I2,T0,st,fk,eJ,eH⟩:=z
 subst eJ;subst eH
 exact⟨it,fp,tn,_,rngT i (j-i).toNat,fun _=>True,G1,H',ei,e1,⟨σ,I2,hs1,hg1⟩,T0,st,fk,kQy i (j-i).toNat,q⟩
end
abbrev Sp3:=List T->Gp->VK3->Prop
def dn (K:PySem.W.Frag) (n:Nat) (sp:Sp3):Sp:=fun vs H Q _=>vs.length=n/\∃xs G,Reps K H xs vs/\GRel K H G/\sp xs G fun t G'=>∀v H',Ext H H'->GRel K H' G'->Rep K H' t v->Q v H'
def Fn3 (P:Program) (w:World) (K:PySem.W.Frag) (mg:Str->Option Value) (base:Heap) (k:Nat) (f:Addr) (fd:FuncData) (ps:List Str) (sp:Sp3):Prop:=FnOk P w K mg base CX0 k f fd ps (dn K ps.length sp)
def jJr (sp:Sp3) (t:TA3):TE3:=fun τ G Q=>t τ G fun xs G1=>sp xs G1 Q
def Mono (sp:Sp3):Prop:=∀xs G Q Q',(∀t G',Q t G'->Q' t G')->sp xs G Q->sp xs G Q'
def jQ3 (N:List Str) (xs:List T):St3:=xs.map some++List.replicate (N.length-xs.length) none
theorem qJl {K:PySem.W.Frag} {H:Hp} {N:List Str} {xs:List T} {vs:List V} (r:Reps K H xs vs):SRel K H (start N vs) (jQ3 N xs):=by
 have hl:=r.length
 refine⟨by simp[L2.start,jQ3,hl],fun i t h=> ?_⟩
 unfold jQ3 at h
 unfold L2.start
 by_cases hi:i<xs.length
 ·rw[lKi (by simpa using hi),lKj] at h
  cases e:xs[i]? with
  | none=>rw[e] at h;cases h
  | some x=>
   rw[e] at h;cases h
   obtain⟨v,hv,rv⟩:=r.get e
   exact⟨v,by rw[lKi (by simp;omega),lKj,hv];rfl,rv⟩
 ·rw[lKu (by simpa using hi),List.getElem?_replicate] at h
  split at h<;>cases h
theorem fn3 {P:Program} {w:World} {K:PySem.W.Frag} {mg:Str->Option Value} {base:Heap} {x qual:Str} {st:Stmt} {f:Addr} {fd:FuncData} {N ps:List Str} {k:Nat} {sp:Sp3} (F:Fun K x qual st f fd) (S:FnScope N ps (jJ0 st))
  (hbody:∀(cdv:Value) (A:Around) (outer:List Env) (s:Shared) (H:Hp) (E:XK),Room k (A.deeper (envOfC qual (jJ0 st) s.heap.objs.size f cdv))->
   ∃t,PSs3 (cxOf CX0 P w K mg base N qual (jJ0 st) f cdv A outer s H E).nox (jQ1 st) t/\∀xs G Q,sp xs G Q->t {nx:=fun _ G'=>Q .non G',rt:=Q} (jQ3 N xs) G):Fn3 P w K mg base (k+1) f fd ps sp:=by
 refine Fun.ok (sp:=dn K ps.length sp) F S (fun vs H Q E h=>h.1) fun cdv A outer s H vs Q E hr hsp=> ?_
 obtain⟨t,ht,hq⟩:=hbody cdv A outer s H E hr
 obtain⟨hl,xs,G,rs,hg,hsp⟩:=hsp
 refine⟨fun D σ H1=>D.nx=(fun _ H'=>Q .non H')/\D.rt=Q/\σ=L2.start N vs/\H1=H,?_,rfl,rfl,rfl,rfl⟩
 rintro pins s1 σ1 H1 D I ⟨e1,e2,e3,e4⟩
 subst e3;subst e4
 have I3:Inv3 (cxOf CX0 P w K mg base N qual (jJ0 st) f cdv A outer s H1 E).nox pins (jQ3 N xs) G H1 s1:=⟨_,I,qJl rs,hg⟩
 refine thn (ht pins s1 _ G H1 _ I3 (hq xs G _ hsp)) fun fl s2 z=> ?_
 cases fl with
 | next=>obtain⟨τ',G',H',e',⟨σ',I',a,b⟩,q⟩:=z;exact⟨σ',H',I',by rw[e1];exact q .non H' e' b rfl⟩
 | brk=>obtain⟨τ',G',H',e',_,q⟩:=z;exact q.elim
 | cont=>obtain⟨τ',G',H',e',_,q⟩:=z;exact q.elim
 | ret u=>obtain⟨x',τ',G',H',e',⟨σ',I',a,b⟩,⟨v,rv,ru⟩,q⟩:=z;exact⟨v,σ',H',I',ru,by rw[e2];exact q v H' e' b rv⟩
mutual
noncomputable def dep:T->Nat
 | .tup xs=>deps xs+1
 | _=>0
noncomputable def deps:List T->Nat
 | []=>0
 | x::xs=>max (dep x) (deps xs)
end
mutual
noncomputable def tree:T->Bool
 | .tup xs=>jQa xs
 | .ref _=>false
 | .scr _=>false
 | .ty _=>false
 | .non=>true
 | .bl _=>true
 | .int _=>true
 | .str _=>true
noncomputable def jQa:List T->Bool
 | []=>true
 | x::xs=>tree x&&jQa xs
end
mutual
noncomputable def eqT:T->T->Bool
 | .non,.non=>true
 | .bl a,.bl b=>a == b
 | .bl a,.int b=>(if a then 1 else 0) == b
 | .int a,.bl b=>a == (if b then 1 else 0)
 | .int a,.int b=>a == b
 | .str a,.str b=>a == b
 | .tup xs,.tup ys=>eqTs xs ys
 | _,_=>false
noncomputable def eqTs:List T->List T->Bool
 | [],[]=>true
 | x::xs,y::ys=>eqT x y&&eqTs xs ys
 | [],_::_=>false
 | _::_,[]=>false
end
mutual
theorem qXa {K:PySem.W.Frag} {H:Hp}:∀(x y:T) {a:V},tree x=true->tree y=true->Rep K H x a->Rep K H y a->eqT x y=true
 | .non,y,a,hx,hy,r,q=>by
  cases (show a= .non from r)
  cases y<;>first | rfl | (exact absurd (show false=true from hy) lJs) | (cases (show V.non=_ from q)) | (obtain⟨_,_,e,_⟩:=(show ∃c vs,V.non= .ref c/\_ from q);cases e)
 | .bl b,y,a,hx,hy,r,q=>by
  cases (show a= .bl b from r)
  cases y with
  | bl c=>cases (show V.bl b=V.bl c from q);simp[eqT]
  | tup ys=>obtain⟨_,_,e,_⟩:=(show ∃c vs,V.bl b= .ref c/\_ from q);cases e
  | non=>cases (show V.bl b= .non from q)
  | int c=>cases (show V.bl b= .int c from q)
  | str c=>cases (show V.bl b= .str c from q)
  | _=>exact absurd (show false=true from hy) lJs
 | .int b,y,a,hx,hy,r,q=>by
  cases (show a= .int b from r)
  cases y with
  | int c=>cases (show V.int b=V.int c from q);simp[eqT]
  | tup ys=>obtain⟨_,_,e,_⟩:=(show ∃c vs,V.int b= .ref c/\_ from q);cases e
  | non=>cases (show V.int b= .non from q)
  | bl c=>cases (show V.int b= .bl c from q)
  | str c=>cases (show V.int b= .str c from q)
  | _=>exact absurd (show false=true from hy) lJs
 | .str b,y,a,hx,hy,r,q=>by
  cases (show a= .str b from r)
  cases y with
  | str c=>cases (show V.str b=V.str c from q);simp[eqT]
  | tup ys=>obtain⟨_,_,e,_⟩:=(show ∃c vs,V.str b= .ref c/\_ from q);cases e
  | non=>cases (show V.str b= .non from q)
  | bl c=>cases (show V.str b= .bl c from q)
  | int c=>cases (show V.str b= .int c from q)
  | _=>exact absurd (show false=true from hy) lJs
 | .tup xs,y,a,hx,hy,r,q=>by
  obtain⟨p,vs,e,h1,h2⟩:=(show ∃p vs,a= .ref p/\H p=some (.tup vs)/\Reps K H xs vs from r)
  subst e
  cases y with
  | tup ys=>
   obtain⟨p',vs',e',h1',h2'⟩:=(show ∃p' vs',V.ref p= .ref p'/\H p'=some (.tup vs')/\Reps K H ys vs' from q)
   cases e'
   rw[h1] at h1';cases h1'
   exact kQ2 xs ys (show jQa xs=true from hx) (show jQa ys=true from hy) h2 h2'
  | non=>cases (show V.ref p= .non from q)
  | bl c=>cases (show V.ref p= .bl c from q)
  | int c=>cases (show V.ref p= .int c from q)
  | str c=>cases (show V.ref p= .str c from q)
  | _=>exact absurd (show false=true from hy) lJs
 | .ref _,_,_,hx,_,_,_=>absurd (show false=true from hx) lJs
 | .scr _,_,_,hx,_,_,_=>absurd (show false=true from hx) lJs
 | .ty _,_,_,hx,_,_,_=>absurd (show false=true from hx) lJs
theorem kQ2 {K:PySem.W.Frag} {H:Hp}:∀(xs ys:List T) {vs:List V},jQa xs=true->jQa ys=true->Reps K H xs vs->Reps K H ys vs->eqTs xs ys=true
 | [],ys,_,_,_,r,q=>by
  cases r
  cases ys with
  | nil=>rfl
  | cons y ys=>obtain⟨_,_,e,_⟩:=q;cases e
 | x::xs,ys,_,hx,hy,⟨v,ws,e,r1,r2⟩,q=>by
  subst e
  cases ys with
  | nil=>cases q
  | cons y ys=>
   obtain⟨v',ws',e',q1,q2⟩:=q
   cases e'
   have hx':tree x=true/\jQa xs=true:=by simpa[jQa] using hx
   have hy':tree y=true/\jQa ys=true:=by simpa[jQa] using hy
   show (eqT x y&&eqTs xs ys)=true
   rw[qXa x y hx'.1 hy'.1 r1 q1,kQ2 xs ys hx'.2 hy'.2 r2 q2]
   rfl
end
section
variable {X:Cx}
def rSub:R3:=rI0 fun i j=> .int (i-j)
def rMod:R3:=rI (fun _ j=>0<j) fun i j=> .int (i%j)
def qY8:R3:=rI CDiv fun i j=> .int (i / j)
def rPow:R3:=rI CPow fun i j=> .int (i^j.toNat)
def rLt:R3:=rI0 fun i j=> .bl (decide (i<j))
def rGt:R3:=rI0 fun i j=> .bl (decide (j<i))
def rGe:R3:=rI0 fun i j=> .bl (decide (j<=i))
def rIsN:R3:=fun x y G Q=>y= .non/\Q (.bl (kJl x)) G
def kJj:R3:=fun x y G Q=>y= .non/\Q (.bl (!kJl x)) G
def qVd:R3:=fun x y G Q=>∃xs ys,x= .tup xs/\y= .tup ys/\xs≠[]/\xs.length+ys.length<=sizeLine/\Q (.tup (xs++ys)) G
theorem o_catT:Op3 X (binaryOp .Add) qVd:=
 Op3.of qZg fun H G x y a b Q hg ra rb ⟨xs,ys,ex,ey,hx,hz,q⟩=>by
  subst ex;subst ey
  obtain⟨p,vs,e1,h1,h2⟩:=(show ∃p vs,a= .ref p/\H p=some (.tup vs)/\Reps X.K H xs vs from ra)
  obtain⟨p',ws,e2,h3,h4⟩:=(show ∃p vs,b= .ref p/\H p=some (.tup vs)/\Reps X.K H ys vs from rb)
  subst e1;subst e2
  have l1:=h2.length
  have l2:=h4.length
  refine⟨p,p',vs,ws,rfl,rfl,.of h1,.of h3,fun z=>hx ?_,by omega,fun z=> ?_,fun z l hl=> ?_⟩
  ·rw[z] at l1;exact lQ9.mp l1
  ·rw[z] at l2
   have:ys=[]:=lQ9.mp l2
   subst this
   exact⟨.tup (xs++[]),G,.refl H,hg,by rw[lQb];exact ra,q⟩
  ·exact⟨.tup (xs++ys),G,.upd (.none hl),hg.tupNew hl,Rep.tupNew (h2.append h4) hl,q⟩
def rAddI:R3:=rI0 fun i j=> .int (i+j)
def rAddA:R3:=fun x y G Q=>rAddI x y G Q\/rCat x y G Q\/qVd x y G Q
theorem o_addA:Op3 X (binaryOp .Add) rAddA:=o_add.or (o_cat.or o_catT)
def rMulI:R3:=rI CMul fun i j=> .int (i*j)
def rMulA:R3:=fun x y G Q=>rMulI x y G Q\/rRep x y G Q
theorem o_mulA:Op3 X (binaryOp .Mult) rMulA:=o_mul.or o_rep
def rNeg:T->Gp->VK3->Prop:=fun x G Q=>∃i,x= .int i/\Q (.int (-i)) G
theorem u_neg:Un3 X (unaryOp .USub) rNeg:=
 Un3.of un_neg fun H G x a Q hg ra ⟨i,e,q⟩=>by
  subst e;cases (show a= .int i from ra)
  exact⟨i,rfl,.int (-i),G,.refl H,hg,rfl,q⟩
theorem jJu (b:Expr) {op:CmpOp} (h:behindInMarks op b=false:=by first | exact nomark _ | with_unfolding_all rfl):behindInMarks op b=false:=h
variable {a b c:Expr} {ta tb tc:TE3} {pos:Pos}
theorem qQ3 {op op':CmpOp} {r r':R3} (ho:Op3 X (compareOp op) r) (ho':Op3 X (compareOp op') r') (ha:PE3 X a ta) (hb:PE3 X b tb) (hc:PE3 X c tc)
  (hm:lastMarks [op,op'] [b,c]=false:=by with_unfolding_all rfl):PE3 X (.Compare a [op,op'] [b,c] pos) (jVq r r' ta tb tc):=by
 intro pins s τ G H Q I h
 refine Compare_chain (thn (ha pins s τ G H _ I h) fun v s1 w_=>w_.el fun x G1 H1 e1 I1 r1 q1=>chain_link (thn (hb pins s1 τ G1 H1 _ I1 q1) fun u s2 ⟨y,G2,H2,e2,I2,r2,q2⟩=>
  thn (ho pins s2 τ G2 H2 x y v u _ I2 (r1.mono e2) r2 q2) fun d s3 w_=>w_.el fun z G3 H3 e3 I3 r_ ⟨k,e,q3⟩=>r_.el fun v' rv' ru'=> ?_)) hm
 subst e
 cases (show v'= .bl k from rv');cases ru'
 refine lVh ?_
 cases k with
 | false=>exact ite_ff ⟨.bl false,G3,H3,(e1.trans e2).trans e3,I3,⟨.bl false,rfl,rfl⟩,q3⟩
 | true=>exact ite_tt (chain_last (thn (hc pins s3 τ G3 H3 _ I3 q3) fun w' s4 w_=>w_.el fun z' G4 H4 e4 I4 r4 q4=>thn (ho' pins s4 τ G4 H4 y z' u w' Q I4 (r2.mono (e3.trans e4)) r4 q4) fun _ _ z=>z.ext (((e1.trans e2).trans e3).trans e4)))
theorem qJd {op op':CmpOp} {r r':R3} (ho:Op3 X (compareOp op) r) (ho':Op3 X (compareOp op') r') (ha:PE3 X a ta) (hb:PE3 X b tb) (hc:PE3 X c tc)
  (hm:lastMarks [op,op'] [b,c]=false:=by with_unfolding_all rfl):PT3 X (.Compare a [op,op'] [b,c] pos) (jJy (jVq r r' ta tb tc)):=by
 intro pins s τ G H Q I h
 refine isTrue_chain (thn (ha pins s τ G H _ I h) fun v s1 w_=>w_.el fun x G1 H1 e1 I1 r1 q1=>test_link (thn (hb pins s1 τ G1 H1 _ I1 q1) fun u s2 ⟨y,G2,H2,e2,I2,r2,q2⟩=>
  thn (ho pins s2 τ G2 H2 x y v u _ I2 (r1.mono e2) r2 q2) fun d s3 w_=>w_.el fun z G3 H3 e3 I3 r_ ⟨k,e,q3⟩=>r_.el fun v' rv' ru'=> ?_)) hm
 subst e
 cases (show v'= .bl k from rv');cases ru'
 refine lVh ?_
 cases k with
 | false=>
  obtain⟨k',e',q'⟩:=q3
  cases e'
  exact ite_ff ⟨G3,H3,(e1.trans e2).trans e3,I3,q'⟩
 | true=>
  refine ite_tt (test_last (thn (hc pins s3 τ G3 H3 _ I3 q3) fun w' s4 w_=>w_.el fun z' G4 H4 e4 I4 r4 q4=>thn (ho' pins s4 τ G4 H4 y z' u w' _ I4 (r2.mono (e3.trans e4)) r4 q4) fun d' s5 w_=>w_.el fun z2 G5 H5 e5 I5 r_ ⟨k2,e2',q5⟩=>r_.el fun v2 rv2 ru2=> ?_))
  subst e2'
  cases (show v2= .bl k2 from rv2);cases ru2
  exact lVh ⟨G5,H5,(((e1.trans e2).trans e3).trans e4).trans e5,I5,q5⟩
mutual
noncomputable def td:T->PyData
 | .tup xs=> .tuple (tds xs)
 | .int i=> .int i
 | .bl b=> .bool b
 | .str x=> .str x
 | .non=> .none
 | .ref _=> .none
 | .scr _=> .none
 | .ty _=> .none
noncomputable def tds:List T->List PyData
 | []=>[]
 | x::xs=>td x::tds xs
end
def eqOk (x:T):Bool:=tree x&&(td x).canLay0&&decide ((td x).depth<=50)
def jZ1 (xs:List T):Bool:=jQa xs&&PyData.canLayAll0 (tds xs)&&decide ((PyData.list (tds xs)).depth<=50)
noncomputable def eqG (G:Gp) (x y:T):Option Bool:=match x,y with
 | .ref p,.ref q=>match G p,G q with
  | some (.lst xs),some (.lst ys)=>if jZ1 xs=true/\jZ1 ys=true then some (eqTs xs ys) else none
  | _,_=>none
 | _,_=>if eqOk x=true/\eqOk y=true then some (eqT x y) else none
def rEqA:R3:=fun x y G Q=>∃b,eqG G x y=some b/\Q (.bl b) G
def rNeA:R3:=fun x y G Q=>∃b,eqG G x y=some b/\Q (.bl (!b)) G
noncomputable def truT (G:Gp):T->Option Bool
 | .non=>some false
 | .bl b=>some b
 | .int i=>some (i != 0)
 | .tup xs=>some (!xs.isEmpty)
 | .ref p=>match G p with
  | some (.lst xs)=>some (!xs.isEmpty)
  | some (.dck kvs)=>some (!kvs.isEmpty)
  | _=>none
 | _=>none
def rTru:T->Gp->(Bool->Gp->Prop)->Prop:=fun x G Q=>∃b,truT G x=some b/\Q b G
theorem jYm {K:PySem.W.Frag} {H:Hp} {xs:List T} {vs:List V} (r:Reps K H xs vs):xs.isEmpty=vs.isEmpty:=by
 have:=r.length
 cases xs<;>cases vs<;>simp_all
theorem qJc:Tru3 X rTru:=
 Tru3.of tru_ok fun H G x a Q hg ra ⟨b,hb,q⟩=>by
  refine⟨b,?_,rfl,q⟩
  cases x with
  | non=>cases (show a= .non from ra);cases hb;rfl
  | bl k=>cases (show a= .bl k from ra);cases hb;rfl
  | int k=>cases (show a= .int k from ra);cases hb;rfl
  | tup xs=>
   obtain⟨p,vs,e1,h1,h2⟩:=(show ∃p vs,a= .ref p/\H p=some (.tup vs)/\Reps X.K H xs vs from ra)
   subst e1;cases hb
   exact .inr (.inl ⟨vs,.of h1,by rw[jYm h2]⟩)
  | ref p=>
   cases (show a= .ref p from ra)
   cases hG:G p with
   | none=>simp only[truT,hG] at hb;cases hb
   | some o=>
    simp only[truT,hG] at hb
    cases o with
    | lst xs=>cases hb;obtain⟨vs,h1,h2⟩:=hg.lst hG;exact .inl ⟨vs,.of h1,by rw[jYm h2]⟩
    | dct _=>cases hb
    | fdc _=>cases hb
    | ins _ _=>cases hb
    | dck kvs=>
     cases hb
     obtain⟨ws,h1,h2⟩:=hg p _ hG
     refine .inr (.inr ⟨ws,h1,?_⟩)
     cases h2<;>rfl
  | str _=>cases hb
  | scr _=>cases hb
  | ty _=>cases hb
end
section
variable {X:Cx} {pins:List (Addr×Obj)} {σ:L2.St} {H:Hp} {s:Shared} {h':Heap}
theorem kZ7 {t':Nat} {fp:List Addr} (I:Inv X pins σ H s) (k:∀b o,b∉fp->s.heap.get? b=some o->h'.get? b=some o) (hf:∀b∈fp,FpOk X pins H b):Inv X pins σ H {s with heap:=h',toks:=t'}:=by
 have nit:∀b u,H b=some u->b∉fp:=fun b u e z=>by rw[(hf b z).1] at e;cases e
 refine I.step (g':=s.gens) (d':=s.drawn) (ch:=fp) (fun b hb=>⟨(hf b hb).2.2.2.1,(hf b hb).2.1,(hf b hb).2.2.2.2.1,(hf b hb).2.2.2.2.2⟩) (fun b o _ _ hc e _=>k b o hc e) (fun b o _ _ hc e _=>⟨o.slots,k b o hc e⟩) (fun _ _ _ _ n=>n)
  (fun b o hc e=>⟨o,k b o hc e⟩) (fun _ _ e=>e) (fun _ _ _ e=>e) (fun b ps e=>⟨#[],by rw[e];simp⟩) (fun m hm=> ?_) (fun b u e=> ?_) I.bare
 ·obtain⟨o,es,ep,ho,r⟩:=hm
  exact⟨o,es,ep,k _ o (fun z=>(hf _ z).2.1 rfl) ho,r⟩
 ·refine (I.hok b u e).stay (fun c v hc q=>k c v ?_ q) (fun _ q=>q) fun _ _ q=>q
  rcases hc with z | z
  ·rw[z];exact nit b u e
  ·exact nit c _ z
theorem kQb {t':Nat} {fp:List Addr} {p:Addr} {vs:List V} {us:List Value} (I:Inv X pins σ H s) (k:∀b o,b∉fp->s.heap.get? b=some o->h'.get? b=some o) (hf:∀b∈fp,FpOk X pins H b)
  (hp:s.heap.objs.size<=p) (ht:TupD h' p us.toArray) (r:Vals vs us) (hz:vs.length<=sizeLine):Inv X pins σ (upd H p (.tup vs)) {s with heap:=h',toks:=t'}:=by
 have hn:H p=none:=I.hok.fresh hp
 have nit:∀b u,H b=some u->b∉fp:=fun b u e z=>by rw[(hf b z).1] at e;cases e
 have old:∀b o,s.heap.get? b=some o->b≠p:=fun b o e=>lJm (lJ9 (lJi e) hp)
 have tr:∀b u,H b=some u->b≠p:=fun b u e z=>by rw[z,hn] at e;cases e
 refine I.step (g':=s.gens) (d':=s.drawn) (ch:=fp) (fun b hb=>⟨(hf b hb).2.2.2.1,(hf b hb).2.1,(hf b hb).2.2.2.2.1,(hf b hb).2.2.2.2.2⟩) (fun b o _ _ hc e _=>k b o hc e) (fun b o _ _ hc e _=>⟨o.slots,k b o hc e⟩) (fun b o _ e n=>by rw[jJ1 (old b o e)];exact n)
  (fun b o hc e=>⟨o,k b o hc e⟩) (fun b _ e=>by rw[jJ1 (tr b _ e)];exact e) (fun b _ _ e=>by rw[jJ1 (tr b _ e)];exact e) (fun b ps e=>⟨#[],by rw[jJ1 (tr b _ e),e];simp⟩) (fun m hm=> ?_) (fun b u e=> ?_) I.bare
 ·obtain⟨o,es,ep,ho,r⟩:=hm
  exact⟨o,es,ep,k _ o (fun z=>(hf _ z).2.1 rfl) ho,r⟩
 ·by_cases hb:b=p
  ·subst hb
   rw[jKb] at e
   cases e
   exact⟨hz,us,r,ht⟩
  ·rw[jJ1 hb] at e
   refine (I.hok b u e).stay (fun c v hc q=>k c v ?_ q) (fun c q=>by rw[jJ1 (tr c _ q)];exact q) fun c _ q=>by rw[jJ1 (tr c _ q)];exact q
   rcases hc with z | z
   ·rw[z];exact nit b u e
   ·exact nit c _ z
end
noncomputable def Ite (K:PySem.W.Frag) (a:Addr):It:=
 ⟨fun i H=>∃xs x,SqL K H a xs/\xs[i]? =some x,fun i H x H'=>∃p y,H p=none/\x= .ref p/\(∀xs,SqL K H a xs->xs[i]? =some y)/\H'=upd H p (.tup [.int i,y]),fun i H=>∃xs,SqL K H a xs/\xs.length<=i⟩
theorem kZ9 {P:Program} {w:World} {K:PySem.W.Frag} {elts:List Expr} {k:Nat} {pos:Pos} (a e it:Addr) (hei:e≠it):
  Turn P w K (.Tuple elts k pos) (Ite K a) [e,it] e (fun i h=>(∃old,IsEnum h e it i old)/\h.IsListIter it a i) where
 mem:=by simp
 obj:=fun i h ⟨⟨old,h1⟩,h2⟩ b hb=>by
  have hb':b=e\/b=it:=by simpa using hb
  rcases hb' with z | z
  ·subst z;exact⟨_,h1,fun v z=>nomatch (show Data.fields _=Data.cell v from z)⟩
  ·subst z
   obtain⟨o,e2,c,d⟩:=h2
   exact⟨o,e2,fun v z=>by rw[d] at z;cases z⟩
 keep:=fun i h h' ⟨⟨old,h1⟩,h2⟩ kp=>⟨⟨old,kp e (by simp) _ h1⟩,h2.at fun o q=>kp it (by simp) o q⟩
 item:=by
  rintro X hP hw hK hc i pins s σ H E I hf ⟨⟨old,he⟩,hit⟩ hg
  subst hP hw hK
  obtain⟨xs,x,hq,hx⟩:=hg
  obtain⟨its,rv,p,hz⟩:=I.list hq
  obtain⟨u,hu,ru⟩:=rv.get hx
  refine wpAny_pyNext_enum_item he hit p.isList (x:=u) (by simpa using hu) hei fun h1 ho hit1 hT hsz hk=> ?_
  refine⟨_,rfl,wpAny_letOwnedTupleGo_enum ho fun h2 he2 hs2=> ?_⟩
  have hel:e<s.heap.objs.size:=lJi he
  have hp2:∀b o,b∉[e,it]->s.heap.get? b=some o->h2.get? b=some o:=fun b o hb q=>by
   have hb1:b≠e:=fun z=>hb (by simp[z])
   have hb2:b≠it:=fun z=>hb (by simp[z])
   exact (hs2.2 b hb1).trans (hk b o hb1 hb2 q)
  have hT2:h2.get? s.heap.objs.size=some {cls:= .type "tuple",data:= .seq #[.int i s.toks,u]}:=(hs2.2 _ (lK7 hel)).trans hT
  have I2:=kQb (t':=s.toks+1) (h':=h2) (p:=s.heap.objs.size) (vs:=[.int i,x]) (us:=[.int i s.toks,u]) I hp2 hf (lJg _) ⟨_,hT2,rfl,_,rfl,rfl⟩ (.cons ⟨_,rfl⟩ (.cons ru .nil)) (by show 2<=sizeLine;decide)
  refine⟨.ref s.heap.objs.size,_,I2,rfl,⟨_,x,I.hok.fresh (lJg _),rfl,fun ys hy=>by rw[I.list_inj hy hq];exact hx,rfl⟩,⟨⟨u,by simpa using he2⟩,hit1.at fun o q=>(hs2.2 it hei.symm).trans q⟩,fun b hb=> ?_⟩
  have hbs:∃o,s.heap.get? b=some o:=by
   have hb':b=e\/b=it:=by simpa using hb
   rcases hb' with z | z
   ·subst z;exact⟨_,he⟩
   ·subst z;obtain⟨o,q,_⟩:=hit;exact⟨o,q⟩
  obtain⟨o,q⟩:=hbs
  rw[jJ1 (lJm (lJi q))]
  exact (hf b hb).1
 done:=by
  rintro X hP hw hK hc i pins s σ H E I hf ⟨⟨old,he⟩,hit⟩ hg
  subst hP hw hK
  obtain⟨xs,hq,hx⟩:=hg
  obtain⟨its,rv,p,hz⟩:=I.list hq
  have hl:=rv.length
  exact wpAny_pyNext_enum_end (I.ok.hd hc) he hit p.isList (by simp;omega) fun h1 hx1=>⟨rfl,kZ7 (t':=s.toks) I (fun b o hb q=>hx1 b o (fun z=>hb (by simp[z])) q) hf⟩
 self:=fun _ _ _ _ _ ⟨⟨old,he⟩,_⟩ h=>lY3 he h
def numT (xs:List T):List T:=(List.range xs.length).map fun (i:Nat)=>T.tup [.int i,xs.getD i .non]
theorem jXp {xs:List T} {i:Nat} {x:T} (h:xs[i]? =some x):(numT xs)[i]? =some (.tup [.int i,x]):=by
 have hi:i<xs.length:=by
  rcases lQm i xs.length with z | z
  ·exact z
  ·rw[lKo z] at h;cases h
 have hx:xs[i]=x:=(lJj.mp h).2
 simp[numT,hi,List.getD,hx]
theorem jJ3 {xs:List T}:(numT xs).length=xs.length:=by simp[numT]
def jQt (G:Gp):T->Option (List T)
 | .ref p=>asL (G p)
 | .scr xs=>some xs
 | _=>none
theorem jUs {K:PySem.W.Frag} {H:Hp} {G:Gp} {x:T} {a:V} {xs:List T} (hg:GRel K H G) (r:Rep K H x a) (h:jQt G x=some xs):∃p vs,a= .ref p/\SqL K H p vs/\Reps K H xs vs:=by
 cases x with
 | scr ys=>cases h;obtain⟨p,vs,e,h1,h2⟩:=(show ∃p vs,a= .ref p/\FrL K H p vs/\Reps K H xs vs from r);exact⟨p,vs,e,h1.sq,h2⟩
 | ref p=>
  obtain⟨vs,h1,h2⟩:=hg.lst (jVk h)
  exact⟨p,vs,r,.of h1,h2⟩
 | tup _=>cases h
 | non=>cases h
 | bl _=>cases h
 | int _=>cases h
 | str _=>cases h
 | ty _=>cases h
def kJm (ta:TA3):TI3:=fun τ G R=>ta τ G fun vs G1=>∃x xs,vs=[x]/\jQt G1 x=some xs/\R (numT xs) (fun G'=>jQt G' x=some xs) G1
theorem kYe {X:Cx} {elts:List Expr} {k:Nat} {tpos pos p:Pos} {a:Expr} {ta:TA3} (hg:Gl X "enumerate") (hm:X.mg "enumerate"=none) (hv:bootBuiltins "enumerate"=some (.type "enumerate")) (ha:PA3 X [a] ta) (hs:starEach [a] X.env=[(false,eval a X.env)]:=by rfl):
  PI3 X (.Tuple elts k tpos) (.Call (.Name "enumerate" p) [a] [] pos) (kJm ta):=by
 intro pins s τ G H R I h
 obtain⟨σ0,I0,hs0,hg0⟩:=id I
 refine Call_ (jUb I0 hg hm hv (lQ8 (thn (ha pos pins s τ G H _ I h) fun us s1 w_=>w_.el fun xs' G1 H1 e1 i_ r_ q1=>i_.el fun σ I1 hs1 hg1=>r_.el fun as ras rvs=> ?_) hs rfl))
 obtain⟨x,xs,e,hx,q⟩:=q1
 subst e
 obtain⟨v,rfl,rv⟩:=jQ8 ras
 obtain⟨u,rfl,ru⟩:=rvs.one
 obtain⟨pa,vs,rfl,hq,r⟩:=jUs hg1 rv hx
 cases ru
 obtain⟨its,rvv,pl,hz⟩:=I1.list hq
 refine call_enumerate_list pl.isList fun h1 he hit hsz hk=> ?_
 have I2:Inv X pins σ H1 {s1 with heap:=h1}:=I1.kept (t':=s1.toks) hk
 refine lY3 (Q:=PIE3 X pins τ H (.Tuple elts k tpos) R) he ?_
 have fr:∀b∈[s1.heap.objs.size+1,s1.heap.objs.size],FpOk X pins H1 b:=fun b hb=>by
  have hb':b=s1.heap.objs.size+1\/b=s1.heap.objs.size:=by simpa using hb
  have hle:s1.heap.objs.size<=b:=by omega
  exact I1.fpOk hle (I1.hok.fresh hle)
 refine⟨s1.heap.objs.size+1,[s1.heap.objs.size+1,s1.heap.objs.size],_,_,numT xs,fun G'=>jQt G' x=some xs,G1,H1,rfl,e1,⟨σ,I2,hs1,hg1⟩,kZ9 pa _ _ (Nat.succ_ne_self _),⟨⟨.none,he⟩,hit⟩,fr,?_,q⟩
 intro i H2 G2 e2 g2 st
 obtain⟨pb,ws,eb,h1,h2⟩:=jUs g2 (Rep.mono e2 _ rv) st
 cases eb
 have hlen:=h2.length
 refine⟨fun hi=> ?_,fun hi=>⟨ws,h1,by rw[jJ3] at hi;omega⟩,fun hi y H' ⟨pp,z,hn,ey,hy,eH⟩=> ?_⟩
 ·rw[jJ3] at hi
  exact⟨ws,ws[i]'(by omega),h1,by simp[hlen▸hi]⟩
 ·subst ey;subst eH
  obtain⟨t,ht,rt⟩:=h2.get' (hy ws h1)
  exact⟨.upd (.none hn),g2.tupNew hn,_,jXp ht,Rep.tupNew ⟨_,_,rfl,rfl,_,_,rfl,rt,rfl⟩ hn⟩
noncomputable def clGo (env:Env):List (Str×NameKind)->List (Str×Addr)->Option (List (Str×Addr))
 | [],cs=>some cs
 | (n,k)::r,cs=>if (k == .free)=true then (match env.cells.lookup n with | some c=>clGo env r ((n,c)::cs) | none=>none) else clGo env r cs
theorem jYg {scope:Scope} {env:Env} {cl:List (Str×Addr)} (h:clGo env scope.names []=some cl):closureFor scope env=pure cl:=by
 unfold closureFor
 have go:∀(names:List (Str×NameKind)) (cs:List (Str×Addr)),clGo env names cs=some cl->
   (forIn names cs fun (x:Str×NameKind) (r:List (Str×Addr))=>(match x with | (nm,kd)=>if (kd == .free)=true then cellOf env nm >>= fun a=>pure (ForInStep.yield ((nm,a)::r)) else pure (ForInStep.yield r):Sem (ForInStep (List (Str×Addr)))))=pure cl:=by
  intro names
  induction names with
  | nil=>intro cs e;cases e;rfl
  | cons x r ih=>
   obtain⟨n,k⟩:=x
   intro cs e
   unfold clGo at e
   rw[List.forIn_cons]
   by_cases hk:(k == NameKind.free)=true
   ·rw[lJc hk] at e
    cases hc:env.cells.lookup n with
    | none=>rw[hc] at e;cases e
    | some c=>
     rw[hc] at e
     have hco:cellOf env n=pure c:=by unfold cellOf;rw[hc]
     simp only[hk,lKh,hco,pure_bind]
     exact ih _ e
   ·rw[lJb hk] at e
    simp only[hk,pure_bind,lJ6,lKf]
    exact ih _ e
 have:=go scope.names [] h
 simpa using this
theorem jVi {env:Env} {cl:List (Str×Addr)}:∀ {names:List (Str×NameKind)} {cs:List (Str×Addr)},clGo env names cs=some cl->(∀n c,cs.lookup n=some c->env.cells.lookup n=some c)->∀n c,cl.lookup n=some c->env.cells.lookup n=some c
 | [],cs,e,h=>by cases e;exact h
 | (n,k)::r,cs,e,h=>by
  unfold clGo at e
  by_cases hk:(k == NameKind.free)=true
  ·rw[lJc hk] at e
   cases hc:env.cells.lookup n with
   | none=>rw[hc] at e;cases e
   | some c=>
    rw[hc] at e
    refine jVi e fun m d q=> ?_
    rw[lKs] at q
    by_cases hm:(m == n)=true
    ·rw[hm] at q;cases q;rw[eq_of_beq hm];exact hc
    ·simp only[hm] at q;exact h m d q
  ·rw[lJb hk] at e
   exact jVi e h
theorem jZ5 {env:Env} {cl:List (Str×Addr)} {m:Str}:∀ {names:List (Str×NameKind)} {cs:List (Str×Addr)},clGo env names cs=some cl->(∃c,cs.lookup m=some c)->∃c,cl.lookup m=some c
 | [],cs,e,h=>by cases e;exact h
 | (n,k)::r,cs,e,h=>by
  unfold clGo at e
  by_cases hk:(k == NameKind.free)=true
  ·rw[lJc hk] at e
   cases hc:env.cells.lookup n with
   | none=>rw[hc] at e;cases e
   | some c=>
    rw[hc] at e
    refine jZ5 e ?_
    rw[lKs]
    by_cases hm:(m == n)=true
    ·rw[hm];exact⟨_,rfl⟩
    ·simp only[hm];exact h
  ·rw[lJb hk] at e
   exact jZ5 e h
theorem jVj {env:Env} {cl:List (Str×Addr)} {m:Str}:∀ {names:List (Str×NameKind)} {cs:List (Str×Addr)},clGo env names cs=some cl->names.lookup m=some .free->∃c,cl.lookup m=some c
 | [],cs,e,h=>by simp at h
 | (n,k)::r,cs,e,h=>by
  unfold clGo at e
  rw[lKs] at h
  by_cases hm:(m == n)=true
  ·rw[hm] at h
   cases h
   rw[lJc (show (NameKind.free == NameKind.free)=true from rfl)] at e
   cases hc:env.cells.lookup n with
   | none=>rw[hc] at e;cases e
   | some c=>
    rw[hc] at e
    refine jZ5 e ?_
    rw[lKs,hm];exact⟨_,rfl⟩
  ·simp only[hm] at h
   by_cases hk:(k == NameKind.free)=true
   ·rw[lJc hk] at e
    cases hc:env.cells.lookup n with
    | none=>rw[hc] at e;cases e
    | some c=>rw[hc] at e;exact jVj e h
   ·rw[lJb hk] at e
    exact jVj e h
theorem jQx {env:Env} {x:Str}:∀ {names:List (Str×NameKind)},(∀y∈names,y.2≠ .cell)->
  ((names.map fun (n,k)=>if (k == NameKind.free&&env.scope.kind == .function&&env.kindOf n == some .cell) then (n,NameKind.cell) else (n,k)).lookup x=some .cell\/
    (names.map fun (n,k)=>if (k == NameKind.free&&env.scope.kind == .function&&env.kindOf n == some .cell) then (n,NameKind.cell) else (n,k)).lookup x=some .free)->names.lookup x=some .free
 | [],_,h=>by simp at h
 | (n,k)::r,hc,h=>by
  have ih:= @jQx env x r (fun y hy=>hc y (lJ1 _ hy))
  have hk:=hc (n,k) lJx
  rw[lJq] at h
  rw[lKs]
  by_cases hx:(x == n)=true
  ·rw[hx]
   by_cases hf:(k == NameKind.free&&env.scope.kind == .function&&env.kindOf n == some .cell)=true
   ·have:(k == NameKind.free)=true:=by
     rw[lKv,lKv] at hf;exact hf.1.1
    rw[eq_of_beq this]
   ·simp only[hf,lJ6,lKf,lKs,hx] at h
    rcases h with h | h
    ·cases h;exact absurd rfl hk
    ·cases h;rfl
  ·simp only[hx]
   refine ih ?_
   by_cases hf:(k == NameKind.free&&env.scope.kind == .function&&env.kindOf n == some .cell)=true
   ·simpa only[hf,lKh,lKs,hx] using h
   ·simpa only[hf,lJ6,lKf,lKs,hx] using h
theorem jKv {env:Env} {x:Str}:∀ {names:List (Str×NameKind)},
  (names.map fun (n,k)=>if (k == NameKind.free&&env.scope.kind == .function&&env.kindOf n == some .cell) then (n,NameKind.cell) else (n,k)).lookup x=some .local->names.lookup x=some .local
 | [],h=>by simp at h
 | (n,k)::r,h=>by
  have ih:= @jKv env x r
  rw[lJq] at h
  rw[lKs]
  by_cases hx:(x == n)=true
  ·rw[hx]
   by_cases hf:(k == NameKind.free&&env.scope.kind == .function&&env.kindOf n == some .cell)=true
   ·simp only[hf,lKh,lKs,hx] at h;cases h
   ·simp only[hf,lJ6,lKf,lKs,hx] at h;exact h
  ·simp only[hx]
   refine ih ?_
   by_cases hf:(k == NameKind.free&&env.scope.kind == .function&&env.kindOf n == some .cell)=true
   ·simpa only[hf,lKh,lKs,hx] using h
   ·simpa only[hf,lJ6,lKf,lKs,hx] using h
noncomputable def jUf (X:Cx) (scope:Scope) (cl:List (Str×Addr)) (C:Addr) (fp:List Addr) (s:Shared) (H:Hp):Cx:=
 {X with env:=compEnvC scope cl C X.env,s₀:=s,H₀:=H,outer:=X.stack,stack:=X.stack,ex:=fp,fn:=fun _=>false,pn:=[],xe:=fun _ _=>False}
structure CmpOk (X:Cx) (scope:Scope) (cl:List (Str×Addr)) (mask:List Bool):Prop where
 cl:clGo X.env scope.names []=some cl
 kind:scope.kind= .function
 nocell:(scope.names.all fun y=>y.2 != .cell)=true
 names:(scope.names.all fun y=>y.2 != .local||scope.names.lookup y.1 == some .local)=true
 vis:(scope.names.all fun y=>y.2 != .free||X.env.kindOf y.1 == some .cell||X.env.kindOf y.1 == some .free)=true
 len:mask.length=X.N.length
 mask:((X.N.zip mask).all fun p=>p.2||scope.names.lookup p.1 != some .local)=true
def msk {α:Type} (mask:List Bool) (τ:List (Option α)):List (Option α):=List.zipWith (fun b o=>if b=true then none else o) mask τ
theorem jZs {α:Type} {mask:List Bool} {τ:List (Option α)} {i:Nat} {t:α} (h:(msk mask τ)[i]? =some (some t)):mask[i]? =some false/\τ[i]? =some (some t):=by
 unfold msk at h
 rw[lXx] at h
 cases hm:mask[i]? with
 | none=>exact absurd (hm▸h) (by simp)
 | some b=>
  cases ht:τ[i]? with
  | none=>rw[hm,ht] at h;cases h
  | some o=>
   rw[hm,ht] at h
   cases b with
   | true=>simp at h
   | false=>simp at h;exact⟨rfl,by rw[h]⟩
theorem jUr {α:Type} {mask:List Bool} {τ:List (Option α)} (h:mask.length=τ.length):(msk mask τ).length=τ.length:=by
 unfold msk;rw[List.length_zipWith,h,Nat.min_self]
theorem kKy {K:PySem.W.Frag} {H:Hp} {σ:L2.St} {τ:St3} {mask:List Bool} (h:SRel K H σ τ) (hl:mask.length=τ.length):SRel K H (msk mask σ) (msk mask τ):=by
 refine⟨by rw[jUr hl,jUr (hl.trans h.1.symm),h.1],fun i t q=> ?_⟩
 obtain⟨h1,h2⟩:=jZs q
 obtain⟨v,h3,h4⟩:=h.2 i t h2
 refine⟨v,?_,h4⟩
 unfold msk
 rw[lXx,h1,h3]
 simp
section
variable {X:Cx} {scope:Scope} {cl:List (Str×Addr)} {mask:List Bool}
theorem CmpOk.local (c:CmpOk X scope cl mask) {i:Nat} {x:Str} (h1:X.N[i]? =some x) (h2:mask[i]? =some false):scope.names.lookup x≠some .local:=by
 have h:=c.mask
 rw[lKp] at h
 have hz:(X.N.zip mask)[i]? =some (x,false):=by rw[lXy];exact⟨h1,h2⟩
 have:=h _ (lJu hz)
 simpa using this
theorem CmpOk.free (c:CmpOk X scope cl mask) {x:Str} (h:scope.names.lookup x=some .free):X.env.kindOf x=some .cell\/X.env.kindOf x=some .free:=by
 have hv:=c.vis
 rw[lKp] at hv
 have:=hv (x,.free) (lK4 h)
 simpa using this
theorem CmpOk.nc (c:CmpOk X scope cl mask):∀y∈scope.names,y.2≠ .cell:=by
 have hv:=c.nocell
 rw[lKp] at hv
 intro y hy
 simpa using hv y hy
theorem CmpOk.nm (c:CmpOk X scope cl mask):∀y∈scope.names,y.2= .local->scope.names.lookup y.1=some .local:=by
 have hv:=c.names
 rw[lKp] at hv
 intro y hy e
 have:=hv y hy
 rw[e] at this
 simpa using this
theorem qUb (c:CmpOk X scope cl mask) {pins:List (Addr×Obj)} {σ:L2.St} {H:Hp} {s:Shared} {fp:List Addr} {h4:Heap} {tk:Nat} (I:Inv X pins σ H s) (hf:∀b∈fp,FpOk X pins H b) (ho:∀b∈fp,∃o,s.heap.get? b=some o)
  (hns:h4.Ns s.heap.objs.size fun _=>none) (hk:∀b o,s.heap.get? b=some o->h4.get? b=some o):
  Inv (jUf X scope cl s.heap.objs.size fp s H) [] (msk mask σ) H {s with heap:=h4,toks:=tk}:=by
 have sub:=jVi c.cl (by simp)
 have ok:(jUf X scope cl s.heap.objs.size fp s H).Ok:=by
  refine⟨I.ok.mod,c.kind,I.ok.glob,I.ok.blt,lJg _,fun x y d h1 h2=>I.ok.inj x y d (sub _ _ h1) (sub _ _ h2),fun x hx=>jVj c.cl (jQx (env:=X.env) c.nc hx),fun x d hx=>absurd (show false=true from hx) lJs,I.ok.hd,I.ok.gd,I.ok.frames,.inl rfl,
   fun b hb=> ?_,I.bs,lK1 I.ok.bsz I.sz,fun b o e hb=> ?_,fun b hb hz=> ?_,I.stack,I.stkFree⟩
  ·obtain⟨o,e⟩:=ho b hb
   exact⟨lJm (lJi e),fun x d hd=>(hf b hb).2.2.2.2.1 x d (sub _ _ hd)⟩
  ·rcases (hf b hb).2.2.2.1 with z | z
   ·exact I.ok.noex b o e z
   ·exact absurd (lJ9 (lJi e) I.ok.bsz) (Nat.not_lt.mpr z)
  ·rcases lJr.mp (I.stkSub b hz) with z | z
   ·exact (hf b hb).2.1 z
   ·exact (hf b hb).2.2.1 z
 refine⟨ok,rfl,I.bare,Un.kept hk,⟨_,hns,fun i x v h1 h2 h3=> ?_⟩,fun x d hd=> ?_,I.hok.fresh (lJg _),fun x d hd=>I.freeC x d (sub _ _ hd),fun p hp=>absurd (show p∈([]:List (Addr×Obj)) from hp) (by simp),I.hok.kept hk,?_⟩
 ·obtain⟨m1,m2⟩:=jZs h2
  have nl:=c.local h1 m1
  have fr:scope.names.lookup x=some .free:=by
   rcases h3 with z | z | z
   ·exact absurd (jKv (env:=X.env) z) nl
   ·exact jQx (env:=X.env) c.nc (.inl z)
   ·exact jQx (env:=X.env) c.nc (.inr z)
  have hkk:=c.free fr
  obtain⟨m,hn,hl⟩:=I.loc
  have vis:Vis X.env.scope x:=by rcases hkk with z | z;exact .inr (.inl z);exact .inr (.inr z)
  obtain⟨u,ru,lk⟩:=hl i x v h1 m2 vis
  refine⟨u,ru,?_⟩
  rcases lk with ⟨z,_⟩ | ⟨_,d,hd,cd⟩
  ·exfalso;rcases hkk with q | q<;>(rw[z] at q;cases q)
  ·obtain⟨d',hd'⟩:=jVj c.cl fr
   have:d'=d:=by have:=sub _ _ hd';rw[hd] at this;exact (lJ2 this).symm
   subst this
   refine .inr ⟨?_,d',hd',cd.keeps hk⟩
   rcases h3 with z | z | z
   ·exact absurd (jKv (env:=X.env) z) nl
   ·exact .inl z
   ·exact .inr z
 ·obtain⟨v,hv⟩:=I.cell x d (sub _ _ hd)
  exact⟨v,hv.keeps hk⟩
 ·exact (jUr (c.len.trans I.len.symm)).trans I.len
theorem uJt {pins:List (Addr×Obj)} {σ σ':L2.St} {H H':Hp} {s s':Shared} {fp:List Addr} {pl:List (Addr×Obj)} {C:Addr} (I:Inv X pins σ H s) (hf:∀b∈fp,FpOk X pins H b) (hC:s.heap.objs.size<=C)
  (J:Inv (jUf X scope cl C fp s H) pl σ' H' s') {h':Heap} (hb:Heap.SameBut C s'.heap h'):Inv X pins σ H' {s' with heap:=h'}:=by
 have ne:∀b o,s.heap.get? b=some o->b≠C:=fun b o e=>lJm (lJ9 (lJi e) hC)
 have u:=J.base
 have hfree:H' C=none:=J.free
 have u':Un (frs X.stack) fp H H' s.heap h':=⟨fun b o e n hb' hx=>(hb.2 b (ne b o e)).trans (u.keep b o e n hb' hx),fun b o e n hb' hx=>let ⟨sl,z⟩:=u.slot b o e n hb' hx;⟨sl,(hb.2 b (ne b o e)).trans z⟩,
  u.free,fun b o e hx=>let ⟨o',z⟩:=u.there b o e hx;⟨o',(hb.2 b (ne b o e)).trans z⟩,u.tups,u.frzs,u.tbls⟩
 have hok:HOk X.prog X.w H' h':=fun b ob e=>(J.hok b ob e).stay (fun c w' hc q=>(hb.2 c (by
  rintro rfl
  rcases hc with rfl | hc
  ·rw[hfree] at e;cases e
  ·rw[hfree] at hc;cases hc)).trans q) (fun _ q=>q) fun _ _ q=>q
 exact I.call' (s':={s' with heap:=h'}) J.os u' hok J.bare fun b hb=>⟨(hf b hb).2.2.2.1,(hf b hb).2.1,(hf b hb).2.2.2.2.1,(hf b hb).2.2.2.2.2⟩
end
abbrev qUa (ifs:List Expr) (env:Env):Sem Bool:=forIn ifs true fun c b=>if b=true then isTrue c env (eval c env) >>= fun d=>pure (ForInStep.yield d) else pure (ForInStep.yield b)
noncomputable def qXt (M:Model) (A:Around) (elt tg:Expr) (ifs:List Expr) (it acc:Value) (env:Env) (stop more:Shared->Prop):Option Value->Shared->Prop
 | none=>stop
 | some v=>fun z=>wpAny M A (letOwnedTupleGo tg it v) (fun _ z1=>wpAny M A (assign tg env v) (fun _ z2=>wpAny M A (qUa ifs env) (fun ok z3=>if ok=true then wpAny M A (eval elt env) (fun x z4=>wpAny M A (call (.builtin "list.append") [acc,x]) (fun _=>more) (fun _ _=>False) z4) (fun _ _=>False) z3 else more z3) (fun _ _=>False) z2) (fun _ _=>False) z1) (fun _ _=>False) z
theorem kQ7 {P:Program} {w:World} {A:Around} {R:Result->Shared->Prop} {s:Shared} {elt tg iter:Expr} {ifs:List Expr} {scope:Scope} {pos:Pos} {it acc:Value} {env:Env} (I:Nat->Shared->Prop)
  (turn:∀k z,I k z->wpAny (model P w) A (pyNext it) (qXt (model P w) A elt tg ifs it acc env (R (.ok .next)) fun z'=>∃m,m<k/\I m z') (fun _ _=>False) z) (n:Nat) (h:I n s):codeAny (model P w) A (.compLoop (.ListComp elt [⟨tg,iter,ifs,0⟩] scope pos) 0 it acc env) R s:=by
 refine codeAny_loop rfl I (fun k z hz=>(show wpAny _ A ((compTurn (.ListComp elt [⟨tg,iter,ifs,0⟩] scope pos) 0 it acc env).onRaise _) _ _ z from wpAny_noted ?_)) n h
 rw[compTurn_list]
 refine lJa (wpAny_standAt (lJa (lQv (turn k z hz) (fun r z1 h1=> ?_) fun _ _ e=>e.elim)))
 cases r with
 | none=>exact lJd h1
 | some v=>
  refine lJa (lQv h1 (fun _ z2 h2=>lJa (lQv h2 (fun _ z3 h3=>lJa (lQv h3 (fun ok z4 h4=> ?_) fun _ _ e=>e.elim)) fun _ _ e=>e.elim)) fun _ _ e=>e.elim)
  by_cases hok:ok=true
  ·subst hok
   exact lJa (lJa (lQv h4 (fun x z5 h5=>lJa (lQv h5 (fun _ z6 h6=>lJd (lJd ⟨rfl,h6⟩)) fun _ _ e=>e.elim)) fun _ _ e=>e.elim))
  ·obtain rfl:ok=false:=by simpa using hok
   exact lJd ⟨rfl,h4⟩
def PIf3 (X:Cx) (ifs:List Expr) (t:TT3):Prop:=∀(pins:List (Addr×Obj)) (s:Shared) (τ:St3) (G:Gp) (H:Hp) (Q:Bool->Gp->Prop),Inv3 X pins τ G H s->t τ G Q->
 wpAny (model X.prog X.w) X.A (forIn ifs true fun c r=>if r=true then do let ok <-isTrue c X.env (eval c X.env);pure (ForInStep.yield ok) else pure (ForInStep.yield r)) (TP3 X pins τ H Q) X.xe s
def jQg:TT3:=fun _ G Q=>Q true G
theorem jK0 {X:Cx}:PIf3 X [] jQg:=fun _ _ _ G H _ I q=>wpAny_tests_nil ⟨G,H,.refl H,I,q⟩
theorem kYd {X:Cx} {c:Expr} {t:TT3} (h:PT3 X c t):PIf3 X [c] t:=fun pins s τ G H Q I q=>wpAny_tests_one (h pins s τ G H Q I q)
def kUp (mask:List Bool) (g:TG3):Prop:=∀v τ G Q,g v τ G Q->g v τ G fun τ2 G2=>Q τ2 G2/\τ2.length=τ.length/\∀i:Nat,mask[i]? ≠some true->τ2[i]? =τ[i]?
def kYu (mask:List Bool) (g:TGs3):Prop:=∀v τ G Q,g v τ G Q->g v τ G fun τ2 G2=>Q τ2 G2/\τ2.length=τ.length/\∀i:Nat,mask[i]? ≠some true->τ2[i]? =τ[i]?
theorem jJx {mask:List Bool} {i:Nat} (h:mask[i]? =some true:=by rfl):kUp mask (jJg i):=fun v τ G Q q=>
 ⟨q,List.length_set ..,fun j hj=>lYl (by rintro rfl;exact hj h)⟩
theorem qQk {mask:List Bool}:kYu mask gNil:=fun v τ G Q ⟨e,q⟩=>⟨e,q,rfl,fun _ _=>rfl⟩
theorem jYe {mask:List Bool} {t:TG3} {u:TGs3} (h1:kUp mask t) (mono:∀v τ G Q Q',(∀a b,Q a b->Q' a b)->t v τ G Q->t v τ G Q') (h2:kYu mask u) (mono2:∀v τ G Q Q',(∀a b,Q a b->Q' a b)->u v τ G Q->u v τ G Q'):kYu mask (jKg t u):=fun vs τ G Q ⟨v,r,e,q⟩=>by
 refine⟨v,r,e,mono _ _ _ _ _ (fun τ2 G2 ⟨z,l1,k1⟩=> ?_) (h1 _ _ _ _ q)⟩
 exact mono2 _ _ _ _ _ (fun τ3 G3 ⟨z3,l3,k3⟩=>⟨z3,l3.trans l1,fun i hi=>(k3 i hi).trans (k1 i hi)⟩) (h2 _ _ _ _ z)
theorem jUu {i:Nat}:∀v τ G (Q Q':St3->Gp->Prop),(∀a b,Q a b->Q' a b)->jJg i v τ G Q->jJg i v τ G Q':=fun _ _ _ _ _ h q=>h _ _ q
theorem kJ2:∀v τ G (Q Q':St3->Gp->Prop),(∀a b,Q a b->Q' a b)->gNil v τ G Q->gNil v τ G Q':=fun _ _ _ _ _ h q=>⟨q.1,h _ _ q.2⟩
theorem kVv {t:TG3} {u:TGs3} (m1:∀v τ G (Q Q':St3->Gp->Prop),(∀a b,Q a b->Q' a b)->t v τ G Q->t v τ G Q') (m2:∀v τ G (Q Q':St3->Gp->Prop),(∀a b,Q a b->Q' a b)->u v τ G Q->u v τ G Q'):
  ∀v τ G (Q Q':St3->Gp->Prop),(∀a b,Q a b->Q' a b)->jKg t u v τ G Q->jKg t u v τ G Q':=fun _ _ _ _ _ h ⟨v,r,e,q⟩=>⟨v,r,e,m1 _ _ _ _ _ (fun _ _ z=>m2 _ _ _ _ _ h z) q⟩
theorem qQj {mask:List Bool} {n:Nat} {u:TGs3} (h:kYu mask u):kUp mask (gTup n u):=fun v τ G Q ⟨xs,e,l,q⟩=>⟨xs,e,l,h _ _ _ _ q⟩
theorem kXw {mask:List Bool} {τ τ2:St3} (hl:mask.length=τ.length) (l:τ2.length=(msk mask τ).length) (h:∀i:Nat,mask[i]? ≠some true->τ2[i]? =(msk mask τ)[i]?):msk mask τ2=msk mask τ:=by
 have ll:=jUr hl
 apply lVk
 intro i
 unfold msk at h ⊢
 rw[lXx,lXx]
 cases hm:mask[i]? with
 | none=>rfl
 | some b=>
  cases b with
  | true=>
   have h1:i<mask.length:=by
    rcases lQm i mask.length with z | z
    ·exact z
    ·rw[lKo z] at hm;cases hm
   have h2:i<τ2.length:=by omega
   have h3:i<τ.length:=by omega
   rw[lJp h2,lJp h3]
   simp
  | false=>
   have:=h i (by rw[hm];simp)
   rw[lXx,hm] at this
   rw[this]
   cases τ[i]? with
   | none=>rfl
   | some o=>simp
def kKg (mask:List Bool) (g:TG3) (tif:TT3) (te:TE3) (τ:St3) (xs:List T) (stay:Gp->Prop) (G:Gp) (Q:VK3):Prop:=
 ∀D,G D=none->∃P:Nat->List T->Gp->Prop,P 0 [] (gup G D (.lst []))/\(∀i acc G,i<=xs.length->P i acc G->stay G/\G D=some (.lst acc))/\
  (∀i x acc G,xs[i]? =some x->P i acc G->g x (msk mask τ) G fun τ2 G2=>tif τ2 G2 fun b G3=>if b=true then te τ2 G3 fun y G4=>G4 D=some (.lst acc)/\acc.length<sizeLine/\P (i+1) (acc++[y]) (gup G4 D (.lst (acc++[y]))) else P (i+1) acc G3)/\
  ∀acc G,P xs.length acc G->Q (.ref D) G
def jKp (mask:List Bool) (wi:TI3) (g:TG3) (tif:TT3) (te:TE3):TE3:=fun τ G Q=>wi τ G fun xs stay G1=>kKg mask g tif te τ xs stay G1 Q
section
variable {X:Cx} {scope:Scope} {cl:List (Str×Addr)} {mask:List Bool} {elt iter tg:Expr} {ifs:List Expr} {pos:Pos} {wi:TI3} {g:TG3} {tif:TT3} {te:TE3}
theorem kJ5 (hc:X.calm=true) (ok:CmpOk X scope cl mask)
  (hgk:kUp mask g) (hg:∀C fp s H,PG3 (jUf X scope cl C fp s H) tg g) (hif:∀C fp s H,PIf3 (jUf X scope cl C fp s H) ifs tif) (he:∀C fp s H,PE3 (jUf X scope cl C fp s H) elt te)
  {pins:List (Addr×Obj)} {τ:St3} {H:Hp} {Q:VK3} {itv:Value} {s2:Shared} {E:Value->Shared->Prop} {RR:Value->Addr->Result->Shared->Prop}
  (h2:PIE3 X pins τ H tg (fun xs stay G=>kKg mask g tif te τ xs stay G Q) itv s2)
  (hRR:∀D C s' m,s'.heap.Ns C m->(∃G1 H1,Ext H H1/\H1 C=none/\Q (.ref D) G1/\∀h',Heap.SameBut C s'.heap h'->Inv3 X pins τ G1 H1 {s' with heap:=h'})->(∃oC,s'.heap.get? C=some oC/\C≠X.env.locals/\C∉X.fs/\∀v,oC.data≠ .cell v)->(∀x c,X.env.cells.lookup x=some c->c≠C)->(∀p∈X.pn++pins,p.1≠C)->X.s₀.heap.objs.size<=C->RR (.ref D) C (.ok .next) s'):
  wpAny (model X.prog X.w) X.A (newList []) (fun acc s₃=>wpAny (model X.prog X.w) X.A (newFunctionEnv scope X.env.globals cl [] X.env.qual none .none (some X.env)) (fun cenv s₄=>
   codeAny (model X.prog X.w) X.A (.compStart (.ListComp elt [⟨tg,iter,ifs,0⟩] scope pos) 0 itv acc {cenv with scope:=relabel scope X.env}) (RR acc cenv.locals) s₄) E s₃) E s2:=by
 obtain⟨it,fp,tn,J,xs,stay,G2,H2,e,eH,⟨σ,I2,hs2,hg2⟩,T0,st2,f2,IT,hq⟩:=h2
 subst e
 refine lK0 (wpAny_newFunctionEnv ok.nc (by intro y hy;simp at hy) (fun h4 hns hsb=> ?_) ok.kind)
 dsimp only at hns hsb ⊢
 have hD:H2 s2.heap.objs.size=none:=I2.hok.fresh (lJg _)
 generalize hs3:({s2 with heap:=s2.heap.push {cls:= .type "list",dict:=none,data:= .seq ([]:List Value).toArray} }:Shared)=s3
 have eh3:s2.heap.push {cls:= .type "list",dict:=none,data:= .seq ([]:List Value).toArray}=s3.heap:=by rw[<-hs3]
 have I3:Inv X pins σ (upd H2 s2.heap.objs.size (.lst [])) s3:=by
  rw[<-hs3]
  exact I2.laid (t':=s2.toks) (fun b u e=>lJk _ e) (lJg _) ⟨lJz _,[],0,.nil,lJ0 _ rfl⟩
 rw[eh3] at hns hsb ⊢
 generalize hDd:s2.heap.objs.size=D at *
 have e3:Ext H2 (upd H2 D (.lst [])):= .upd (.none hD)
 have hg3:GRel X.K (upd H2 D (.lst [])) (gup G2 D (.lst [])):=hg2.lstNew (show Reps X.K H2 [] [] from rfl) (.none hD)
 have obj2:∀b∈fp,∃o,s2.heap.get? b=some o:=fun b hb=>let ⟨o,e,_⟩:=T0.obj 0 _ st2 b hb;⟨o,e⟩
 have fD:∀b∈fp,b≠D:=fun b hb=>by obtain⟨o,e⟩:=obj2 b hb;rw[<-hDd];exact lJm (lJi e)
 have f3:∀b∈fp,FpOk X pins (upd H2 D (.lst [])) b:=fun b hb=>⟨by rw[jJ1 (fD b hb)];exact (f2 b hb).1,(f2 b hb).2⟩
 have k3:∀b o,s2.heap.get? b=some o->s3.heap.get? b=some o:=fun b o e=>by rw[<-eh3];exact lJk _ e
 have obj3:∀b∈fp,∃o,s3.heap.get? b=some o:=fun b hb=>let ⟨o,e⟩:=obj2 b hb;⟨o,k3 b o e⟩
 have k4:∀b o,s3.heap.get? b=some o->h4.get? b=some o:=fun b o e=>hsb.extBut b o (lJm (lJi e)) (lJk _ e)
 have Ic:Inv (jUf X scope cl s3.heap.objs.size fp s3 (upd H2 D (.lst []))) [] (msk mask σ) (upd H2 D (.lst [])) {s3 with heap:=h4,toks:=s3.toks+([]:List (Str×Value)).length}:=qUb ok I3 f3 obj3 hns k4
 have st4:tn 0 h4:=T0.keep _ _ _ st2 fun b _ o e=>k4 b o (k3 b o e)
 have hl3:mask.length=τ.length:=ok.len.trans (I3.len.symm.trans hs2.1)
 obtain⟨P,p0,hst,turn,fin⟩:=hq D (hg2.fresh hD)
 have fpc:∀ {H':Hp} {pl:List (Addr×Obj)},(∀b∈fp,H' b=none)->(∀p∈pl,p.1∉fp)->∀b∈fp,FpOk (jUf X scope cl s3.heap.objs.size fp s3 (upd H2 D (.lst []))) pl H' b:=fun {H' pl} hn hp b hb=>by
  obtain⟨o,e⟩:=obj3 b hb
  refine⟨hn b hb,lJm (lJi e),?_,.inl hb,fun x d hd=>(f3 b hb).2.2.2.2.1 x d (jVi ok.cl (by simp) _ _ hd),fun p hpp z=> ?_⟩
  ·intro z
   rcases lJr.mp (I3.stkSub b z) with q | q
   ·exact (f3 b hb).2.1 q
   ·exact (f3 b hb).2.2.1 q
  ·have hpp':p∈pl:=by simpa[jUf] using hpp
   exact hp p hpp' (z▸hb)
 have loop:∀s4:Shared,s4={s3 with heap:=h4,toks:=s3.toks+([]:List (Str×Value)).length}->
   codeAny (model X.prog X.w) X.A (.compLoop (.ListComp elt [⟨tg,iter,ifs,0⟩] scope pos) 0 (.ref it) (.ref D) (compEnvC scope cl s3.heap.objs.size X.env)) (RR (.ref D) s3.heap.objs.size) s4:=by
  rintro s4 rfl
  refine kQ7 (fun n s'=>∃i acc G' H',n=xs.length-i/\i<=xs.length/\Ext H2 H'/\Inv3 (jUf X scope cl s3.heap.objs.size fp s3 (upd H2 D (.lst []))) [] (msk mask τ) G' H' s'/\tn i s'.heap/\(∀b∈fp,H' b=none)/\P i acc G') ?_ xs.length
   ⟨0,[],_,_,rfl,lJz _,e3,⟨_,Ic,kKy (hs2.mono e3) hl3,hg3⟩,st4,fun b hb=>(f3 b hb).1,p0⟩
  rintro n s5 ⟨i,acc,G5,H5,en,hi5,e5,⟨σ5,I5,hs5,hg5⟩,st5,fr5,p5⟩
  obtain⟨hstay,hacc⟩:=hst i acc G5 hi5 p5
  obtain⟨go,stop,yl⟩:=IT i H5 G5 e5 hg5 hstay
  by_cases hlt:i<xs.length
  ·refine thn (T0.item (jUf X scope cl s3.heap.objs.size fp s3 (upd H2 D (.lst []))) rfl rfl rfl hc i [] s5 σ5 H5 (fun _ _=>False) I5 (fpc fr5 (by simp)) st5 (go hlt)) fun r s6 ⟨u,hr,h6⟩=> ?_
   subst hr
   refine thn h6 fun _ s7 ⟨x,H7,I7,r7,y7,st7,fr7⟩=> ?_
   obtain⟨e7,g7,t,ht,rt⟩:=yl hlt x H7 y7
   have I7':=I7.pinned (fpc fr7 (by simp)) (T0.obj _ _ st7)
   refine thn (hg _ _ _ _ ([]++jQq fp s7.heap) s7 (msk mask τ) G5 H7 t u _ ⟨σ5,I7',hs5.mono e7,g7⟩ ⟨x,rt,r7⟩ (hgk _ _ _ _ (turn i t acc G5 ht p5))) fun _ s8 ⟨τ8,G8,H8,e8,I8,q8,ql8,qk8⟩=> ?_
   refine thn (hif _ _ _ _ ([]++jQq fp s7.heap) s8 τ8 G8 H8 _ I8 q8) fun b s9 ⟨G9,H9,e9,I9,q9⟩=> ?_
   have back:∀ {Ga:Gp} {Ha:Hp} {sa:Shared} {acc':List T},Ext H7 Ha->Inv3 (jUf X scope cl s3.heap.objs.size fp s3 (upd H2 D (.lst []))) ([]++jQq fp s7.heap) τ8 Ga Ha sa->P (i+1) acc' Ga->
     ∃m,m<n/\∃i acc G' H',m=xs.length-i/\i<=xs.length/\Ext H2 H'/\Inv3 (jUf X scope cl s3.heap.objs.size fp s3 (upd H2 D (.lst []))) [] (msk mask τ) G' H' sa/\tn i sa.heap/\(∀b∈fp,H' b=none)/\P i acc G':=by
    rintro Ga Ha sa acc' ea ⟨σa,Ia,hsa,hga⟩ pa
    have e2a:Ext H5 Ha:=e7.trans ea
    have hla:mask.length=τ8.length:=by rw[ql8,jUr hl3];exact hl3
    have hsm:=kKy (mask:=mask) hsa hla
    rw[kXw hl3 ql8 qk8] at hsm
    refine⟨xs.length-(i+1),by omega,i+1,acc',Ga,Ha,rfl,hlt,e5.trans e2a,⟨msk mask σa,(Ia.weak (jUr (hla.trans hsa.1.symm)) fun j v hv=>(jZs hv).2).pins_of (fun p hp=>absurd hp (by simp)),hsm,hga⟩,?_,fun b hb=> ?_,pa⟩
    ·exact T0.keep _ _ _ st7 fun b hb o e=>(Ia.pin (b,o) (lJ3 _ (lJ3 _ (jQl hb e)))).1
    ·obtain⟨o,e,d⟩:=T0.obj _ _ st7 b hb
     exact (Ia.pin (b,o) (lJ3 _ (lJ3 _ (jQl hb e)))).2.1
   cases b with
   | false=>
    rw[lJb lJs] at q9 ⊢
    exact back (e8.trans e9) I9 q9
   | true=>
    rw[lJc rfl] at q9 ⊢
    refine thn (he _ _ _ _ ([]++jQq fp s7.heap) s9 τ8 G9 H9 _ I9 q9) fun y s10 w_=>w_.el fun ty G10 H10 e10 I10 r10 ⟨hD10,hz10,q10⟩=> ?_
    obtain⟨vy,rvy,ruy⟩:=r10
    refine thn (jKx ([]++jQq fp s7.heap) s10 τ8 G10 H10 (.ref D) [ty] (.ref D) [y] (fun _ G'=>P (i+1) (acc++[ty]) G') I10 ⟨.ref D,rfl,rfl⟩ ⟨[vy],.one rvy,.cons ruy .nil⟩ ⟨D,acc,ty,rfl,rfl,hD10,hz10,q10⟩) fun _ s11 w_=>w_.el fun _ G11 H11 e11 I11 _ q11=> ?_
    exact back (((e8.trans e9).trans e10).trans e11) I11 q11
  ·have ei:i=xs.length:=by omega
   refine thn (T0.done (jUf X scope cl s3.heap.objs.size fp s3 (upd H2 D (.lst []))) rfl rfl rfl hc i [] s5 σ5 H5 (fun _ _=>False) I5 (fpc fr5 (by simp)) st5 (stop (by omega))) fun r s6 ⟨hr,I6⟩=> ?_
   subst hr;subst ei
   obtain⟨m,hn,_⟩:=I6.loc
   obtain⟨oC,es,ep,hoC,hdC,_⟩:=id hn
   refine hRR D s3.heap.objs.size s6 m hn ⟨G5,H5,eH.trans e5,I6.free,fin acc G5 p5,fun h' hb=>⟨σ,uJt I3 f3 (lJg _) I6 hb,hs2.mono e5,hg5⟩⟩
    ⟨oC,hoC,lK7 I3.lt,I3.nofs (lJg _),fun v z=>by rw[hdC] at z;cases z⟩ (fun x d hd=> ?_) (fun p hp=> ?_) I3.sz
   ·obtain⟨v,q⟩:=I3.cell x d hd
    exact lJm q.lt
   ·exact lJm (lJi (I3.pin p hp).1)
 exact codeAny_compStart_list (loop _ (by rw[<-hs3])) (T0.self _ 0 _ _ _ st4 (loop _ (by rw[<-hs3])))
theorem jK8 (hc:X.calm=true) (ok:CmpOk X scope cl mask) (hi:PI3 X tg iter wi) (hgk:kUp mask g) (hg:∀C fp s H,PG3 (jUf X scope cl C fp s H) tg g) (hif:∀C fp s H,PIf3 (jUf X scope cl C fp s H) ifs tif) (he:∀C fp s H,PE3 (jUf X scope cl C fp s H) elt te)
  (hs:∀x,foldedSetIterable iter X.env x=pure x:=by intro _;rfl):PE3 X (.ListComp elt [⟨tg,iter,ifs,0⟩] scope pos) (jKp mask wi g tif te):=by
 intro pins s τ G H Q I h
 rw[eval_ListComp]
 refine lZg (use:=none) rfl hs (jYg ok.cl) ok.kind ok.nm (thn (hi pins s τ G H _ I h) fun xv s1 h1=>thn h1 fun itv s2 h2=> ?_)
 refine kJ5 (RR:=fun acc C=>compPost (model X.prog X.w) X.A X.xe none (EP3 X pins τ H Q) acc C) hc ok hgk hg hif he h2 ?_
 rintro D C s' m hn ⟨G1,H1,e1,_,q1,hI⟩ _ _ _ _
 exact⟨m,hn,fun h' hb=>⟨.ref D,G1,H1,e1,hI h' hb,⟨.ref D,rfl,rfl⟩,q1⟩⟩
theorem kXk {i:Nat} {y:Str} {py spos:Pos} (hc:X.calm=true) (hN:X.N.Nodup) (ok:CmpOk X scope cl mask) (hi:PI3 X tg iter wi) (hgk:kUp mask g) (hg:∀C fp s H,PG3 (jUf X scope cl C fp s H) tg g) (hif:∀C fp s H,PIf3 (jUf X scope cl C fp s H) ifs tif) (he:∀C fp s H,PE3 (jUf X scope cl C fp s H) elt te)
  (hy:X.N[i]? =some y:=by rfl) (hx:X.env.scope.names.lookup y=some .local:=by rfl)
  (hsw:swapsWith (.ListComp elt [⟨tg,iter,ifs,0⟩] scope pos) (some (.Name y py)) spos.line X.env=pure true:=by rfl)
  (hs:∀x,foldedSetIterable iter X.env x=pure x:=by intro _;rfl):PS3 X (.Assign [.Name y py] (.ListComp elt [⟨tg,iter,ifs,0⟩] scope pos) spos) (tAsg (jKp mask wi g tif te) (jJg i)):=by
 intro pins s τ G H D I h
 rw[exec_Assign_Name_used _ _ _ _ hsw];refine lJa (wpAny_standAt (lJa ?_))
 show wpAny _ X.A (do let _ <-comprehension (.ListComp elt [⟨tg,iter,ifs,0⟩] scope pos) scope X.env _ (newList []) false (eval iter X.env) (some (assign (.Name y py) X.env))) _ _ s
 refine lJa (lQv (lZg (use:=some (assign (.Name y py) X.env)) (Q:=fun _ s'=>SP3 X pins H D .next s') rfl hs (jYg ok.cl) ok.kind ok.nm
  (thn (hi pins s τ G H _ I h) fun xv s1 h1=>thn h1 fun itv s2 h2=> ?_)) (fun _ s' hq=>lJd (lJd hq)) fun _ _ e=>e)
 refine kJ5 (RR:=fun acc C=>compPost (model X.prog X.w) X.A X.xe (some (assign (.Name y py) X.env)) (fun _ s'=>SP3 X pins H D .next s') acc C) hc ok hgk hg hif he h2 ?_
 rintro Dd C s' m hn ⟨G1,H1,e1,hH1C,q1,hI⟩ ⟨oC,hoC,c1,c2,c3⟩ c4 c5 c6
 show wpAny _ X.A (assign (.Name y py) X.env (.ref Dd)) _ _ _
 obtain⟨σ1,I1,hs1,hg1⟩:=hI s'.heap (.refl ..)
 have I1':Inv X (pins++[(C,oC)]) σ1 H1 s':=I1.pins_of fun p hp=>(lJn.mp hp).elim (fun z=>I1.pin p (lJ3 _ z)) fun z=>by
  obtain rfl:p=(C,oC):=by simpa using z
  exact⟨hoC,hH1C,c1,c2,c3⟩
 refine wpAny_assign_Name (kKh I1' hN hy (.inl hx) (v:= .ref Dd) rfl (fun s2 I2=> ?_) (.inr hx))
 have hC2:s2.heap.get? C=some oC:=(I2.pin (C,oC) (lJ3 _ (lJ3 _ (by simp)))).1
 obtain⟨oC',es,ep,hoC',r⟩:=hn
 have eo:oC'=oC:=by rw[hoC] at hoC';exact (lJ2 hoC').symm
 subst eo
 refine⟨m,⟨oC',es,ep,hC2,r⟩,fun h' hb=>⟨_,G1,H1,e1,⟨_,?_,hs1.set i (show Rep X.K H1 (.ref Dd) (.ref Dd) from rfl),hg1⟩,q1⟩⟩
 exact I2.unpinned.turned (t':=s2.toks) (fun b o hb' e=>(hb.2 b hb').trans e) hH1C c1 (.inr c6) c4 c5
end
end L3
namespace HT
open PySem PyProof.Rows
def lexLe:(xs ys:List Int)->Bool
 | [],_=>true
 | _::_,[]=>false
 | x::xs,y::ys=>if x=y then lexLe xs ys else decide (x<=y)
theorem kZl (x y:Int) (xs ys:List Int):lexLe (x::xs) (y::ys)=if x=y then lexLe xs ys else decide (x<=y):=rfl
theorem qK1 (ys:List Int):lexLe [] ys=true:=by cases ys<;>rfl
theorem kJk (x:Int) (xs:List Int):lexLe (x::xs) []=false:=rfl
theorem qVb (A:Around) (s:Shared) (a:Int) (t:Tok) (c:Int) (u:Tok) (prog:Program) (w:World) (E:Value->Shared->Prop) (Q:Value->Shared->Prop) (h:Q (.bool (decide (a<=c))) s):
  wpAny (model prog w) A (richCompare .LtE (.int a t) (.int c u)) Q E s:=
 (PyProof.Rows.le_int h:wpAny (model prog w) A (compareOp .LtE (.int a t) (.int c u)) Q E s)
section
open PySem.SeqAt
open PySem.AutoSeq1 (wpAny_loadPart')
open PySem.MeetsSeq PySem.MeetsSeq2 PySem.MeetsSeq3
theorem kKb (l b:Addr) (items items2:Array Value) (n n2:Nat) (dd dd2:Option Addr) (sl sl2:Array (Option Value)) (ns ms:List Int) (hi:IntsAre items.toList ns) (hj:IntsAre items2.toList ms):
  Meets (Builtin.«tuple.__le__» ⟨[.ref l,.ref b],[]⟩)
   (fun _ R s=>s.heap.get? l=some {cls:= .type "tuple",dict:=dd,data:= .seq items n,slots:=sl}/\s.heap.get? b=some {cls:= .type "tuple",dict:=dd2,data:= .seq items2 n2,slots:=sl2}/\
    R (.ok (.ret (.bool (lexLe ns ms)))) s):=
 .of_wp fun prog w A R s h=>by
  obtain⟨hp,g,d,tk,os⟩:=s;obtain⟨hl,hb,h⟩:=h
  have f2:=AutoSeq1.sub_tuple_tuple
  have z1:items.size=ns.length:=by rw[<-hi.length];simp
  have z2:items2.size=ms.length:=by rw[<-hj.length];simp
  wp_walk using wpAny_loadPart' hl,wpAny_loadPart' hb,wpAny_forIn_list _ (fun rest b s'=>b.1=none/\s'=⟨hp,g,d,tk,os⟩/\∃(vs ws:List Value) (ns' ms':List Int),rest=vs.zip ws/\
   IntsAre vs ns'/\IntsAre ws ms'/\ns'.length+items2.size=ms'.length+items.size/\R (.ok (.ret (.bool (lexLe ns' ms')))) ⟨hp,g,d,tk,os⟩) _
  case turn=>
   rintro⟨y,x⟩ rest b s' ⟨hb',rfl,vs,ws,ns',ms',hz,hvi,hwi,hlen,hR⟩
   cases hvi with
   | nil=>rw[List.zip_nil_left] at hz;cases hz
   | cons a t hvi'=>
    cases hwi with
    | nil=>rw[List.zip_nil_right] at hz;cases hz
    | cons c u hwi'=>
     rw[lXz] at hz
     injection hz with hyx hrest
     injection hyx with hy hx
     subst hy hx
     rw[kZl] at hR
     simp only[lJ5] at hlen
     obtain⟨e,he,hiff⟩:=qXc A.in1 ⟨hp,g,d,tk,os⟩ a t c u
     refine lJa (he prog w _ _ ?_)
     cases e with
     | true=>
      rw[lJc (hiff.mp rfl)] at hR
      wp_walk
      exact⟨rfl,rfl,_,_,_,_,hrest,hvi',hwi',by omega,hR⟩
     | false=>
      rw[lJb (fun q=>absurd (hiff.mpr q) lJs)] at hR
      have hri:=qVb A.in1 ⟨hp,g,d,tk,os⟩ a t c u prog w
      wp_walk using hri
      exact⟨_,rfl,by simpa using hR⟩
  case fin=>
   rintro⟨b1,b2⟩ s' ⟨hb',rfl,vs,ws,ns',ms',hz,hvi,hwi,hlen,hR⟩
   simp only at hb'
   subst hb'
   have hv:lexLe ns' ms'=decide (items.size<=items2.size):=by
    cases hvi with
    | nil=>
     simp only[lQp] at hlen
     rw[qK1]
     exact (lJ4 (by omega)).symm
    | cons a t hv=>
     cases hwi with
     | nil=>
      simp only[lQp,lJ5] at hlen
      rw[kJk]
      exact (lJv (by omega)).symm
     | cons c u hw=>
      rw[lXz] at hz
      cases hz
   rw[hv] at hR
   wp_walk
   exact⟨_,rfl,by simpa[Builtin.Tuple.tupleCompareSizes] using hR⟩
  case h=>
   exact⟨rfl,rfl,items.toList,items2.toList,ns,ms,rfl,hi,hj,by omega,h⟩
end
theorem le_tupInts {prog:Program} {w:World} {A:Around} {E:Value->Shared->Prop} {s:Shared} {l b:Addr} {items items2:Array Value} {ns ms:List Int} {Q:Value->Shared->Prop} (hl:IsTup s.heap l items) (hb:IsTup s.heap b items2) (hi:IntsAre items.toList ns) (hj:IntsAre items2.toList ms)
  (hu:A.units<cLine) (h:Q (.bool (lexLe ns ms)) s):wpAny (model prog w) A (compareOp .LtE (.ref l) (.ref b)) Q E s:=by
 obtain⟨⟨cls,dd,data,sl⟩,ho,hc,n,hd⟩:=id hl
 obtain⟨⟨cls2,dd2,data2,sl2⟩,ho2,hc2,n2,hd2⟩:=id hb
 simp only at hc hd hc2 hd2
 subst hc hd hc2 hd2
 exact richCompare_meets_room (op:= .LtE) ⟨_,ho,rfl⟩ ⟨_,ho2,rfl⟩ PySem.F.slot_tuple_le PySem.F.entry_tuple_le (PySem.F.args_tuple_le_2 _ _) (kKb l b items items2 n n2 dd dd2 sl sl2 ns ms hi hj)
  ⟨ho,ho2,show Value.bool (lexLe ns ms)≠Value.notImplemented/\Q (.bool (lexLe ns ms)) s from⟨(fun x=>nomatch x),h⟩⟩ hu
end HT
namespace L3
open PySem PySem.Spec PyProof.Rows L2
section
variable {X:Cx}
theorem jKu {K:PySem.W.Frag} {H:Hp}:∀ {ns:List Int} {vs:List V},Reps K H (ns.map T.int) vs->vs=ns.map V.int
 | [],_,h=>h
 | n::ns,_,⟨v,ws,e,r,rs⟩=>by
  subst e;cases (show v= .int n from r)
  rw[jKu rs];rfl
def rLeT:R3:=fun x y G Q=>∃ns ms,x= .tup (ns.map T.int)/\y= .tup (ms.map T.int)/\Q (.bl (HT.lexLe ns ms)) G
theorem o_leT (hu:X.A.units<cLine):Op3 X (compareOp .LtE) rLeT:=by
 rintro pins s τ G H x y v u Q ⟨σ,I,hs,hg⟩ ⟨a,ra,rv⟩ ⟨b,rb,ru⟩ ⟨ns,ms,ex,ey,q⟩
 subst ex;subst ey
 obtain⟨p,vs,e1,h1,h2⟩:=(show ∃p vs,a= .ref p/\H p=some (.tup vs)/\Reps X.K H (ns.map T.int) vs from ra)
 obtain⟨p',ws,e2,h3,h4⟩:=(show ∃p vs,b= .ref p/\H p=some (.tup vs)/\Reps X.K H (ms.map T.int) vs from rb)
 subst e1;subst e2
 cases rv;cases ru
 rw[jKu h2] at h1
 rw[jKu h4] at h3
 obtain⟨its,r1,p1,_⟩:=I.tuple (.of h1)
 obtain⟨its2,r2,p2,_⟩:=I.tuple (.of h3)
 exact HT.le_tupInts p1 p2 (show IntsAre its.toArray.toList ns from kJ1 r1) (show IntsAre its2.toArray.toList ms from kJ1 r2) hu ⟨.bl _,G,H,.refl H,⟨σ,I,hs,hg⟩,⟨.bl _,rfl,rfl⟩,q⟩
def rLeI:R3:=rI0 fun i j=> .bl (decide (i<=j))
def rLeA:R3:=fun x y G Q=>rLeI x y G Q\/rLeT x y G Q
theorem o_leA (hu:X.A.units+20<cLine):Op3 X (compareOp .LtE) rLeA:=o_le.or (o_leT (by omega))
theorem qQx {G:Gp} {x y:T} {b:Bool} (h:eqG G x y=some b):
  (∃p q xs ys,x= .ref p/\y= .ref q/\G p=some (.lst xs)/\G q=some (.lst ys)/\jZ1 xs=true/\jZ1 ys=true/\b=eqTs xs ys)\/(eqOk x=true/\eqOk y=true/\b=eqT x y):=by
 by_cases hr:∃p q,x= .ref p/\y= .ref q
 ·obtain⟨p,q,ex,ey⟩:=hr
  subst ex;subst ey
  refine .inl ?_
  simp only[eqG] at h
  split at h
  ·rename_i xs ys h1 h2
   split at h
   ·rename_i hc
    cases h
    exact⟨p,q,xs,ys,rfl,rfl,h1,h2,hc.1,hc.2,rfl⟩
   ·cases h
  ·cases h
 ·refine .inr ?_
  have e:eqG G x y=if eqOk x=true/\eqOk y=true then some (eqT x y) else none:=by
   cases x with
   | ref p=>cases y with
    | ref q=>exact absurd ⟨p,q,rfl,rfl⟩ hr
    | _=>rfl
   | _=>rfl
  rw[e] at h
  split at h
  ·rename_i hc
   cases h
   exact⟨hc.1,hc.2,rfl⟩
  ·cases h
mutual
theorem kKm {X:Cx} {pins:List (Addr×Obj)} {σ:L2.St} {H:Hp} {s:Shared} (I:Inv X pins σ H s):∀(x:T) {a:V} {u:Value},tree x=true->Rep X.K H x a->RelV a u->∃as,Reads s.heap u (td x) as
 | .non,a,u,_,r,q=>by cases (show a= .non from r);cases q;exact⟨_,.none⟩
 | .bl b,a,u,_,r,q=>by cases (show a= .bl b from r);cases q;exact⟨_,.bool b⟩
 | .int b,a,u,_,r,q=>by cases (show a= .int b from r);obtain⟨t,rfl⟩:=q;exact⟨_,.int b t⟩
 | .str b,a,u,_,r,q=>by cases (show a= .str b from r);obtain⟨t,rfl⟩:=q;exact⟨_,.str b t⟩
 | .tup xs,a,u,ht,r,q=>by
  obtain⟨p,vs,e1,h1,h2⟩:=(show ∃p vs,a= .ref p/\H p=some (.tup vs)/\Reps X.K H xs vs from r)
  subst e1;cases q
  obtain⟨its,rv,⟨o,ho,hc,n,hd⟩,_⟩:=I.tuple (.of h1)
  obtain⟨as,ra⟩:=jXh I xs (show jQa xs=true from ht) h2 rv
  exact⟨_,.tuple ho hc hd (by simpa using ra)⟩
 | .ref _,_,_,ht,_,_=>absurd (show false=true from ht) lJs
 | .scr _,_,_,ht,_,_=>absurd (show false=true from ht) lJs
 | .ty _,_,_,ht,_,_=>absurd (show false=true from ht) lJs
theorem jXh {X:Cx} {pins:List (Addr×Obj)} {σ:L2.St} {H:Hp} {s:Shared} (I:Inv X pins σ H s):∀(xs:List T) {vs:List V} {us:List Value},jQa xs=true->Reps X.K H xs vs->Vals vs us->∃as,ReadsAll s.heap us (tds xs) as
 | [],_,_,_,r,q=>by cases r;cases q;exact⟨_,.nil⟩
 | x::xs,_,_,ht,⟨v,ws,e,r1,r2⟩,q=>by
  subst e
  cases q with
  | cons q1 q2=>
   have hx:tree x=true/\jQa xs=true:=by simpa[jQa] using ht
   obtain⟨as,ra⟩:=kKm I x hx.1 r1 q1
   obtain⟨bs,rb⟩:=jXh I xs hx.2 r2 q2
   exact⟨_,.cons ra rb⟩
end
mutual
theorem eqv_T:∀(x y:T),tree x=true->tree y=true->PyData.eqv (td x) (td y)=eqT x y
 | .non,y,_,hy=>by cases y<;>first | rfl | exact absurd (show false=true from hy) lJs
 | .bl b,y,_,hy=>by cases y<;>first | rfl | exact absurd (show false=true from hy) lJs
 | .int b,y,_,hy=>by cases y<;>first | rfl | exact absurd (show false=true from hy) lJs
 | .str b,y,_,hy=>by cases y<;>first | rfl | exact absurd (show false=true from hy) lJs
 | .tup xs,y,hx,hy=>by
  cases y with
  | tup ys=>exact qQv xs ys (show jQa xs=true from hx) (show jQa ys=true from hy)
  | _=>first | rfl | exact absurd (show false=true from hy) lJs
 | .ref _,_,ht,_=>absurd (show false=true from ht) lJs
 | .scr _,_,ht,_=>absurd (show false=true from ht) lJs
 | .ty _,_,ht,_=>absurd (show false=true from ht) lJs
theorem qQv:∀(xs ys:List T),jQa xs=true->jQa ys=true->PyData.eqvAll (tds xs) (tds ys)=eqTs xs ys
 | [],[],_,_=>rfl
 | [],_::_,_,_=>rfl
 | _::_,[],_,_=>rfl
 | x::xs,y::ys,hx,hy=>by
  have hx':tree x=true/\jQa xs=true:=by simpa[jQa] using hx
  have hy':tree y=true/\jQa ys=true:=by simpa[jQa] using hy
  show (PyData.eqv (td x) (td y)&&PyData.eqvAll (tds xs) (tds ys))=(eqT x y&&eqTs xs ys)
  rw[eqv_T x y hx'.1 hy'.1,qQv xs ys hx'.2 hy'.2]
end
theorem kYj {pins:List (Addr×Obj)} {σ:L2.St} {H:Hp} {s:Shared} {G:Gp} {x y:T} {a b:V} {u v:Value} {k:Bool} (I:Inv X pins σ H s) (hg:GRel X.K H G) (ra:Rep X.K H x a) (rb:Rep X.K H y b) (ru:RelV a u) (rv:RelV b v) (h:eqG G x y=some k):
  ∃da db as bs,Reads s.heap u da as/\Reads s.heap v db bs/\da.canLay0=true/\db.canLay0=true/\da.depth<=50/\PyData.eqv da db=k:=by
 rcases qQx h with ⟨p,q,xs,ys,ex,ey,hp,hq,ox,oy,e⟩ | ⟨ox,oy,e⟩
 ·subst ex;subst ey
  cases (show a= .ref p from ra);cases (show b= .ref q from rb)
  cases ru;cases rv
  obtain⟨vs,h1,h2⟩:=hg.lst hp
  obtain⟨ws,h3,h4⟩:=hg.lst hq
  obtain⟨its,r1,⟨o,n,ho,hc,_,hd⟩,_⟩:=I.list (.of h1)
  obtain⟨its',r2,⟨o',n',ho',hc',_,hd'⟩,_⟩:=I.list (.of h3)
  simp only[jZ1,lKv,lKm] at ox oy
  obtain⟨as,r3⟩:=jXh I xs ox.1.1 h2 r1
  obtain⟨bs,r4⟩:=jXh I ys oy.1.1 h4 r2
  exact⟨.list (tds xs),.list (tds ys),_,_,.list ho hc hd (by simpa using r3),.list ho' hc' hd' (by simpa using r4),ox.1.2,oy.1.2,ox.2,by rw[e];exact qQv xs ys ox.1.1 oy.1.1⟩
 ·simp only[eqOk,lKv,lKm] at ox oy
  obtain⟨as,r3⟩:=kKm I x ox.1.1 ra ru
  obtain⟨bs,r4⟩:=kKm I y oy.1.1 rb rv
  exact⟨td x,td y,_,_,r3,r4,ox.1.2,oy.1.2,ox.2,by rw[e];exact eqv_T x y ox.1.1 oy.1.1⟩
theorem kVm (hu:X.A.units+64<cLine):Op3 X (compareOp .Eq) rEqA:=by
 rintro pins s τ G H x y v u Q ⟨σ,I,hs,hg⟩ ⟨a,ra,rv⟩ ⟨b,rb,ru⟩ ⟨k,hk,q⟩
 obtain⟨da,db,as,bs,r1,r2,c1,c2,d,e⟩:=kYj I hg ra rb rv ru hk
 exact SeqAt.compareEq_reads r1 r2 c1 c2 (by omega) ⟨.bl k,G,H,.refl H,⟨σ,I,hs,hg⟩,⟨.bl k,rfl,by rw[e];rfl⟩,q⟩
theorem o_neA (hu:X.A.units+64<cLine):Op3 X (compareOp .NotEq) rNeA:=by
 rintro pins s τ G H x y v u Q ⟨σ,I,hs,hg⟩ ⟨a,ra,rv⟩ ⟨b,rb,ru⟩ ⟨k,hk,q⟩
 obtain⟨da,db,as,bs,r1,r2,c1,c2,d,e⟩:=kYj I hg ra rb rv ru hk
 exact SeqAt.compareNe_reads r1 r2 c1 c2 (by omega) ⟨.bl (!k),G,H,.refl H,⟨σ,I,hs,hg⟩,⟨.bl (!k),rfl,by rw[e];rfl⟩,q⟩
end
section
variable {X:Cx}
def kJo:T->Bool
 | .non=>true
 | .bl _=>true
 | .int _=>true
 | .str _=>true
 | _=>false
theorem kYh {K:PySem.W.Frag} {H:Hp} {x:T} {a:V} (r:Rep K H x a) (f:kJo x=true):kJn a=true:=by
 cases x with
 | non=>cases (show a= .non from r);rfl
 | bl _=>cases (show a= .bl _ from r);rfl
 | int _=>cases (show a= .int _ from r);rfl
 | str _=>cases (show a= .str _ from r);rfl
 | _=>exact absurd (show false=true from f) lJs
theorem uJb {K:PySem.W.Frag} {H:Hp} {x y:T} {a b:V} (r:Rep K H x a) (q:Rep K H y b) (f:kJo x=true) (g:kJo y=true):eqV a b=eqT x y:=by
 cases x with
 | non=>cases (show a= .non from r);cases y with
  | non=>cases (show b= .non from q);rfl
  | bl _=>cases (show b= .bl _ from q);rfl
  | int _=>cases (show b= .int _ from q);rfl
  | str _=>cases (show b= .str _ from q);rfl
  | _=>exact absurd (show false=true from g) lJs
 | bl _=>cases (show a= .bl _ from r);cases y with
  | non=>cases (show b= .non from q);rfl
  | bl _=>cases (show b= .bl _ from q);rfl
  | int _=>cases (show b= .int _ from q);rfl
  | str _=>cases (show b= .str _ from q);rfl
  | _=>exact absurd (show false=true from g) lJs
 | int _=>cases (show a= .int _ from r);cases y with
  | non=>cases (show b= .non from q);rfl
  | bl _=>cases (show b= .bl _ from q);rfl
  | int _=>cases (show b= .int _ from q);rfl
  | str _=>cases (show b= .str _ from q);rfl
  | _=>exact absurd (show false=true from g) lJs
 | str _=>cases (show a= .str _ from r);cases y with
  | non=>cases (show b= .non from q);rfl
  | bl _=>cases (show b= .bl _ from q);rfl
  | int _=>cases (show b= .int _ from q);rfl
  | str _=>cases (show b= .str _ from q);rfl
  | _=>exact absurd (show false=true from g) lJs
 | _=>exact absurd (show false=true from f) lJs
def inT (x:T) (xs:List T):Bool:=xs.any fun y=>eqT y x
theorem kYg {K:PySem.W.Frag} {H:Hp} {x:T} {a:V} (r:Rep K H x a) (f:kJo x=true):∀ {xs:List T} {vs:List V},Reps K H xs vs->xs.all kJo=true->vs.all kJn=true/\inV a vs=inT x xs
 | [],_,h,_=>by cases h;exact⟨rfl,rfl⟩
 | y::ys,_,⟨v,ws,e,r1,r2⟩,g=>by
  subst e
  rw[lVy,lKv] at g
  obtain⟨h1,h2⟩:=kYg r f r2 g.2
  refine⟨by rw[lVy,kYh r1 g.1,h1];rfl,?_⟩
  unfold inV inT at h2 ⊢
  rw[lQ4,lQ4,uJb r1 r g.1 f,h2]
def rInF (neg:Bool):R3:=fun x y G Q=>∃xs,seqT G y=some xs/\kJo x=true/\xs.all kJo=true/\Q (.bl (if neg then !inT x xs else inT x xs)) G
theorem qQd {neg:Bool} {op:CmpOp} (h:OpR X (compareOp op) (L2.rIn X.K neg)):Op3 X (compareOp op) (rInF neg):=
 Op3.of h fun H G x y a b Q hg ra rb ⟨xs,hx,fx,fs,q⟩=>by
  obtain⟨p,vs,e,hq,r⟩:=jQ7 hg rb hx
  obtain⟨h1,h2⟩:=kYg ra fx r fs
  exact⟨p,vs,e,hq,kYh ra fx,h1,.bl _,G,.refl H,hg,by rw[h2];rfl,q⟩
theorem o_inF:Op3 X (compareOp .In) (rInF false):=qQd qKi
theorem o_notInF:Op3 X (compareOp .NotIn) (rInF true):=qQd kQo
def jV4:T->Option Key
 | .int i=>some (.inl i)
 | .str x=>some (.inr x)
 | _=>none
def allK {K:Type} (f:T->Option K):List T->Option (List K)
 | []=>some []
 | x::xs=>match f x,allK f xs with
  | some k,some ks=>some (k::ks)
  | _,_=>none
def key1:T->Option K1
 | .tup ts=>(allK jV4 ts).map .inr
 | x=>(jV4 x).map .inl
def key2:T->Option K2
 | .tup ts=>(allK key1 ts).map .inr
 | x=>(jV4 x).map .inl
def jQy:List T->Option TKey:=allK key2
theorem jXs {K:PySem.W.Frag} {H:Hp} {x:T} {a:V} {k:Key} (h:jV4 x=some k) (r:Rep K H x a):a=kV k:=by
 cases x with
 | int i=>cases h;exact r
 | str i=>cases h;exact r
 | non=>cases h
 | bl _=>cases h
 | tup _=>cases h
 | scr _=>cases h
 | ref _=>cases h
 | ty _=>cases h
theorem jY3 {K:PySem.W.Frag} {H:Hp} {κ:Type} {f:T->Option κ} {R:κ->V->Prop} (hf:∀x k a,f x=some k->Rep K H x a->R k a):∀ {xs:List T} {vs:List V} {ks:List κ},allK f xs=some ks->Reps K H xs vs->Paired R ks vs
 | [],_,_,h,r=>by cases h;cases (show _=[] from r);exact .nil
 | x::xs,_,ks,h,⟨v,ws,e,r1,r2⟩=>by
  subst e
  unfold allK at h
  cases e1:f x with
  | none=>rw[e1] at h;cases h
  | some k=>
   cases e2:allK f xs with
   | none=>rw[e1,e2] at h;cases h
   | some ks'=>
    rw[e1,e2] at h;cases h
    exact .cons (hf _ _ _ e1 r1) (jY3 hf e2 r2)
theorem qV1 {K:PySem.W.Frag} {H:Hp} (x:T) (k:K1) (a:V) (h:key1 x=some k) (r:Rep K H x a):Rk1 H k a:=by
 cases x with
 | tup ts=>
  obtain⟨ks,h1,rfl⟩:=lQ7.mp (show (allK jV4 ts).map Sum.inr=some k from h)
  obtain⟨p,vs,e,h3,h4⟩:=(show ∃p vs,a= .ref p/\H p=some (.tup vs)/\Reps K H ts vs from r)
  exact⟨p,vs,e,h3,jY3 (fun x k a h r=>jXs h r) h1 h4⟩
 | int i=>cases h;exact r
 | str i=>cases h;exact r
 | non=>cases h
 | bl _=>cases h
 | scr _=>cases h
 | ref _=>cases h
 | ty _=>cases h
theorem qV0 {K:PySem.W.Frag} {H:Hp} (x:T) (k:K2) (a:V) (h:key2 x=some k) (r:Rep K H x a):Rk2 H k a:=by
 cases x with
 | tup ts=>
  obtain⟨ks,h1,rfl⟩:=lQ7.mp (show (allK key1 ts).map Sum.inr=some k from h)
  obtain⟨p,vs,e,h3,h4⟩:=(show ∃p vs,a= .ref p/\H p=some (.tup vs)/\Reps K H ts vs from r)
  exact⟨p,vs,e,h3,jY3 qV1 h1 h4⟩
 | int i=>cases h;exact r
 | str i=>cases h;exact r
 | non=>cases h
 | bl _=>cases h
 | scr _=>cases h
 | ref _=>cases h
 | ty _=>cases h
theorem jUd {K:PySem.W.Frag} {H:Hp} {xs:List T} {vs:List V} {ks:TKey} {p:Addr} (h:jQy xs=some ks) (e:H p=some (.tup vs)) (r:Reps K H xs vs):TKeyAt H ks p:=⟨vs,e,jY3 qV0 h r⟩
def valT {κ:Type} [DecidableEq κ] (kvs:List (κ×T)) (k:κ):Option T:=(kvs.find? fun kv=>decide (kv.1=k)).map (·.2)
noncomputable def putT {κ:Type} [DecidableEq κ] (kvs:List (κ×T)) (k:κ) (v:T):List (κ×T):=
 if (kvs.any fun kv=>decide (kv.1=k))=true then kvs.map (fun kv=>if kv.1=k then (kv.1,v) else kv) else kvs++[(k,v)]
theorem PKV.val {κ:Type} [DecidableEq κ] {K:PySem.W.Frag} {H:Hp} {kvs:List (κ×T)} {ws:List (κ×V)} (r:PKV K H kvs ws) (k:κ):(∀t,valT kvs k=some t->∃v,valV ws k=some v/\Rep K H t v)/\(valT kvs k).isSome=(valV ws k).isSome:=by
 unfold PKV at r
 induction r with
 | nil=>exact⟨fun t h=>by simp[valT] at h,rfl⟩
 | @cons p q ps qs h t ih=>
  by_cases e:p.1=k
  ·have e':q.1=k:=h.1.symm.trans e
   have b:valT (p::ps) k=some p.2:=by simp[valT,lQ5,e]
   rw[b,jYt e']
   exact⟨fun t ht=>by cases ht;exact⟨q.2,rfl,h.2⟩,rfl⟩
  ·have e':¬ q.1=k:=fun z=>e (h.1.trans z)
   have b:valT (p::ps) k=valT ps k:=by simp[valT,lQ5,e]
   rw[b,jYu e']
   exact ih
theorem PKV.any {κ:Type} [DecidableEq κ] {K:PySem.W.Frag} {H:Hp} {kvs:List (κ×T)} {ws:List (κ×V)} (r:PKV K H kvs ws) (k:κ):(kvs.any fun kv=>decide (kv.1=k))=ws.any fun kv=>decide (kv.1=k):=by
 unfold PKV at r
 induction r with
 | nil=>rfl
 | cons h t ih=>rw[lQ4,lQ4,ih,h.1]
theorem PKV.put {κ:Type} [DecidableEq κ] {K:PySem.W.Frag} {H:Hp} {kvs:List (κ×T)} {ws:List (κ×V)} (r:PKV K H kvs ws) (k:κ) {t:T} {v:V} (rt:Rep K H t v):PKV K H (putT kvs k t) (putK ws k v):=by
 unfold putT putK
 rw[r.any k]
 by_cases e:(ws.any fun kv=>decide (kv.1=k))=true
 ·rw[lJc e,lJc e]
  unfold PKV at r ⊢
  clear e
  induction r with
  | nil=>exact .nil
  | @cons p q ps qs h t' ih=>
   rw[lJq,lJq]
   refine .cons ?_ ih
   obtain⟨h1,h2⟩:=h
   by_cases e:p.1=k
   ·rw[lJc e,lJc (h1.symm.trans e)];exact⟨h1,rt⟩
   ·rw[lJb e,lJb (fun z=>e (h1.trans z))];exact⟨h1,h2⟩
 ·rw[lJb e,lJb e];exact Paired.snoc r ⟨rfl,rt⟩
theorem PKV.length {κ:Type} {K:PySem.W.Frag} {H:Hp} {kvs:List (κ×T)} {ws:List (κ×V)} (r:PKV K H kvs ws):kvs.length=ws.length:=lQn r
noncomputable def dAt (G:Gp) (x y:T):Option (Option T):=match x with
 | .ref p=>match G p with
  | some (.dct kvs)=>match y with
   | .tup ys=>match jQy ys with
    | some ks=>some (valT kvs ks)
    | none=>none
   | _=>none
  | some (.dck kvs)=>match jV4 y with
   | some k=>some (valT kvs k)
   | none=>none
  | some (.fdc kvs)=>match y with
   | .tup ys=>match jQy ys with
    | some ks=>some (valT kvs ks)
    | none=>none
   | _=>none
  | _=>none
 | _=>none
theorem kK6 {K:PySem.W.Frag} {H:Hp} {G:Gp} {x y:T} {a b:V} {o:Option T} (hg:GRel K H G) (ra:Rep K H x a) (rb:Rep K H y b) (h:dAt G x y=some o):
  ∃p ov,a= .ref p/\DGet H p b ov/\o.isSome=ov.isSome/\∀t,o=some t->∃v,ov=some v/\Rep K H t v:=by
 unfold dAt at h
 split at h
 ·rename_i p
  cases (show a= .ref p from ra)
  split at h
  ·rename_i kvs hG
   split at h
   ·rename_i ys
    split at h
    ·rename_i ks hk
     cases h
     obtain⟨ws,h1,h2⟩:=hg p _ hG
     obtain⟨q,vs,e,h3,h4⟩:=(show ∃q vs,b= .ref q/\H q=some (.tup vs)/\Reps K H ys vs from rb)
     subst e
     exact⟨p,_,rfl,DGet.t h1 (jUd hk h3 h4),(h2.val ks).2,(h2.val ks).1⟩
    ·cases h
   ·cases h
  ·rename_i kvs hG
   split at h
   ·rename_i k hk
    cases h
    obtain⟨ws,h1,h2⟩:=hg p _ hG
    rw[jXs hk rb]
    exact⟨p,_,rfl,DGet.k h1,(h2.val k).2,(h2.val k).1⟩
   ·cases h
  ·rename_i kvs hG
   split at h
   ·rename_i ys
    split at h
    ·rename_i ks hk
     cases h
     obtain⟨ob,ws,h1,h2⟩:=(show ∃ob ws,H p=some (.frz ob (.dT ws))/\PKV K H kvs ws from hg p _ hG)
     obtain⟨q,vs,e,h3,h4⟩:=(show ∃q vs,b= .ref q/\H q=some (.tup vs)/\Reps K H ys vs from rb)
     subst e
     exact⟨p,_,rfl,.inr ⟨ws,ks,q,.inr ⟨ob,h1⟩,rfl,jUd hk h3 h4,rfl⟩,(h2.val ks).2,(h2.val ks).1⟩
    ·cases h
   ·cases h
  ·cases h
 ·cases h
def rDGet:R3:=fun x y G Q=>∃t,dAt G x y=some (some t)/\Q t G
theorem qZy (hu:X.A.units+20<cLine):Ix3 X rDGet:=by
 rintro value slice pins s τ G H x y v u Q ⟨σ,I,hs,hg⟩ ⟨a,ra,rv⟩ ⟨b,rb,ru⟩ ⟨t,hd,q⟩ hsl
 obtain⟨p,ov,e,g,_,hh⟩:=kK6 hg ra rb hd
 obtain⟨w,ew,rw'⟩:=hh t rfl
 subst e;subst ew
 cases rv
 have hT:s.TypeIs (.ref p) "dict":=kV3 I g
 unfold subscriptTail
 refine lJa ?_
 rw[getitemInPython_of_ne hT.not_modules]
 refine lJa (lV5 hT PySem.F.slot_dict_getitem.lookup ?_)
 have fin:wpAny (model X.prog X.w) X.A (subscripted slice false (.ref p) u) (fun r s₃=>wpAny (model X.prog X.w) X.A (letTemporaryGo value (.ref p) r >>= fun _=>pure r) (EP3 X pins τ H Q) X.xe s₃) X.xe s:=by
  rw[hsl]
  exact wpAny_operating (qQ9 hu I g ru fun w' s' I' r'=>lJa (wpAny_letTemporaryGo (lJd ⟨t,G,H,.refl H,⟨σ,I',hs,hg⟩,⟨w,rw',r'⟩,q⟩)))
 first
  | exact lJd (lJa fin)
  | exact lJa (lJd (lJa fin))
  | exact lJa fin
theorem Ix3.or {r r':R3} (h:Ix3 X r) (h':Ix3 X r'):Ix3 X (fun x y G Q=>r x y G Q\/r' x y G Q):=by
 intro value slice pins s τ G H x y v u Q I rx ry q hs
 rcases q with q | q
 ·exact h value slice pins s τ G H x y v u Q I rx ry q hs
 ·exact h' value slice pins s τ G H x y v u Q I rx ry q hs
def rIxA:R3:=fun x y G Q=>rIx x y G Q\/rDGet x y G Q
theorem qZz (hu:X.A.units+20<cLine):Ix3 X rIxA:=ix_any.or (qZy hu)
def rDIn:R3:=fun x y G Q=>∃o,dAt G y x=some o/\Q (.bl o.isSome) G
def qJ9:R3:=fun x y G Q=>∃o,dAt G y x=some o/\Q (.bl (!o.isSome)) G
theorem o_dIn (hu:X.A.units+20<cLine):Op3 X (compareOp .In) rDIn:=by
 rintro pins s τ G H x y v u Q ⟨σ,I,hs,hg⟩ ⟨a,ra,rv⟩ ⟨b,rb,ru⟩ ⟨o,hd,q⟩
 obtain⟨p,ov,e,g,e2,_⟩:=kK6 hg rb ra hd
 subst e;cases ru
 exact d_in hu I g rv fun s' I'=>⟨.bl _,G,H,.refl H,⟨σ,I',hs,hg⟩,⟨.bl _,rfl,by rw[<-e2];rfl⟩,q⟩
theorem qVm (hu:X.A.units+20<cLine):Op3 X (compareOp .NotIn) qJ9:=by
 rintro pins s τ G H x y v u Q ⟨σ,I,hs,hg⟩ ⟨a,ra,rv⟩ ⟨b,rb,ru⟩ ⟨o,hd,q⟩
 obtain⟨p,ov,e,g,e2,_⟩:=kK6 hg rb ra hd
 subst e;cases ru
 exact uJs hu I g rv fun s' I'=>⟨.bl _,G,H,.refl H,⟨σ,I',hs,hg⟩,⟨.bl _,rfl,by rw[<-e2];rfl⟩,q⟩
def rInL:R3:=fun x y G Q=>rInF false x y G Q\/rDIn x y G Q
def qJ4:R3:=fun x y G Q=>rInF true x y G Q\/qJ9 x y G Q
theorem o_in (hu:X.A.units+20<cLine):Op3 X (compareOp .In) rInL:=o_inF.or (o_dIn hu)
theorem qZl (hu:X.A.units+20<cLine):Op3 X (compareOp .NotIn) qJ4:=o_notInF.or (qVm hu)
def kKf:TE3:=fun _ G Q=>(∀p,G p=none->Q (.ref p) (gup G p (.dct [])))\/∀p,G p=none->Q (.ref p) (gup G p (.dck []))
theorem e_dct {pos:Pos}:PE3 X (.Dict [] [] pos) kKf:=by
 rintro pins s τ G H Q ⟨σ,I,hs,hg⟩ h
 rcases h with h | h
 ·exact thn (qVh pins s σ H (up X.K H Q) I fun p hp=>⟨.ref p,_,.upd (.none hp),hg.upd (.none hp) (go:= .dct []) ⟨[],jKb,.nil⟩,rfl,h p (hg.fresh hp)⟩) fun u s' z=>jV3 hs z
 ·exact thn (qVi pins s σ H (up X.K H Q) I fun p hp=>⟨.ref p,_,.upd (.none hp),hg.upd (.none hp) (go:= .dck []) ⟨[],jKb,.nil⟩,rfl,h p (hg.fresh hp)⟩) fun u s' z=>jV3 hs z
noncomputable def qX3:T->T->T->Gp->(Gp->Prop)->Prop:=fun o i v G Q=>∃p ys ks kvs,o= .ref p/\i= .tup ys/\jQy ys=some ks/\G p=some (.dct kvs)/\kvs.length<sizeLine/\Q (gup G p (.dct (putT kvs ks v)))
def qX4:T->T->T->Gp->(Gp->Prop)->Prop:=fun o i v G Q=>∃p k kvs,o= .ref p/\jV4 i=some k/\G p=some (.dck kvs)/\kvs.length<sizeLine/\Q (gup G p (.dck (putT kvs k v)))
theorem qYz (hu:X.A.units+20<cLine):Set3 X qX3:=by
 rintro pins s τ G H o i v ov iv u Q ⟨σ,I,hs,hg⟩ ⟨a,ra,rv⟩ ⟨b,rb,ru⟩ ⟨c,rc,rw'⟩ ⟨p,ys,ks,kvs,eo,ei,hk,hG,hz,q⟩
 subst eo;subst ei
 cases (show a= .ref p from ra);cases rv
 obtain⟨ws,h1,h2⟩:=hg p _ hG
 obtain⟨b',vs,e,h3,h4⟩:=(show ∃q vs,b= .ref q/\H q=some (.tup vs)/\Reps X.K H ys vs from rb)
 subst e
 have h3:=jUd hk h3 h4
 have e:Ext H (upd H p (.dT (putK ws ks c))):= .upd (.dT h1)
 exact kQ6 hu I (DPut.t h1 h3 (by rw[<-h2.length];exact hz)) ru rw' fun s' I'=>⟨_,_,e,⟨σ,I',hs.mono e,hg.upd (.dT h1) (go:= .dct (putT kvs ks v)) ⟨_,jKb,(h2.put ks rc).mono e⟩⟩,q⟩
theorem qY0 (hu:X.A.units+20<cLine):Set3 X qX4:=by
 rintro pins s τ G H o i v ov iv u Q ⟨σ,I,hs,hg⟩ ⟨a,ra,rv⟩ ⟨b,rb,ru⟩ ⟨c,rc,rw'⟩ ⟨p,k,kvs,eo,hk,hG,hz,q⟩
 subst eo
 cases (show a= .ref p from ra);cases rv
 obtain⟨ws,h1,h2⟩:=hg p _ hG
 have eb:=jXs hk rb
 subst eb
 have e:Ext H (upd H p (.dK (putK ws k c))):= .upd (.dK h1)
 exact kQ6 hu I (DPut.k h1 (by rw[<-h2.length];exact hz)) ru rw' fun s' I'=>⟨_,_,e,⟨σ,I',hs.mono e,hg.upd (.dK h1) (go:= .dck (putT kvs k v)) ⟨_,jKb,(h2.put k rc).mono e⟩⟩,q⟩
theorem Set3.or {r r':T->T->T->Gp->(Gp->Prop)->Prop} (h:Set3 X r) (h':Set3 X r'):Set3 X (fun o i v G Q=>r o i v G Q\/r' o i v G Q):=by
 intro pins s τ G H o i v ov iv u Q I ro ri rv q
 rcases q with q | q
 ·exact h pins s τ G H o i v ov iv u Q I ro ri rv q
 ·exact h' pins s τ G H o i v ov iv u Q I ro ri rv q
def rSetA:T->T->T->Gp->(Gp->Prop)->Prop:=fun o i v G Q=>qVc o i v G Q\/qX3 o i v G Q\/qX4 o i v G Q
theorem s_any (hu:X.A.units+20<cLine):Set3 X rSetA:=s_list.or ((qYz hu).or (qY0 hu))
end
noncomputable def kUu (G:Gp):T->Option String
 | .non=>some "NoneType"
 | .bl _=>some "bool"
 | .int _=>some "int"
 | .str _=>some "str"
 | .tup _=>some "tuple"
 | .scr _=>some "list"
 | .ref p=>match G p with
  | some (.lst _)=>some "list"
  | some (.dct _)=>some "dict"
  | some (.dck _)=>some "dict"
  | some (.fdc _)=>none
  | some (.ins _ _)=>none
  | none=>none
 | .ty _=>none
def subT (t n:String):Option Bool:=
 if n="bool"\/n="int"\/n="str"\/n="list"\/n="tuple" then some (t == n||(t == "bool"&&n == "int")) else none
theorem qVy (K:PySem.W.Frag) {n:String} {b:Bool} (h:subT "bool" n=some b):PySem.W.kitOne K (.type "bool") (.type n)=some b:=by
 unfold subT at h
 split at h
 ·rename_i hn
  rcases hn with rfl | rfl | rfl | rfl | rfl<;>(cases h;kernel_rfl)
 ·cases h
theorem qVx (K:PySem.W.Frag) {n:String} {b:Bool} (h:subT "NoneType" n=some b):PySem.W.kitOne K (.type "NoneType") (.type n)=some b:=by
 unfold subT at h
 split at h
 ·rename_i hn
  rcases hn with rfl | rfl | rfl | rfl | rfl<;>(cases h;kernel_rfl)
 ·cases h
theorem qZv (K:PySem.W.Frag) {n:String} {b:Bool} (h:subT "int" n=some b):PySem.W.kitOne K (.type "int") (.type n)=some b:=by
 unfold subT at h
 split at h
 ·rename_i hn
  rcases hn with rfl | rfl | rfl | rfl | rfl<;>(cases h;kernel_rfl)
 ·cases h
theorem qZu (K:PySem.W.Frag) {n:String} {b:Bool} (h:subT "str" n=some b):PySem.W.kitOne K (.type "str") (.type n)=some b:=by
 unfold subT at h
 split at h
 ·rename_i hn
  rcases hn with rfl | rfl | rfl | rfl | rfl<;>(cases h;kernel_rfl)
 ·cases h
theorem qK3 (K:PySem.W.Frag) {n:String} {b:Bool} (h:subT "tuple" n=some b):PySem.W.kitOne K (.type "tuple") (.type n)=some b:=by
 unfold subT at h
 split at h
 ·rename_i hn
  rcases hn with rfl | rfl | rfl | rfl | rfl<;>(cases h;kernel_rfl)
 ·cases h
theorem kX5 (K:PySem.W.Frag) {n:String} {b:Bool} (h:subT "list" n=some b):PySem.W.kitOne K (.type "list") (.type n)=some b:=by
 unfold subT at h
 split at h
 ·rename_i hn
  rcases hn with rfl | rfl | rfl | rfl | rfl<;>(cases h;kernel_rfl)
 ·cases h
theorem kX6 (K:PySem.W.Frag) {n:String} {b:Bool} (h:subT "dict" n=some b):PySem.W.kitOne K (.type "dict") (.type n)=some b:=by
 unfold subT at h
 split at h
 ·rename_i hn
  rcases hn with rfl | rfl | rfl | rfl | rfl<;>(cases h;kernel_rfl)
 ·cases h
section
variable {X:Cx}
theorem e_ty {x:Str} {n:String} {pos:Pos} (hg:Gl X x) (hm:X.mg x=none) (hv:bootBuiltins x=some (.type n)) (hn:x≠"__name__":=by decide) (hd:(x == ("__debug__":Str))=false:=by decide):PE3 X (.Name x pos) (tC (.ty n)):=
 fun pins s τ G H Q ⟨σ,I,hs,hg'⟩ q=>thn (qZb (v:= .ty n) hg hm hv rfl hn hd pins s σ H (up X.K H Q) I ⟨.ty n,G,.refl H,hg',rfl,q⟩) fun u s' h=>jV3 hs h
def kitT (t:String):List T->Option Bool
 | []=>some false
 | .ty n::r=>match subT t n with
  | some true=>some true
  | some false=>kitT t r
  | none=>none
 | _::_=>none
def isiC:Option String->T->Option Bool
 | some t,.ty n=>subT t n
 | some t,.tup cs=>kitT t cs
 | _,_=>none
def isiT (G:Gp) (x c:T):Option Bool:=isiC (kUu G x) c
def rIsi:List T->Gp->VK3->Prop:=fun xs G Q=>∃x c b,xs=[x,c]/\isiT G x c=some b/\Q (.bl b) G
theorem qK4 {K:PySem.W.Frag} {H:Hp} {t:String} (ok:∀n b,subT t n=some b->PySem.W.kitOne K (.type t) (.type n)=some b):∀ {cs:List T} {vs:List V} {us:List Value} {b:Bool},Reps K H cs vs->Vals vs us->kitT t cs=some b->PySem.W.kitAny K (.type t) us=some b
 | [],_,_,_,r,q,h=>by cases r;cases q;exact h
 | c::cs,_,_,b,⟨v,ws,e,r1,r2⟩,q,h=>by
  subst e
  cases q with
  | cons q1 q2=>
   cases c with
   | ty n=>
    cases (show v= .ty n from r1)
    cases q1
    unfold kitT at h
    unfold PySem.W.kitAny
    cases e:subT t n with
    | none=>rw[e] at h;cases h
    | some k=>
     rw[e] at h
     rw[ok n k e]
     cases k with
     | true=>exact h
     | false=>exact qK4 ok r2 q2 h
   | _=>cases h
theorem jQj {pins:List (Addr×Obj)} {τ:St3} {G:Gp} {H:Hp} {s:Shared} {σ:L2.St} {c:T} {cv:V} {u cu:Value} {t:String} {b:Bool} {Q:VK3} {Hh:Heap->Prop} (I:Inv X pins σ H s) (hs:SRel X.K H σ τ) (hg:GRel X.K H G)
  (Z:PySem.W.KitX X.K u (.type t) Hh) (p:Hh s.heap) (hx:u≠ .builtin "__main__.__loader__#opaque") (ok:∀n b,subT t n=some b->PySem.W.kitOne X.K (.type t) (.type n)=some b)
  (rc:Rep X.K H c cv) (ru:RelV cv cu) (h:isiC (some t) c=some b) (q:Q (.bl b) G):
  wpAny (model X.prog X.w) X.A (call (.builtin "isinstance") [u,cu]) (EP3 X pins τ H Q) X.xe s:=by
 have fin:∀tk,EP3 X pins τ H Q (.bool b) {s with toks:=tk}:=fun tk=>⟨.bl b,G,H,.refl H,⟨σ,I.tok tk,hs,hg⟩,⟨.bl b,rfl,rfl⟩,q⟩
 cases c with
 | ty n=>
  cases (show cv= .ty n from rc);cases ru
  exact PySem.W.kia_one Z I.kIn p (ok n b h) hx fin
 | tup cs=>
  obtain⟨pp,vs,e,h1,h2⟩:=(show ∃p vs,cv= .ref p/\H p=some (.tup vs)/\Reps X.K H cs vs from rc)
  subst e;cases ru
  obtain⟨its,rv,⟨⟨cls,dd,data,sl⟩,ho,hc,n,hd⟩,_⟩:=I.tuple (.of h1)
  simp only at hc hd
  subst hc hd
  exact PySem.W.kia_tup Z I.kIn p ho (qK4 ok h2 rv h) hx fin
 | _=>cases h
theorem kUb:Call3 X (.builtin "isinstance") rIsi:=by
 rintro pins s τ G H xs us Q ⟨σ,I,hs,hg⟩ ⟨as,ras,rvs⟩ ⟨x,c,b,e,h,q⟩
 subst e
 obtain⟨a,cv,rfl,ra,rc⟩:=kY6 ras
 obtain⟨u,cu,rfl,ru,rcu⟩:=rvs.two
 unfold isiT at h
 cases x with
 | non=>cases (show a= .non from ra);cases ru;exact jQj I hs hg PySem.W.kitx_none True.intro (fun z=>nomatch z) (fun n b=>qVx _) rc rcu h q
 | bl k=>cases (show a= .bl k from ra);cases ru;exact jQj I hs hg PySem.W.kitx_bool True.intro (fun z=>nomatch z) (fun n b=>qVy _) rc rcu h q
 | int k=>cases (show a= .int k from ra);obtain⟨t,rfl⟩:=ru;exact jQj I hs hg PySem.W.kitx_int True.intro (fun z=>nomatch z) (fun n b=>qZv _) rc rcu h q
 | str k=>cases (show a= .str k from ra);obtain⟨t,rfl⟩:=ru;exact jQj I hs hg PySem.W.kitx_str True.intro (fun z=>nomatch z) (fun n b=>qZu _) rc rcu h q
 | tup ys=>
  obtain⟨p,vs,e,h1,h2⟩:=(show ∃p vs,a= .ref p/\H p=some (.tup vs)/\Reps X.K H ys vs from ra)
  subst e;cases ru
  obtain⟨its,rv,⟨o,ho,hc,_⟩,_⟩:=I.tuple (.of h1)
  exact jQj I hs hg PySem.W.kitx_tuple ⟨o,ho,hc⟩ (fun z=>nomatch z) (fun n b=>qK3 _) rc rcu h q
 | scr ys=>
  obtain⟨p,vs,e,h1,h2⟩:=(show ∃p vs,a= .ref p/\FrL X.K H p vs/\Reps X.K H ys vs from ra)
  subst e;cases ru
  obtain⟨its,rv,⟨o,n,ho,hc,_⟩,_⟩:=I.list h1.sq
  exact jQj I hs hg PySem.W.kitx_list ⟨o,ho,hc⟩ (fun z=>nomatch z) (fun n b=>kX5 _) rc rcu h q
 | ref p=>
  cases (show a= .ref p from ra);cases ru
  cases hG:G p with
  | none=>simp only[kUu,hG] at h;cases h
  | some g=>
   cases g with
   | lst ys=>
    simp only[kUu,hG] at h
    obtain⟨vs,h1,h2⟩:=hg.lst hG
    obtain⟨its,rv,⟨o,n,ho,hc,_⟩,_⟩:=I.list (.of h1)
    exact jQj I hs hg PySem.W.kitx_list ⟨o,ho,hc⟩ (fun z=>nomatch z) (fun n b=>kX5 _) rc rcu h q
   | fdc kvs=>simp only[kUu,hG] at h;cases h
   | ins _ _=>simp only[kUu,hG] at h;cases h
   | dct kvs=>
    simp only[kUu,hG] at h
    obtain⟨ws,h1,_⟩:=hg p _ hG
    obtain⟨_,_,xs,_,o,es,ep,h3,h4,_⟩:=(show ObjOk X.prog X.w H s.heap p (.dT ws) from I.hok p _ h1)
    exact jQj I hs hg PySem.W.kitx_dict ⟨o,h3,h4.1⟩ (fun z=>nomatch z) (fun n b=>kX6 _) rc rcu h q
   | dck kvs=>
    simp only[kUu,hG] at h
    obtain⟨ws,h1,_⟩:=hg p _ hG
    obtain⟨_,_,vs,_,pp⟩:=(show ObjOk X.prog X.w H s.heap p (.dK ws) from I.hok p _ h1)
    obtain⟨o,es,ep,h3,h4,_⟩:=pp
    exact jQj I hs hg PySem.W.kitx_dict ⟨o,h3,h4.1⟩ (fun z=>nomatch z) (fun n b=>kX6 _) rc rcu h q
 | ty _=>cases h
abbrev TO3:=St3->Gp->(Option Int->Gp->Prop)->Prop
def PO3 (X:Cx) (e:Option Expr) (t:TO3):Prop:=
 ∀(pins:List (Addr×Obj)) (s:Shared) (τ:St3) (G:Gp) (H:Hp) (Q:Option Int->Gp->Prop),Inv3 X pins τ G H s->t τ G Q->
  wpAny (model X.prog X.w) X.A (evalPart e X.env) (fun u s'=>∃o G' H',Ext H H'/\Inv3 X pins τ G' H' s'/\IsPart u o/\Q o G') X.xe s
def jU3:TO3:=fun _ G Q=>Q none G
def kJf (t:TE3):TO3:=fun τ G Q=>t τ G fun x G1=>∃i,x= .int i/\Q (some i) G1
theorem kXr:PO3 X none jU3:=by
 intro pins s τ G H Q I h
 rw[evalPart_none]
 exact lJd ⟨none,G,H,.refl H,I,.none,h⟩
theorem kJw {e:Expr} {te:TE3} (h:PE3 X e te):PO3 X (some e) (kJf te):=by
 intro pins s τ G H Q I hw
 rw[evalPart_some]
 refine thn (h pins s τ G H _ I hw) fun u s1 w_=>w_.el fun x G1 H1 e1 I1 r_ ⟨i,ex,q⟩=>r_.el fun v rv ru=> ?_
 subst ex
 cases (show v= .int i from rv)
 obtain⟨t,rfl⟩:=ru
 exact⟨some i,G1,H1,e1,I1,.int i t,q⟩
def Sl3 (X:Cx) (r:T->Option Int->Option Int->Gp->VK3->Prop):Prop:=
 ∀(pins:List (Addr×Obj)) (s:Shared) (τ:St3) (G:Gp) (H:Hp) (x:T) (v vl vu:Value) (lo hi:Option Int) (sl:Addr) (Q:VK3),Inv3 X pins τ G H s->RU X.K H x v->s.heap.IsSliceOf sl vl vu .none->IsPart vl lo->IsPart vu hi->r x lo hi G Q->
  ∃T id,typeLookup (.type T) "__getitem__"=pure (some (.builtin id))/\s.TypeIs v T/\wpAny (model X.prog X.w) X.A (getItem v (.ref sl)) (EP3 X pins τ H Q) X.xe s
def tSl (r:T->Option Int->Option Int->Gp->VK3->Prop) (te:TE3) (tl th:TO3):TE3:=fun τ G Q=>te τ G fun x G1=>tl τ G1 fun l G2=>th τ G2 fun u G3=>r x l u G3 Q
theorem jZ2 {r:T->Option Int->Option Int->Gp->VK3->Prop} {e:Expr} {te:TE3} {lo hi:Option Expr} {tl th:TO3} {pos p2:Pos} (hr:Sl3 X r) (he:PE3 X e te) (hl:PO3 X lo tl) (hu:PO3 X hi th):PE3 X (.Subscript e (.Slice lo hi none p2) pos) (tSl r te tl th):=by
 intro pins s τ G H Q I h
 refine Subscript_ (thn (he pins s τ G H _ I h) fun v s1 w_=>w_.el fun x G1 H1 e1 I1 r1 q1=> ?_)
 refine wpAny_Slice (thn (hl pins s1 τ G1 H1 _ I1 q1) fun vl s2 ⟨l,G2,H2,e2,I2,pl,q2⟩=>thn (hu pins s2 τ G2 H2 _ I2 q2) fun vu s3 ⟨u,G3,H3,e3,⟨σ,I3,hs3,hg3⟩,pu,q3⟩=> ?_)
 rw[evalPart_none]
 refine lJd ?_
 have I4:Inv X pins σ H3 {s3 with heap:=s3.heap.push {cls:= .type "slice",data:= .fields #[vl,vu,.none]} }:=I3.kept (t':=s3.toks) fun b ob q=>lJk _ q
 obtain⟨T0,id,hT,ht,hg⟩:=hr pins {s3 with heap:=s3.heap.push {cls:= .type "slice",data:= .fields #[vl,vu,.none]} } τ G3 H3 x v vl vu l u s3.heap.objs.size Q ⟨σ,I4,hs3,hg3⟩ ((r1.mono e2).mono e3) (Heap.IsSliceOf.new ..) pl pu q3
 show wpAny (model X.prog X.w) X.A (subscriptTail e (.Slice lo hi none p2) v (.ref s3.heap.objs.size)) (EP3 X pins τ H Q) X.xe {s3 with heap:=s3.heap.push {cls:= .type "slice",data:= .fields #[vl,vu,.none]} }
 exact thn (tail_any (ops:=[.ref s3.heap.objs.size,v]) ht hT hg (by with_unfolding_all rfl)) fun _ _ z=>z.ext ((e1.trans e2).trans e3)
def cutT (xs:List T) (lo hi:Option Int):List T:=(xs.drop (HT.sIx xs.length 0 lo)).take (HT.sIx xs.length xs.length hi-HT.sIx xs.length 0 lo)
noncomputable def rSlA:T->Option Int->Option Int->Gp->VK3->Prop:=fun x lo hi G Q=>
 (∃xs,jQt G x=some xs/\∀p,G p=none->Q (.ref p) (gup G p (.lst (cutT xs lo hi))))\/∃xs,x= .tup xs/\Q (.tup (cutT xs lo hi)) G
end
end L3
namespace HT
open PySem PyProof.Rows
theorem getItem_tuple_whole {prog:Program} {w:World} {A:Around} {E:Value->Shared->Prop} {s:Shared} {t sl:Addr} {items:Array Value} {vl vu:Value} {lo hi:Option Int} {Q:Value->Shared->Prop} (ht:IsTup s.heap t items) (hs:s.heap.IsSliceOf sl vl vu .none) (pl:IsPart vl lo) (pu:IsPart vu hi)
  (hw:sIx items.size 0 lo=0/\sIx items.size items.size hi=items.size) (h:Q (.ref t) s):wpAny (model prog w) A (getItem (.ref t) (.ref sl)) Q E s:=by
 obtain⟨os,hos,hcs,hds⟩:=id hs
 have hTs:s.TypeIs (.ref sl) "slice":=⟨os,hos,hcs⟩
 unfold getItem
 try with_reducible refine lKx ?_
 first | refine lJa (lJd ?_) | skip
 refine lJa (wpAny_sequenceKey ht.typeIs (by decide) ?_)
 refine lJa (lVi (name:=Str.ofString "__getitem__") ht.typeIs lXd
  (lQa lXd ht.typeIs entry_tuple_getitem ?_ (args_tuple_getitem _ _)))
 show wpAny _ _ (Builtin.Tuple.tupleItemsOf (.ref t) >>= _) _ _ s
 refine lJa (tupleItemsOf_ ht ?_)
 refine lJa (lQw hTs ?_)
 rw[lJc (by decide)]
 refine lJa (jUx hs pl pu ?_)
 have hyes:(((sIx items.size 0 lo:Nat):Int) == 0&&(1:Int) == 1&&(sIx items.size items.size hi-sIx items.size 0 lo) == items.size)=true:=by
  rw[hw.1,hw.2];simp
 show wpAny _ _ (if (((sIx items.size 0 lo:Nat):Int) == 0&&(1:Int) == 1&&(sIx items.size items.size hi-sIx items.size 0 lo) == items.size)=true then _ else _) _ _ s
 rw[lJc hyes]
 refine lJa ?_
 unfold Builtin.Tuple.tupleIsExact
 refine lJa (lQw ht.typeIs (lJd ?_))
 rw[lJc (by decide)]
 exact lJa (lQd (lJd ⟨_,rfl,lJd h⟩))
end HT
namespace L3
open PySem PySem.Spec PyProof.Rows L2
section
variable {X:Cx}
theorem Reps.cut {K:PySem.W.Frag} {H:Hp} {xs:List T} {vs:List V} (r:Reps K H xs vs) (lo hi:Option Int):Reps K H (cutT xs lo hi) (cutV vs lo hi):=by
 unfold cutT cutV
 rw[<-r.length]
 exact (r.drop _).take _
theorem kZu {xs:List T} {lo hi:Option Int} (h:HT.sIx xs.length 0 lo=0/\HT.sIx xs.length xs.length hi=xs.length):cutT xs lo hi=xs:=by
 unfold cutT
 rw[h.1,h.2]
 simp
theorem sl_any:Sl3 X rSlA:=by
 rintro pins s τ G H x v vl vu lo hi sl Q ⟨σ,I,hs,hg⟩ ⟨a,ra,rv⟩ hsl pl pu h
 rcases h with ⟨xs,hx,q⟩ | ⟨xs,ex,q⟩
 ·obtain⟨p,vs,e,hq,r⟩:=jUs hg ra hx
  subst e
  obtain⟨T0,id,h1,h2,h3⟩:=qYx pins s σ H (.ref p) v vl vu lo hi sl (up X.K H Q) I rv hsl pl pu ⟨p,vs,rfl,hq,fun l hl=>⟨.ref l,_,.upd (.none hl),hg.lstNew (r.cut lo hi) (.none hl),rfl,q l (hg.fresh hl)⟩⟩
  exact⟨T0,id,h1,h2,thn h3 fun _ _ z=>jV3 hs z⟩
 ·subst ex
  obtain⟨p,vs,e,h1,h2⟩:=(show ∃p vs,a= .ref p/\H p=some (.tup vs)/\Reps X.K H xs vs from ra)
  subst e
  by_cases hw:HT.sIx xs.length 0 lo=0/\HT.sIx xs.length xs.length hi=xs.length
  ·cases rv
   obtain⟨its,rv',ht,hz⟩:=I.tuple (.of h1)
   have hlen:its.toArray.size=xs.length:=by rw[lJw,<-rv'.length,h2.length]
   refine⟨"tuple",_,lXd.lookup,ht.typeIs,HT.getItem_tuple_whole ht hsl pl pu (by rw[hlen];exact hw) ?_⟩
   rw[kZu hw] at q
   exact⟨.tup xs,G,H,.refl H,⟨σ,I,hs,hg⟩,⟨.ref p,ra,rfl⟩,q⟩
  ·obtain⟨T0,id,h3,h4,h5⟩:=sl_tup pins s σ H (.ref p) v vl vu lo hi sl (up X.K H Q) I rv hsl pl pu ⟨p,vs,rfl,.of h1,by rw[<-h2.length];exact hw,fun l hl=>⟨.tup (cutT xs lo hi),G,.upd (.none hl),hg.tupNew hl,Rep.tupNew (h2.cut lo hi) hl,q⟩⟩
   exact⟨T0,id,h3,h4,thn h5 fun _ _ z=>jV3 hs z⟩
end
section
variable {X:Cx}
def insT (xs:List T) (k:Nat) (y:T):List T:=xs.take k++y::xs.drop k
noncomputable def qY5:T->List T->Gp->VK3->Prop:=fun x as G Q=>∃p xs k y,x= .ref p/\as=[.int k,y]/\G p=some (.lst xs)/\0<=k/\k<=xs.length/\xs.length<sizeLine/\Q .non (gup G p (.lst (insT xs k.toNat y)))
def kV8:List T->Option Bool
 | []=>some true
 | .bl b::r=>match kV8 r with
  | some c=>some (b&&c)
  | none=>none
 | _::_=>none
def rAll:List T->Gp->VK3->Prop:=fun as G Q=>∃p xs b,as=[.ref p]/\G p=some (.lst xs)/\kV8 xs=some b/\Q (.bl b) G
theorem kUj:∀ {xs:List T} {b:Bool},kV8 xs=some b->∃bs:List Bool,xs=bs.map T.bl/\b=bs.all (fun x=>x)
 | [],b,h=>by cases h;exact⟨[],rfl,rfl⟩
 | .bl c::r,b,h=>by
  unfold kV8 at h
  cases e:kV8 r with
  | none=>rw[e] at h;cases h
  | some d=>
   rw[e] at h;cases h
   obtain⟨bs,h1,h2⟩:=kUj e
   exact⟨c::bs,by rw[h1];rfl,by rw[h2];rfl⟩
 | .non::_,_,h=>by cases h
 | .int _::_,_,h=>by cases h
 | .str _::_,_,h=>by cases h
 | .tup _::_,_,h=>by cases h
 | .scr _::_,_,h=>by cases h
 | .ref _::_,_,h=>by cases h
 | .ty _::_,_,h=>by cases h
theorem kXm {K:PySem.W.Frag} {H:Hp}:∀ {bs:List Bool} {vs:List V} {us:List Value},Reps K H (bs.map T.bl) vs->Vals vs us->us=bs.map Value.bool
 | [],_,_,h,q=>by cases h;cases q;rfl
 | n::ns,_,_,⟨v,ws,e,r,rs⟩,q=>by
  subst e;cases (show v= .bl n from r)
  cases q with
  | cons q1 q2=>cases q1;rw[kXm rs q2];rfl
theorem kUh:∀(bs:List Bool),bs.all (fun x=>x)=(List.range bs.length).all fun i=>bs.getD i true
 | []=>rfl
 | b::bs=>by
  rw[lVy,kUh bs,lJ5,List.range_succ_eq_map,lVy,List.all_map]
  simp[Function.comp_def,List.getD]
theorem uJz (hc:X.calm=true):Call3 X (.builtin "all") rAll:=by
 rintro pins s τ G H as us Q ⟨σ,I,hs,hg⟩ ⟨bs',rbs,rus⟩ ⟨p,xs,b,e,hp,hb,q⟩
 subst e
 obtain⟨a,rfl,ra⟩:=jQ8 rbs
 cases (show a= .ref p from ra)
 obtain⟨u,rfl,ru⟩:=rus.one
 cases ru
 obtain⟨vs,h1,h2⟩:=hg.lst hp
 obtain⟨bs,ex,eb⟩:=kUj hb
 subst ex
 obtain⟨its,rv,pl,hz⟩:=I.list (.of h1)
 have eit:=kXm h2 rv
 subst eit
 refine call_all_walk (lYf pl.isList ?_)
 have hne:p≠s.heap.objs.size:=by obtain⟨o,n,ho,_⟩:=pl;exact lJm (lJi ho)
 refine⟨s.heap.objs.size,[s.heap.objs.size,p],[s.heap.objs.size],(bs.map Value.bool).toArray.size,_,_,fun i=>bs.getD i true,rfl,Walks.list (A:=X.A.in1) (show X.A.in1.handled=none from I.ok.hd hc) s.heap.objs.size p hne (bs.map Value.bool).toArray,⟨⟨_,lJ0 _ rfl,rfl,rfl⟩,pl.isList.push _⟩,?_,?_⟩
 ·intro i v s' Q' E' hP hQ
  have hP':(bs.map Value.bool)[i]? =some v:=by simpa using hP
  rw[lKj] at hP'
  cases e:bs[i]? with
  | none=>rw[e] at hP';cases hP'
  | some c=>
   rw[e] at hP';cases hP'
   have:bs.getD i true=c:=by simp[List.getD,e]
   have hQ':Q' (bs.getD i true) s':=hQ
   rw[this] at hQ'
   exact lVh hQ'
 ·intro h' tk hk
  have hk2:∀b o,s.heap.get? b=some o->h'.get? b=some o:=fun b o e=>hk b o (by simpa using lJm (lJi e)) (lJk _ e)
  refine⟨.bl b,G,H,.refl H,⟨σ,I.kept hk2,hs,hg⟩,⟨.bl b,rfl,?_⟩,q⟩
  rw[eb,kUh]
  simp
  rfl
end
structure Cal (P:Program) (w:World) (K:PySem.W.Frag) (mg:Str->Option Value) (base:Heap) (k:Nat) (x:Str) (ps:List Str) (sp:Sp3):Prop where
 ex:∃f fd,Fn3 P w K mg base k f fd ps sp/\mg x=some (.ref f)/\PySem.W.keepIn K (.ref f)=true/\Binds K fd ps []
 mono:Mono sp
 len:∀xs G Q,sp xs G Q->xs.length=ps.length
theorem jJ8 {X:Cx} {k:Nat} {ps:List Str} {sp:Sp3} {x:Str} {p pos:Pos} {e:Expr} {es:List Expr} {t:TA3} (C:Cal X.prog X.w X.K X.mg X.base k x ps sp) (hr:Room k X.A) (ha:PA3 X (e::es) t) (hg:Gl X x:=by rfl)
  (hdb:(x == ("__debug__":Str))=false:=by decide) (he:starEach (e::es) X.env=(false,eval e X.env)::starEach es X.env:=by rfl) (hpl:(backTo pos (starEach es X.env)).any (·.1)=false:=by rfl):
  PE3 X (.Call (.Name x p) (e::es) [] pos) (jJr sp t):=by
 intro pins s τ G H Q I h
 obtain⟨f,fd,F,hm,hk,hb⟩:=C.ex
 obtain⟨σ0,I0,hs0,hg0⟩:=id I
 refine wpAny_Call_Name_kw (qZr I0 hg hm ?_ hdb)
 refine PySem.W.callWith_K (h₀:=X.base) I0.ok.mod.kin hk (thn (ha pos pins s τ G H _ I h) fun us s1 w_=>w_.el fun xs G1 H1 e1 i_ r_ q=>i_.el fun σ I1 hs1 hg1=>r_.el fun as ras rvs=>⟨I1.kIn,?_⟩) he hpl
 refine thn (run_fn (dvs:=[]) (ds:=[]) (E:=E0) (Q:=up X.K H1 Q) F hr hb .nil pass0 I1 rvs ?_) fun u s' z=>(jV3 hs1 z).ext e1
 rw[lQb]
 exact⟨by rw[<-ras.length];exact C.len _ _ _ q,xs,G1,ras,hg1,C.mono _ _ _ _ (fun t G' hq v H' e g r=>⟨t,G',e,g,r,hq⟩) q⟩
def qJ5:=kVe
theorem uJv {X:Cx}:Call3 X (.type "list") qJ5:=c_list
end L3
namespace L3
open PySem PySem.Spec PyProof.Rows
inductive Res where
 | val (t:T) | newL (xs:List T)
def fin3:Res->Gp->VK3->Prop
 | .val t,G,Q=>Q t G
 | .newL xs,G,Q=>∀p,G p=none->Q (.ref p) (gup G p (.lst xs))
theorem Op3.imp {X:L2.Cx} {f:Value->Value->Sem Value} {r r':R3} (h:Op3 X f r) (i:∀x y G Q,r' x y G Q->r x y G Q):Op3 X f r':=fun pins s τ G H x y v u Q I rx ry q=>h pins s τ G H x y v u Q I rx ry (i x y G Q q)
theorem Ix3.imp {X:L2.Cx} {r r':R3} (h:Ix3 X r) (i:∀x y G Q,r' x y G Q->r x y G Q):Ix3 X r':=fun a b pins s τ G H x y v u Q I rx ry q hs=>h a b pins s τ G H x y v u Q I rx ry (i x y G Q q) hs
theorem Set3.imp {X:L2.Cx} {r r':T->T->T->Gp->(Gp->Prop)->Prop} (h:Set3 X r) (i:∀o j v G Q,r' o j v G Q->r o j v G Q):Set3 X r':=fun pins s τ G H o j v a b c Q I ro rj rv q=>h pins s τ G H o j v a b c Q I ro rj rv (i o j v G Q q)
theorem Sl3.imp {X:L2.Cx} {r r':T->Option Int->Option Int->Gp->VK3->Prop} (h:Sl3 X r) (i:∀x l u G Q,r' x l u G Q->r x l u G Q):Sl3 X r':=fun pins s τ G H x v vl vu lo hi sl Q I rx hs pl pu q=>h pins s τ G H x v vl vu lo hi sl Q I rx hs pl pu (i x lo hi G Q q)
noncomputable def addR (G:Gp):T->T->Option Res
 | .int i,.int j=>some (.val (.int (i+j)))
 | .ref p,.ref q=>match G p,G q with
  | some (.lst xs),some (.lst ys)=>if xs.length+ys.length<=sizeLine then some (.newL (xs++ys)) else none
  | _,_=>none
 | .tup xs,.tup ys=>if xs.length≠0/\xs.length+ys.length<=sizeLine then some (.val (.tup (xs++ys))) else none
 | _,_=>none
def jK1:R3:=fun x y G Q=>∃r,addR G x y=some r/\fin3 r G Q
theorem add_F {x y:T} {G:Gp} {Q:VK3} (h:jK1 x y G Q):rAddA x y G Q:=by
 obtain⟨r,hr,q⟩:=h
 unfold addR at hr
 split at hr
 ·cases hr;exact .inl ⟨_,_,rfl,rfl,q⟩
 ·rename_i p q'
  split at hr
  ·rename_i xs ys h1 h2
   split at hr
   ·rename_i hz;cases hr;exact .inr (.inl ⟨p,q',xs,ys,rfl,rfl,h1,h2,hz,q⟩)
   ·cases hr
  ·cases hr
 ·rename_i xs ys
  split at hr
  ·rename_i hz;cases hr;exact .inr (.inr ⟨xs,ys,rfl,rfl,fun z=>hz.1 (by rw[z];rfl),hz.2,q⟩)
  ·cases hr
 ·cases hr
theorem o_addF {X:L2.Cx}:Op3 X (binaryOp .Add) jK1:=o_addA.imp fun _ _ _ _=>add_F
noncomputable def mulR (G:Gp):T->T->Option Res
 | .int i,.int j=>some (.val (.int (i*j)))
 | .ref p,.int n=>match G p with
  | some (.lst xs)=>if n.toNat * xs.length<=sizeLine/\n<2^62/\ -(2^62)<n then some (.newL (List.replicate n.toNat xs).flatten) else none
  | _=>none
 | _,_=>none
def mulC:T->T->Prop
 | .int i,.int j=>L2.CMul i j
 | _,_=>True
def jX9:R3:=fun x y G Q=>∃r,mulR G x y=some r/\mulC x y/\fin3 r G Q
theorem mul_F {x y:T} {G:Gp} {Q:VK3} (h:jX9 x y G Q):rMulA x y G Q:=by
 obtain⟨r,hr,c,q⟩:=h
 unfold mulR at hr
 split at hr
 ·cases hr;exact .inl ⟨_,_,rfl,rfl,c,q⟩
 ·rename_i p n
  split at hr
  ·rename_i xs h1
   split at hr
   ·rename_i hz;cases hr;exact .inr ⟨p,xs,n,rfl,rfl,h1,hz.1,hz.2.1,hz.2.2,q⟩
   ·cases hr
  ·cases hr
 ·cases hr
theorem jXo {X:L2.Cx}:Op3 X (binaryOp .Mult) jX9:=o_mulA.imp fun _ _ _ _=>mul_F
def ixR (G:Gp) (x y:T):Option T:=match seqT G x with
 | some xs=>match y with
  | .int i=>L2.atI xs i
  | _=>none
 | none=>match dAt G x y with
  | some o=>o
  | none=>none
def rIxF:R3:=fun x y G Q=>∃t,ixR G x y=some t/\Q t G
theorem ix_F' {x y:T} {G:Gp} {Q:VK3} (h:rIxF x y G Q):rIxA x y G Q:=by
 obtain⟨t,ht,q⟩:=h
 unfold ixR at ht
 split at ht
 ·rename_i xs hx
  split at ht
  ·rename_i i;exact .inl ⟨xs,i,t,hx,rfl,ht,q⟩
  ·cases ht
 ·split at ht
  ·rename_i o ho;subst ht;exact .inr ⟨t,ho,q⟩
  ·cases ht
theorem ix_F {X:L2.Cx} (hu:X.A.units+20<cLine):Ix3 X rIxF:=(qZz hu).imp fun _ _ _ _=>ix_F'
noncomputable def setR (G:Gp) (o i v:T):Option Gp:=match o with
 | .ref p=>match G p with
  | some (.lst xs)=>match i with
   | .int k=>match L2.ixN xs.length k with
    | some j=>some (gup G p (.lst (xs.set j v)))
    | none=>none
   | _=>none
  | some (.dct kvs)=>match i with
   | .tup ys=>match jQy ys with
    | some ks=>if kvs.length<sizeLine then some (gup G p (.dct (putT kvs ks v))) else none
    | none=>none
   | _=>none
  | some (.dck kvs)=>match jV4 i with
   | some k=>if kvs.length<sizeLine then some (gup G p (.dck (putT kvs k v))) else none
   | none=>none
  | some (.fdc _)=>none
  | some (.ins _ _)=>none
  | none=>none
 | _=>none
def kJi:T->T->T->Gp->(Gp->Prop)->Prop:=fun o i v G Q=>∃G',setR G o i v=some G'/\Q G'
theorem set_F' {o i v:T} {G:Gp} {Q:Gp->Prop} (h:kJi o i v G Q):rSetA o i v G Q:=by
 obtain⟨G',hr,q⟩:=h
 unfold setR at hr
 split at hr
 ·rename_i p
  split at hr
  ·rename_i xs h1
   split at hr
   ·rename_i k
    split at hr
    ·rename_i j hj;cases hr;exact .inl ⟨p,xs,k,j,rfl,rfl,h1,hj,q⟩
    ·cases hr
   ·cases hr
  ·rename_i kvs h1
   split at hr
   ·rename_i ys
    split at hr
    ·rename_i ks hk
     split at hr
     ·rename_i hz;cases hr;exact .inr (.inl ⟨p,ys,ks,kvs,rfl,rfl,hk,h1,hz,q⟩)
     ·cases hr
    ·cases hr
   ·cases hr
  ·rename_i kvs h1
   split at hr
   ·rename_i k hk
    split at hr
    ·rename_i hz;cases hr;exact .inr (.inr ⟨p,k,kvs,rfl,hk,h1,hz,q⟩)
    ·cases hr
   ·cases hr
  ·cases hr
  ·cases hr
  ·cases hr
 ·cases hr
theorem s_F {X:L2.Cx} (hu:X.A.units+20<cLine):Set3 X kJi:=(s_any hu).imp fun _ _ _ _ _=>set_F'
noncomputable def rLeF:R3:=fun x y G Q=>∃b,(match x,y with
 | .int i,.int j=>some (decide (i<=j))
 | .tup [.int a,.int b],.tup [.int c,.int d]=>some (HT.lexLe [a,b] [c,d])
 | _,_=>none)=some b/\Q (.bl b) G
theorem le_F' {x y:T} {G:Gp} {Q:VK3} (h:rLeF x y G Q):rLeA x y G Q:=by
 obtain⟨b,hb,q⟩:=h
 split at hb
 ·cases hb;exact .inl ⟨_,_,rfl,rfl,q⟩
 ·cases hb;exact .inr ⟨_,_,rfl,rfl,q⟩
 ·cases hb
theorem qKs {X:L2.Cx} (hu:X.A.units+20<cLine):Op3 X (compareOp .LtE) rLeF:=(o_leA hu).imp fun _ _ _ _=>le_F'
noncomputable def inR (G:Gp) (x y:T):Option Bool:=match seqT G y with
 | some xs=>if kJo x=true/\xs.all kJo=true then some (inT x xs) else none
 | none=>match dAt G y x with
  | some o=>some o.isSome
  | none=>none
def qY6:R3:=fun x y G Q=>∃b,inR G x y=some b/\Q (.bl b) G
def jKw:R3:=fun x y G Q=>∃b,inR G x y=some b/\Q (.bl (!b)) G
theorem in_F' {x y:T} {G:Gp} {Q:VK3} (h:qY6 x y G Q):rInL x y G Q:=by
 obtain⟨b,hb,q⟩:=h
 unfold inR at hb
 split at hb
 ·rename_i xs hx
  split at hb
  ·rename_i hc;cases hb;exact .inl ⟨xs,hx,hc.1,hc.2,q⟩
  ·cases hb
 ·split at hb
  ·rename_i o ho;cases hb;exact .inr ⟨o,ho,q⟩
  ·cases hb
theorem qVp {x y:T} {G:Gp} {Q:VK3} (h:jKw x y G Q):qJ4 x y G Q:=by
 obtain⟨b,hb,q⟩:=h
 unfold inR at hb
 split at hb
 ·rename_i xs hx
  split at hb
  ·rename_i hc;cases hb;exact .inl ⟨xs,hx,hc.1,hc.2,q⟩
  ·cases hb
 ·split at hb
  ·rename_i o ho;cases hb;exact .inr ⟨o,ho,q⟩
  ·cases hb
theorem o_inFu {X:L2.Cx} (hu:X.A.units+20<cLine):Op3 X (compareOp .In) qY6:=(o_in hu).imp fun _ _ _ _=>in_F'
theorem jXn {X:L2.Cx} (hu:X.A.units+20<cLine):Op3 X (compareOp .NotIn) jKw:=(qZl hu).imp fun _ _ _ _=>qVp
noncomputable def slR (G:Gp) (x:T) (lo hi:Option Int):Option Res:=match x with
 | .tup xs=>some (.val (.tup (cutT xs lo hi)))
 | .scr xs=>some (.newL (cutT xs lo hi))
 | .ref p=>match G p with
  | some (.lst xs)=>some (.newL (cutT xs lo hi))
  | _=>none
 | _=>none
def rSlF:T->Option Int->Option Int->Gp->VK3->Prop:=fun x lo hi G Q=>∃r,slR G x lo hi=some r/\fin3 r G Q
theorem sl_F' {x:T} {lo hi:Option Int} {G:Gp} {Q:VK3} (h:rSlF x lo hi G Q):rSlA x lo hi G Q:=by
 obtain⟨r,hr,q⟩:=h
 unfold slR at hr
 split at hr
 ·cases hr;exact .inr ⟨_,rfl,q⟩
 ·cases hr;exact .inl ⟨_,rfl,q⟩
 ·split at hr
  ·rename_i xs h1;cases hr;exact .inl ⟨xs,by simp only[jQt,h1,asL],q⟩
  ·cases hr
 ·cases hr
theorem sl_F {X:L2.Cx}:Sl3 X rSlF:=sl_any.imp fun _ _ _ _ _=>sl_F'
end L3
namespace L2
open PySem PySem.Spec PyProof.Rows
section
variable {X:Cx} {tg:Expr}
end
end L2
namespace L3
open PySem PySem.Spec PyProof.Rows L2
def Draw (P:Program) (w:World) (A:Around) (i:Addr) (r:Option Value) (S S':Heap->Prop):Prop:=
 ∀(s:Shared) (Q E:Value->Shared->Prop),S s.heap->
  (∀x g,r=some x->S' g->Heap.SameBut i s.heap g->Q x {s with heap:=g})->
  (∀g e o,r=none->Heap.ExtBut i s.heap g->g.get? e=some o->o.cls= .type "StopIteration"->E (.ref e) {s with heap:=g})->
  wpAny (model P w) A (Builtin.SmallTypes.nextOf (.ref i)) Q E s
def kZy (i t:Addr) (k:Nat) (xs:Array Value) (h:Heap):Prop:=h.IsTupleIter i t k/\h.IsTuple t xs
theorem kKc {P:Program} {w:World} {A:Around} {i t:Addr} {k:Nat} {xs:Array Value} (hh:A.handled=none) (ne:t≠i):Draw P w A i xs[k]? (kZy i t k xs) (kZy i t (k+1) xs):=by
 rintro s Q E ⟨⟨o,ho,hc,hd⟩,q,hq,hqc,n,hn⟩ item stop
 have ty:s.TypeIs (.ref i) "tuple_iterator":=⟨o,ho,hc⟩
 refine lJa (lVi (name:=Str.ofString "__next__") ty F.slot_tuple_iterator_next (lQa F.slot_tuple_iterator_next ty F.entry_tuple_iterator_next ?_ (F.args_tuple_iterator_next_1 _)))
 refine (show wpAny _ _ (field (.ref i) 0 >>= _) _ _ s from lJa (wpAny_field ho hd (x:= .ref t) rfl ?_))
 refine (show wpAny _ _ (if (Value.ref t == Value.none)=true then _ else field (.ref i) 1 >>= _) _ _ s from ?_)
 rw[lJb (by exact lJs)]
 refine lJa (wpAny_field ho hd (x:= .int k 0) rfl (show wpAny _ _ (seqItems? (.ref t) >>= _) _ _ s from lJa (wpAny_seqItems hq hn ?_)))
 cases hx:xs[k]? with
 | some x=>
  simp only[hx,lVz]
  have up:kZy i t (k+1) xs (s.heap.update i (Obj.mapFields (·.setIfInBounds 1 (rawInt ((k:Int)+1))))):=by
   refine⟨⟨_,lVx _ ho (Obj.isFreed_of_fields (Obj.data_mapFields hd _)),(Obj.cls_mapFields ..).trans hc,?_⟩,q,(lVm ..).extBut t q ne hq,hqc,n,hn⟩
   rw[Obj.data_mapFields hd];simp[rawInt]
  exact lJa (wpAny_setField ho hd (by simp) (lJd ⟨x,rfl,lJd (item x _ hx up (lVm ..))⟩))
 | none=>
  simp only[hx,lVz]
  refine lJa (lQd (lJa (wpAny_setField ho hd (by simp) (show wpAny _ _ (newExc (.type "StopIteration") [] >>= _) _ _ _ from lJa ?_))))
  simp only[newExc,newTuple,raiseNew]
  refine lJa (lK0 (lJa (m:=firstArgMember _ _) (wpAny_of_eq (a:=Value.none) (by first | rfl | (simp only[firstArgMember];rfl)) (lK0 ?_ (by size_fits)))) (by size_fits))
  refine lJa (wpAny_handled ?_);rw[show A.in1.handled=none from hh]
  exact lJa (lJd (wpAny_throw (stop _ _ _ hx (((lVm ..).extBut.push _).push _) (lJ0 _ rfl) rfl)))
def itOf (t:Addr):Obj:={cls:= .type "tuple_iterator",data:= .fields #[.ref t,.int 0 0]}
end L3
namespace L3
open PySem
theorem atN {α:Type} {xs:List α} {n:Nat}:L2.atI xs (n:Int)=xs[n]? :=by
 unfold L2.atI L2.ixN
 by_cases h:n<xs.length
 ·simp[h]
 ·simp[h]
theorem at0 {α:Type} {x:α} {xs:List α}:L2.atI (x::xs) 0=some x:=(atN (n:=0)).trans rfl
theorem at1 {α:Type} {x y:α} {xs:List α}:L2.atI (x::y::xs) 1=some y:=(atN (n:=1)).trans rfl
theorem at2 {α:Type} {x y z:α} {xs:List α}:L2.atI (x::y::z::xs) 2=some z:=(atN (n:=2)).trans rfl
theorem atZ {α:Type} {xs:List α} {i:Int} (h:0<=i):L2.atI xs i=xs[i.toNat]? :=by
 obtain⟨n,rfl⟩:=Int.eq_ofNat_of_zero_le h
 simpa using atN
theorem uJ1 {α:Type} {xs:List α} {y:α}:L2.atI (xs++[y]) (-1)=some y:=by
 unfold L2.atI L2.ixN
 have:¬ (0:Int)<= -1:=by decide
 simp only[this,lJ6]
 rw[lJc (by simp;omega)]
 have e:(-1+((xs++[y]).length:Int)).toNat=xs.length:=by simp;omega
 rw[e];simp
theorem qZ4 {n k:Nat} (h:k<n):L2.ixN n (k:Int)=some k:=by simp[L2.ixN,h]
theorem ix0 {n:Nat}:L2.ixN (n+1) 0=some 0:=qZ4 (k:=0) (by omega)
theorem ix1 {n:Nat}:L2.ixN (n+2) 1=some 1:=qZ4 (k:=1) (by omega)
theorem ix2 {n:Nat}:L2.ixN (n+3) 2=some 2:=qZ4 (k:=2) (by omega)
theorem ix30:L2.ixN 3 0=some 0:=ix0
theorem ix31:L2.ixN 3 1=some 1:=ix1
theorem ix32:L2.ixN 3 2=some 2:=ix2
theorem ixZ {n:Nat} {k:Int} (h0:0<=k) (h:k<n):L2.ixN n k=some k.toNat:=by simp[L2.ixN,h0,h]
theorem qXl {G:Gp} {i j:Int}:addR G (.int i) (.int j)=some (.val (.int (i+j))):=rfl
theorem jVl {G:Gp} {p q:Addr} {xs ys:List T} (h1:G p=some (.lst xs)) (h2:G q=some (.lst ys)) (hz:xs.length+ys.length<=sizeLine):addR G (.ref p) (.ref q)=some (.newL (xs++ys)):=by simp only[addR,h1,h2,hz,lKh]
theorem qVq {G:Gp} {i j:Int}:mulR G (.int i) (.int j)=some (.val (.int (i*j))):=rfl
theorem qVs {i j:Int}:mulC (.int i) (.int j)=L2.CMul i j:=rfl
theorem qVr {p:Addr} {j:Int}:mulC (.ref p) (.int j)=True:=rfl
theorem uJc {t:T} {G:Gp} {Q:VK3}:fin3 (.val t) G Q=Q t G:=rfl
theorem uJd {xs:List T} {G:Gp} {Q:VK3}:fin3 (.newL xs) G Q=∀p,G p=none->Q (.ref p) (gup G p (.lst xs)):=rfl
theorem qZ0 {G:Gp} {xs:List T} {i:Int}:ixR G (.tup xs) (.int i)=L2.atI xs i:=rfl
theorem qZ1 {G:Gp} {xs:List T} {i:Int}:ixR G (.scr xs) (.int i)=L2.atI xs i:=rfl
theorem jUt {G:Gp} {p:Addr} {xs:List T} {i:Int} (h:G p=some (.lst xs)):ixR G (.ref p) (.int i)=L2.atI xs i:=by simp only[ixR,seqT,h,asL]
theorem qU1 {G:Gp} {p:Addr} {xs:List T} {k:Int} {j:Nat} {v:T} (h:G p=some (.lst xs)) (hj:L2.ixN xs.length k=some j):setR G (.ref p) (.int k) v=some (gup G p (.lst (xs.set j v))):=by simp only[setR,h,hj]
theorem qU4 {G:Gp} {xs:List T}:seqT G (.tup xs)=some xs:=rfl
theorem jJi {G:Gp} {p:Addr} {xs:List T} (h:G p=some (.lst xs)):seqT G (.ref p)=some xs:=by simp only[seqT,h,asL]
theorem qXy {G:Gp} {p:Addr} {xs:List T} {k:Int} {v:T} (h:G p=some (.lst xs)):setR G (.ref p) (.int k) v=(L2.ixN xs.length k).map fun j=>gup G p (.lst (xs.set j v)):=by
 cases e:L2.ixN xs.length k with
 | none=>simp only[setR,h,e,Option.map_none]
 | some j=>simp only[setR,h,e,lQh]
theorem qU2 {G:Gp} {p:Addr} {xs:List T} {k:Int} {v:T}:setR (gup G p (.lst xs)) (.ref p) (.int k) v=(L2.ixN xs.length k).map fun j=>gup G p (.lst (xs.set j v)):=by
 rw[qXy jJe];simp only[qQh]
theorem qZ2 {G:Gp} {p:Addr} {xs:List T} {i:Int}:ixR (gup G p (.lst xs)) (.ref p) (.int i)=L2.atI xs i:=jUt jJe
theorem qU5 {G:Gp} {p:Addr} {xs:List T}:seqT (gup G p (.lst xs)) (.ref p)=some xs:=jJi jJe
def ForAt (g:TG3) (tb:TS3) (D:Ends3) (τ:St3) (xs:List T) (stay:Gp->Prop) (G:Gp):Prop:=∃P:Nat->St3->Gp->Prop,P 0 τ G/\(∀i τ G,i<=xs.length->P i τ G->stay G)/\
 (∀i x τ G,xs[i]? =some x->P i τ G->g x τ G fun τ2 G2=>tb {D with nx:=P (i+1),ct:=P (i+1),bk:=D.nx} τ2 G2)/\∀ τ G,P xs.length τ G->D.nx τ G
theorem jJ2 {wi:TI3} {g:TG3} {tb:TS3} {D:Ends3} {τ:St3} {G:Gp}:tFor wi g tb D τ G=wi τ G fun xs stay G1=>ForAt g tb D τ xs stay G1:=rfl
def kYv (mask:List Bool) (g:TG3) (tif:TT3) (te:TE3) (τ:St3) (xs:List T) (stay:Gp->Prop) (G:Gp) (Q:VK3):Prop:=kKg mask g tif te τ xs stay G Q
theorem qUt {mask:List Bool} {wi:TI3} {g:TG3} {tif:TT3} {te:TE3} {τ:St3} {G:Gp} {Q:VK3}:jKp mask wi g tif te τ G Q=wi τ G fun xs stay G1=>kYv mask g tif te τ xs stay G1 Q:=rfl
def Sub (G G':Gp):Prop:=∀c o,G c=some o->G' c=some o
theorem Sub.refl (G:Gp):Sub G G:=fun _ _ h=>h
theorem Sub.trans {G G1 G2:Gp} (h:Sub G G1) (h':Sub G1 G2):Sub G G2:=fun c o e=>h' c o (h c o e)
theorem Sub.new {p:Addr} {G:Gp} {o:GO} (hp:G p=none):Sub G (gup G p o):=fun c u e=>by rw[jJo];exact e;rintro rfl;rw[hp] at e;cases e
theorem Sub.over {p:Addr} {G G':Gp} {o:GO} (h:Sub G G') (hp:G p=none):Sub G (gup G' p o):=fun c u e=>by rw[jJo];exact h c u e;rintro rfl;rw[hp] at e;cases e
theorem Sub.none {G G':Gp} {p:Addr} (h:Sub G G') (hp:G' p=none):G p=none:=by
 cases e:G p with
 | none=>rfl
 | some o=>rw[h p o e] at hp;cases hp
theorem jKi {G:Gp} {a p:Addr} {o:GO} (h:gup G a o p=none):p≠a/\G p=none:=by
 by_cases e:p=a
 ·subst e;rw[jJe] at h;cases h
 ·rw[jJo e] at h;exact⟨e,h⟩
theorem jJj {G:Gp} {a p:Addr} {o:GO} (h:G a=some o) (hp:G p=none):a≠p:=by rintro rfl;rw[h] at hp;cases hp
theorem Sub.seq {G G':Gp} {x:T} {xs:List T} (h:Sub G G') (e:seqT G x=some xs):seqT G' x=some xs:=by
 cases x with
 | ref p=>have:=jVk e;simp only[seqT,h p _ this,asL]
 | tup _=>exact e
 | scr _=>exact e
 | non=>exact e
 | bl _=>exact e
 | int _=>exact e
 | str _=>exact e
 | ty _=>exact e
theorem jJ9 {α β:Type} {enc:α->β} {es:List α} {i:Nat} {x:β} (h:(es.map enc)[i]? =some x):∃e,es[i]? =some e/\x=enc e:=by
 rw[lKj] at h
 cases e1:es[i]? with
 | none=>rw[e1] at h;cases h
 | some e=>rw[e1] at h;exact⟨e,rfl,(lJ2 h).symm⟩
theorem jXw {α:Type} {mask:List Bool} {g:TG3} {tif:TT3} {te:TE3} {τ:St3} {es:List α} {enc:α->T} {stay:Gp->Prop} {G:Gp} {Q:VK3} (f:α->Option T) (hz:es.length<=sizeLine) (hst:∀G',Sub G G'->stay G')
  (h:∀(i:Nat) e,es[i]? =some e->∀G' (K:T->Gp->Prop) (K0:Gp->Prop),Sub G G'->(∀y G4,f e=some y->Sub G' G4->K y G4)->(f e=none->∀G4,Sub G' G4->K0 G4)->g (enc e) (msk mask τ) G' fun τ2 G2=>tif τ2 G2 fun b G3=>if b=true then te τ2 G3 K else K0 G3)
  (hq:∀D G',G D=none->G' D=some (.lst (es.filterMap f))->Sub G G'->Q (.ref D) G'):kYv mask g tif te τ (es.map enc) stay G Q:=by
 intro D hD
 refine⟨fun i acc G'=>acc=(es.take i).filterMap f/\G' D=some (.lst acc)/\Sub G G',⟨by simp,jJe,.new hD⟩,?_,?_,?_⟩
 ·rintro i acc G' hi ⟨ea,eg,hs⟩
  exact⟨hst G' hs,eg⟩
 ·rintro i x acc G' hx0 ⟨ea,eg,hs⟩
  obtain⟨e,hx,rfl⟩:=jJ9 hx0
  have hi:i<es.length:=(lJj.mp hx).1
  have tk:es.take (i+1)=es.take i++[e]:=by rw[lQi,hx];rfl
  have hlen:acc.length<sizeLine:=by
   have h1:acc.length<=(es.take i).length:=by rw[ea];exact List.length_filterMap_le _ _
   rw[lQg] at h1;omega
  refine h i e hx G' _ _ hs (fun y G4 hy h4=>⟨h4 D _ eg,hlen,?_,jJe,(hs.trans h4).over hD⟩) fun hn G4 h4=>⟨?_,h4 D _ eg,hs.trans h4⟩
  ·rw[tk,lYo,<-ea];simp[hy]
  ·rw[tk,lYo,<-ea];simp[hn]
 ·rintro acc G' ⟨ea,eg,hs⟩
  rw[lJf,lQq] at ea
  rw[ea] at eg
  exact hq D G' hD eg hs
theorem jKe {α:Type} {mask:List Bool} {g:TG3} {tif:TT3} {te:TE3} {τ:St3} {es:List α} {enc:α->T} {stay:Gp->Prop} {G:Gp} {Q:VK3} (f:α->T) (hz:es.length<=sizeLine) (hst:∀G',Sub G G'->stay G')
  (h:∀(i:Nat) e,es[i]? =some e->∀G' (K:T->Gp->Prop) (K0:Gp->Prop),Sub G G'->(∀G4,Sub G' G4->K (f e) G4)->g (enc e) (msk mask τ) G' fun τ2 G2=>tif τ2 G2 fun b G3=>if b=true then te τ2 G3 K else K0 G3)
  (hq:∀D G',G D=none->G' D=some (.lst (es.map f))->Sub G G'->Q (.ref D) G'):kYv mask g tif te τ (es.map enc) stay G Q:=by
 refine jXw (fun e=>some (f e)) hz hst (fun i e he G' K K0 hs hk _=>h i e he G' K K0 hs fun G4 h4=>hk _ G4 rfl h4) fun D G' hD h1 h2=>hq D G' hD ?_ h2
 rw[h1];congr 2;induction es with
 | nil=>rfl
 | cons a as ih=>simp
theorem jKl {G:Gp} {p:Addr} {xs:List T} (h:G p=some (.lst xs)):tyT G "list" (.ref p)=True:=by simp[tyT,h]
theorem qYq {G:Gp} {p:Addr} {xs:List T}:tyT (gup G p (.lst xs)) "list" (.ref p)=True:=jKl jJe
theorem jYf {α:Type} {mask:List Bool} {g:TG3} {tif:TT3} {te:TE3} {τ:St3} {es:List α} {enc:α->T} {stay:Gp->Prop} {G:Gp} {Q:VK3} (f:α->List T) (hz:es.length<=sizeLine) (hst:∀G',Sub G G'->stay G')
  (h:∀(i:Nat) e,es[i]? =some e->∀G' (K:T->Gp->Prop) (K0:Gp->Prop),Sub G G'->(∀p G4,G' p=none->G4 p=some (.lst (f e))->Sub G' G4->K (.ref p) G4)->g (enc e) (msk mask τ) G' fun τ2 G2=>tif τ2 G2 fun b G3=>if b=true then te τ2 G3 K else K0 G3)
  (hq:∀D rs G',G D=none->G' D=some (.lst (rs.map T.ref))->Sub G G'->rs.length=es.length->(D::rs).Nodup->(∀(i:Nat) (r:Addr) (e:α),rs[i]? =some r->es[i]? =some e->G r=none/\G' r=some (.lst (f e)))->Q (.ref D) G'):kYv mask g tif te τ (es.map enc) stay G Q:=by
 intro D hD
 refine⟨fun i acc G'=>∃rs:List Addr,acc=rs.map T.ref/\rs.length=i/\G' D=some (.lst acc)/\Sub G G'/\(D::rs).Nodup/\(∀(i:Nat) (r:Addr) (e:α),rs[i]? =some r->es[i]? =some e->G r=none/\G' r=some (.lst (f e))),⟨[],rfl,rfl,jJe,.new hD,by simp,by simp⟩,?_,?_,?_⟩
 ·rintro i acc G' hi ⟨rs,ea,hl,eg,hs,hn,hr⟩
  exact⟨hst G' hs,eg⟩
 ·rintro i x acc G' hx0 ⟨rs,ea,hl,eg,hs,hn,hr⟩
  obtain⟨e,hx,rfl⟩:=jJ9 hx0
  have hi:i<es.length:=(lJj.mp hx).1
  have hlen:acc.length<sizeLine:=by rw[ea,lJf];omega
  refine h i e hx G' _ _ hs fun p G4 hp h4 s4=>⟨s4 D _ eg,hlen,rs++[p],by simp[ea],by simp[hl],jJe,(hs.trans s4).over hD,?_,?_⟩
  ·have hDp:D≠p:=jJj eg hp
   have hpr:p∉rs:=by
    intro hm
    obtain⟨j,hj⟩:∃j:Nat,_:=lKa hm
    have hjl:j<rs.length:=(lJj.mp hj).1
    have:=(hr j p es[j] hj (lJp (by omega))).2
    rw[hp] at this;cases this
   rw[lK2] at hn
   simp only[lK2,lJn,lJt,not_or,lVa,lKt,not_false_eq_true,lVl,and_true]
   exact⟨⟨hn.1,hDp⟩,hn.2,trivial,fun a ha b hb=>by subst hb;rintro rfl;exact hpr ha⟩
  ·intro j r e' hj he'
   have hjl:j<rs.length+1:=by have:=(lJj.mp hj).1;simpa using this
   by_cases hjr:j<rs.length
   ·rw[lKi hjr] at hj
    obtain⟨q1,q2⟩:=hr j r e' hj he'
    have:r≠D:=by rintro rfl;exact (lK2.mp hn).1 (lJu hj)
    exact⟨q1,by rw[jJo this];exact s4 _ _ q2⟩
   ·have hj2:j=rs.length:=by omega
    subst hj2
    rw[lKu (lJg _)] at hj
    simp at hj
    subst hj
    rw[hl,hx] at he';cases he'
    exact⟨hs.none hp,by rw[jJo (jJj eg hp).symm];exact h4⟩
 ·rintro acc G' ⟨rs,ea,hl,eg,hs,hn,hr⟩
  rw[ea] at eg
  exact hq D rs G' hD eg hs (by simpa using hl) hn hr
end L3
namespace L3
open PySem PySem.Spec PyProof.Rows L2
section
variable {X:Cx}
def rAddE:R3:=fun x y G Q=>∃ys,x= .tup []/\y= .tup ys/\Q (.tup ys) G
theorem o_addE:Op3 X (binaryOp .Add) rAddE:=by
 rintro pins s τ G H x y v u Q ⟨σ,I,hs,hg⟩ ⟨a,ra,rv⟩ ⟨b,rb,ru⟩ ⟨ys,ex,ey,q⟩
 subst ex;subst ey
 obtain⟨pa,vs,rfl,h1,r1⟩:=(show ∃p vs,a= .ref p/\H p=some (.tup vs)/\Reps X.K H [] vs from ra)
 obtain⟨pb,ws,rfl,h2,r2⟩:=(show ∃p vs,b= .ref p/\H p=some (.tup vs)/\Reps X.K H ys vs from rb)
 cases rv;cases ru
 obtain⟨its,q1,p1,_⟩:=I.tuple (.of h1)
 obtain⟨its2,q2,p2,_⟩:=I.tuple (.of h2)
 have e0:its.toArray.isEmpty=true:=by
  have e1:=r1.length
  have e2:=q1.length
  have:its=[]:=List.eq_nil_of_length_eq_zero (by simp at e1;omega)
  rw[this];rfl
 obtain⟨⟨cls,dd,data,sl⟩,ho,hc,n,hd⟩:=id p1
 obtain⟨⟨cls2,dd2,data2,sl2⟩,ho2,hc2,n2,hd2⟩:=id p2
 simp only at hc hd hc2 hd2
 subst hc hd hc2 hd2
 exact concat_meets ⟨_,ho,rfl⟩ ⟨_,ho2,rfl⟩ noFill_tuple_add seq_tuple_add PySem.F.slot_tuple_add PySem.F.entry_tuple_add (lY7 _ _) (tuple_addW0 pa pb its.toArray its2.toArray n n2 dd dd2 sl sl2 e0)
  ⟨ho,ho2,.tup ys,G,H,.refl H,⟨σ,I,hs,hg⟩,⟨.ref pb,⟨pb,ws,rfl,h2,r2⟩,rfl⟩,q⟩
def kQn:R3:=fun x y G Q=>jK1 x y G Q\/rAddE x y G Q
theorem qKt:Op3 X (binaryOp .Add) kQn:=o_addF.or o_addE
end
theorem qQ4 {P:Program} {w:World} {A:Around} (hh:A.handled=none) (it t:Addr) (ne:t≠it) (xs:Array Value):Draws P w A it [it,t] xs.size (fun i v=>xs[i]? =some v) (fun i h=>kZy it t i xs h) where
 live:=fun _ _ ⟨⟨o,ho,_⟩,_⟩=>⟨o,ho⟩
 frame:=fun _ _ _ ⟨⟨o,ho,r⟩,⟨q,hq,r'⟩⟩ k=>⟨⟨o,k it (by simp) o ho,r⟩,⟨q,k t (by simp) q hq,r'⟩⟩
 item:=fun i s Q E hi st hQ=>kKc hh ne s Q E st (fun x g e s' b=>hQ x g s.toks e s' b) fun _ _ _ e=>by rw[lK3 hi] at e;cases e
 done:=fun s Q E st hE=>kKc hh ne s Q E st (fun x _ e=>by rw[lQy (lJg _)] at e;cases e) fun g e o _ b he hc=>hE g e b ⟨o,he,hc⟩
def kYm (i:Addr):Obj:={cls:= .type "enumerate",data:= .fields #[.none,.bool false,.ref i,rawInt 0,.none,.none]}
theorem qXd (t:Addr) (xs:Array Value):
  Meets (Builtin.«enumerate.__new__» ⟨[.type "enumerate",.ref t],[]⟩) fun _ R s=>s.heap.IsTuple t xs/\R (.ok (.ret (.ref (s.heap.push (itOf t)).objs.size))) {s with heap:=(s.heap.push (itOf t)).push (kYm s.heap.objs.size)}:=by
 refine .of_wp fun P w A R s ⟨ht,h⟩=> ?_
 obtain⟨g,a1,a2,a3,a4⟩:=s
 have sb:=sub_enumerate
 have m1:Heap.IsTuple (Shared.heap ⟨g,a1,a2,a3,a4⟩) t xs:=ht
 obtain⟨⟨c,dct,dt,sl⟩,hl,hc,n,hd⟩:=id ht
 replace hc:c= .type "tuple":=hc
 replace hd:dt= .seq xs n:=hd
 subst hc hd
 wp_walk using AutoSeq1.wpAny_loadPart' hl
 refine wpAny_stack_any (fun stk=>lJd ?_)
 split
 ·rename_i k _ _ _ _ _
  cases (k == Value.type "enumerate")<;>(wp_walk using AutoSeq1.wpAny_loadPart' hl,wpAny_pyIter_tuple m1;exact⟨_,rfl,h⟩)
 ·wp_walk using AutoSeq1.wpAny_loadPart' hl,wpAny_pyIter_tuple m1;exact⟨_,rfl,h⟩
theorem qQy {P:Program} {w:World} {A:Around} {s:Shared} {t:Addr} {xs:Array Value} {Q E:Value->Shared->Prop} (ht:s.heap.IsTuple t xs)
  (h:∀g n,n=s.heap.objs.size->IsEnum g (n+1) n 0 .none->kZy n t 0 xs g->(∀c o,s.heap.get? c=some o->g.get? c=some o)->Q (.ref (n+1)) {s with heap:=g}):wpAny (model P w) A (call (.type "enumerate") [.ref t]) Q E s:=by
 refine callType_new F.called_enumerate (by decide) (F.typeCall_enumerate_1 _) (F.newCall_enumerate_1 _) (fun obj=>F.args_object_init_2 obj _) F.entry_enumerate_new (qXd t xs) ⟨ht,?_⟩
 have hn:∀(g:Heap) (o:Obj),(g.push o).objs.size=g.objs.size+1:=fun _ _=>lVn ..
 have up:∀ {g:Heap} {o q:Obj} {c:Addr},g.get? c=some q->(g.push o).get? c=some q:=fun e=>lJk _ e
 obtain⟨q,hq,hr⟩:=ht
 have c0:((s.heap.push (itOf t)).push (kYm s.heap.objs.size)).get? s.heap.objs.size=some (itOf t):=up (lJ0 _ rfl)
 have c1:((s.heap.push (itOf t)).push (kYm s.heap.objs.size)).get? (s.heap.push (itOf t)).objs.size=some (kYm s.heap.objs.size):=lJ0 _ rfl
 show _/\_
 simp only[hn] at c1 ⊢
 exact⟨⟨_,c1,rfl⟩,h _ _ rfl c1 ⟨⟨_,c0,rfl,rfl⟩,q,up (up hq),hr⟩ fun c o e=>up (up e)⟩
theorem jUg {P:Program} {w:World} {A:Around} {s:Shared} {e it t:Addr} {i:Int} {k:Nat} {old:Value} {xs:Array Value} {Q:Option Value->Shared->Prop} {E:Value->Shared->Prop} (hh:A.handled=none) (ne:t≠it) (he:IsEnum s.heap e it i old) (st:kZy it t k xs s.heap) (hk:xs.size<=k)
  (hQ:∀g,Heap.ExtBut it s.heap g->Q none {s with heap:=g}):wpAny (model P w) A (pyNext (.ref e)) Q E s:=by
 have ty:s.TypeIs (.ref e) "enumerate":=⟨_,he,rfl⟩
 refine lJa (lV9 (lVi (name:=Str.ofString "__next__") ty F.slot_enumerate_next (lQa F.slot_enumerate_next ty F.entry_enumerate_next ?_ (F.args_enumerate_next_1 _))))
 refine (show wpAny _ _ (field (.ref e) 2 >>= _) _ _ _ from lJa (wpAny_field he rfl (x:= .ref it) rfl (lJa ?_)))
 refine kKc (A:=A.in1) hh ne s _ _ st (fun x _ e=>by rw[lQy hk] at e;cases e) fun g x o _ b hx hc=> ?_
 exact lJa (lV6 (T:="StopIteration") (b:=true) ⟨o,hx,hc⟩ isSubtype_stop (lJd (hQ g b)))
noncomputable def Itn (K:PySem.W.Frag) (a:Addr):It:=
 ⟨fun i H=>∃xs x,SqT K H a xs/\xs[i]? =some x,fun i H x H'=>∃p y,H p=none/\x= .ref p/\(∀xs,SqT K H a xs->xs[i]? =some y)/\H'=upd H p (.tup [.int i,y]),fun i H=>∃xs,SqT K H a xs/\xs.length<=i⟩
theorem kYl {h:Heap} {a e it:Addr} {i:Int} {old:Value} {k:Nat} {xs:Array Value} (he:IsEnum h e it i old) (hi:h.IsTupleIter it a k) (ht:h.IsTuple a xs):a≠it/\e∉[it,a]:=by
 obtain⟨o,ho,hc,_⟩:=hi
 obtain⟨q,hq,hqc,_⟩:=ht
 refine⟨fun z=> ?_,fun m=> ?_⟩
 ·subst z;rw[ho] at hq;cases hq;rw[hc] at hqc;simp at hqc
 ·simp only[lJr,lKt,lQk] at m
  rcases m with rfl | rfl
  ·rw[he] at ho;cases ho;simp at hc
  ·rw[he] at hq;cases hq;simp at hqc
theorem kY0 {P:Program} {w:World} {K:PySem.W.Frag} {elts:List Expr} {k:Nat} {pos:Pos} (a e it:Addr) (hei:e≠it):
  Turn P w K (.Tuple elts k pos) (Itn K a) [e,it] e (fun i h=>(∃old,IsEnum h e it i old)/\h.IsTupleIter it a i) where
 mem:=lJx ..
 obj:=fun i h ⟨⟨old,h1⟩,h2⟩ b hb=>by
  simp only[lKt,lJr,lQk] at hb
  rcases hb with rfl | rfl
  ·exact⟨_,h1,fun v z=>nomatch (show Data.fields _=Data.cell v from z)⟩
  ·obtain⟨o,e2,c,d⟩:=h2
   exact⟨o,e2,fun v z=>by rw[d] at z;cases z⟩
 keep:=fun i h h' ⟨⟨old,h1⟩,h2⟩ kp=>⟨⟨old,kp e (by simp) _ h1⟩,h2.at fun o q=>kp it (by simp) o q⟩
 item:=by
  rintro X hP hw hK hc i pins s σ H E I hf ⟨⟨old,he⟩,hit⟩ ⟨xs,x,hq,hx⟩
  subst hP hw hK
  obtain⟨its,rv,p,hz⟩:=I.tuple hq
  obtain⟨u,hu,ru⟩:=rv.get hx
  have p':s.heap.IsTuple a its.toArray:=p
  obtain⟨nei,hef⟩:=kYl he hit p'
  have hlt:i<its.toArray.size:=by simpa using (lJj.mp hu).1
  refine wpAny_pyNext_enum_itemD (qQ4 (A:=X.A.in1) (I.ok.hd hc) it a nei its.toArray) he ⟨hit,p'⟩ hlt hei hef fun x' h1 tk hx' ho hit1 hT hsz hk=> ?_
  obtain rfl:u=x':=by simpa[hu] using hx'
  refine⟨_,rfl,wpAny_letOwnedTupleGo_enum ho fun h2 he2 hs2=> ?_⟩
  have hel:e<s.heap.objs.size:=lJi he
  have hp2:∀b o,b∉[e,it]->s.heap.get? b=some o->h2.get? b=some o:=fun b o hb q=>by
   simp only[lJr,lKt,lQk,not_or] at hb
   exact (hs2.2 b hb.1).trans (hk b o hb.1 hb.2 q)
  have hT2:h2.get? s.heap.objs.size=some {cls:= .type "tuple",data:= .seq #[.int i tk,u]}:=(hs2.2 _ (lK7 hel)).trans hT
  have I2:=kQb (t':=tk+1) (h':=h2) (p:=s.heap.objs.size) (vs:=[.int i,x]) (us:=[.int i tk,u]) I hp2 hf (lJg _) ⟨_,hT2,rfl,_,rfl,rfl⟩ (.cons ⟨_,rfl⟩ (.cons ru .nil)) (by show 2<=sizeLine;decide)
  refine⟨.ref s.heap.objs.size,_,I2,rfl,⟨_,x,I.hok.fresh (lJg _),rfl,fun ys hy=>by rw[I.tuple_inj hy hq];exact hx,rfl⟩,⟨⟨u,by simpa using he2⟩,hit1.1.at fun o q=>(hs2.2 it hei.symm).trans q⟩,fun b hb=> ?_⟩
  have hbs:∃o,s.heap.get? b=some o:=by
   have hb':=hb
   simp only[lKt,lJr,lQk] at hb'
   rcases hb' with rfl | rfl
   ·exact⟨_,he⟩
   ·obtain⟨o,q,_⟩:=hit;exact⟨o,q⟩
  obtain⟨o,q⟩:=hbs
  rw[jJ1 (lJm (lJi q))]
  exact (hf b hb).1
 done:=by
  rintro X hP hw hK hc i pins s σ H E I hf ⟨⟨old,he⟩,hit⟩ ⟨xs,hq,hx⟩
  subst hP hw hK
  obtain⟨its,rv,p,hz⟩:=I.tuple hq
  have p':s.heap.IsTuple a its.toArray:=p
  obtain⟨nei,hef⟩:=kYl he hit p'
  have hl:=rv.length
  refine jUg (I.ok.hd hc) nei he ⟨hit,p'⟩ (by simp;omega) fun h1 hx1=>⟨rfl,kZ7 (t':=s.toks) I (fun b o hb q=>hx1 b o (fun z=>hb (by simp[z])) q) hf⟩
 self:=fun _ _ _ _ _ ⟨⟨old,he⟩,_⟩ h=>lY3 he h
def iEnT (ta:TA3):TI3:=fun τ G R=>ta τ G fun vs G1=>∃xs,vs=[.tup xs]/\R (numT xs) (fun _=>True) G1
theorem i_enT {X:Cx} {elts:List Expr} {k:Nat} {tpos pos p:Pos} {a:Expr} {ta:TA3} (hg:Gl X "enumerate") (hm:X.mg "enumerate"=none) (hv:bootBuiltins "enumerate"=some (.type "enumerate")) (ha:PA3 X [a] ta) (hs:starEach [a] X.env=[(false,eval a X.env)]:=by rfl):
  PI3 X (.Tuple elts k tpos) (.Call (.Name "enumerate" p) [a] [] pos) (iEnT ta):=by
 intro pins s τ G H R I h
 obtain⟨σ0,I0,_,_⟩:=id I
 refine Call_ (jUb I0 hg hm hv (lQ8 (thn (ha pos pins s τ G H _ I h) fun us s1 w_=>w_.el fun xs' G1 H1 e1 i_ r_ q1=>i_.el fun σ I1 hs1 hg1=>r_.el fun as ras rvs=> ?_) hs rfl))
 obtain⟨xs,e,q⟩:=q1
 subst e
 obtain⟨v,rfl,rv⟩:=jQ8 ras
 obtain⟨u,rfl,ru⟩:=rvs.one
 obtain⟨pa,vs,rfl,hq,r⟩:=(show ∃p vs,v= .ref p/\H1 p=some (.tup vs)/\Reps X.K H1 xs vs from rv)
 cases ru
 obtain⟨its,rvv,pl,hz⟩:=I1.tuple (.of hq)
 refine qQy (show s1.heap.IsTuple pa its.toArray from pl) fun h1 n hn he hit hk=> ?_
 subst hn
 have I2:Inv X pins σ H1 {s1 with heap:=h1}:=I1.kept (t':=s1.toks) hk
 refine lY3 (Q:=PIE3 X pins τ H (.Tuple elts k tpos) R) he ?_
 have fr:∀b∈[s1.heap.objs.size+1,s1.heap.objs.size],FpOk X pins H1 b:=fun b hb=>by
  simp only[lKt,lJr,lQk] at hb
  have hle:s1.heap.objs.size<=b:=by omega
  exact I1.fpOk hle (I1.hok.fresh hle)
 refine⟨s1.heap.objs.size+1,[s1.heap.objs.size+1,s1.heap.objs.size],_,_,numT xs,fun _=>True,G1,H1,rfl,e1,⟨σ,I2,hs1,hg1⟩,kY0 pa _ _ (Nat.succ_ne_self _),⟨⟨.none,he⟩,hit.1⟩,fr,?_,q⟩
 intro i H2 G2 e2 g2 _
 obtain⟨pb,ws,eb,h1',h2⟩:=(show ∃p vs,V.ref pa= .ref p/\H2 p=some (.tup vs)/\Reps X.K H2 xs vs from Rep.mono e2 _ rv)
 cases eb
 have hlen:=h2.length
 refine⟨fun hi=> ?_,fun hi=>⟨ws,.of h1',by rw[jJ3] at hi;omega⟩,fun hi y H' ⟨pp,z,hn,ey,hy,eH⟩=> ?_⟩
 ·rw[jJ3] at hi
  exact⟨ws,ws[i]'(by omega),.of h1',by simp[hlen▸hi]⟩
 ·subst ey;subst eH
  obtain⟨t,ht,rt⟩:=h2.get' (hy ws (.of h1'))
  exact⟨.upd (.none hn),g2.tupNew hn,_,jXp ht,Rep.tupNew ⟨_,_,rfl,rfl,_,_,rfl,rt,rfl⟩ hn⟩
section
variable {X:Cx}
noncomputable def qJg (tk tv:TE3):TE3:=fun τ G Q=>∀p,G p=none->tk τ (gup G p (.dck [])) fun x G1=>tv τ G1 fun y G2=>∃k,jV4 x=some k/\G2 p=some (.dck [])/\Q (.ref p) (gup G2 p (.dck [(k,y)]))
theorem uJj {pos:Pos} {k v:Expr} {tk tv:TE3} (hk:PE3 X k tk) (hv:PE3 X v tv):PE3 X (.Dict [some k] [v] pos) (qJg tk tv):=by
 rintro pins s τ G H Q ⟨σ,I,hs,hg⟩ h
 have hn:=I.hok.fresh (lJg s.heap.objs.size)
 have I1:=I.laid (a:=s.heap.objs.size) (o:= .dK []) (h':=s.heap.push {cls:= .type "dict",data:= .dict #[]}) (t':=s.toks) (fun _ _ q=>lJk _ q) (lJg _) (kYo s.heap I.big)
 have I3:Inv3 X pins τ (gup G s.heap.objs.size (.dck [])) (upd H s.heap.objs.size (.dK [])) {s with heap:=s.heap.push {cls:= .type "dict",data:= .dict #[]},toks:=s.toks}:=
  ⟨σ,I1,hs.mono (.upd (.none hn)),hg.upd (.none hn) (go:= .dck []) ⟨[],jKb,.nil⟩⟩
 refine wpAny_Dict_walk (knd:=jJ4 X.prog X.w) rfl rfl (by simp) (by simp) (pairTrees_cons_walk (thn (hk pins _ τ _ _ _ I3 (h _ (hg.fresh hn))) fun u s1 w_=>w_.el fun x G1 H1 e1 J1 ru q1=>thn (hv pins s1 τ G1 H1 _ J1 q1) fun u2 s2 w_=>w_.el fun y G2 H2 e2 i_ ru2 ⟨key,hkey,hd,q2⟩=>i_.el fun σ2 J2 hs2 hg2=>pairTrees_nil_walk ?_))
 obtain⟨ws,hH2,pk⟩:=(show ∃ws,H2 s.heap.objs.size=some (.dK ws)/\PKV X.K H2 [] ws from hg2 _ _ hd)
 cases pk
 obtain⟨a,ra,rva⟩:=ru.mono e2
 obtain⟨c,rc,rvc⟩:=ru2
 obtain rfl:=jXs hkey ra
 obtain⟨rs,cr,rk⟩:=kJ6 (P:=X.prog) (w:=X.w) (kvs:=[(key,c)]) (ws:=[(u,u2)]) (.cons ⟨rva,rvc⟩ .nil)
 obtain⟨z,hdd,vs0,r0,dd⟩:=dk_of J2.hok hH2
 cases r0
 refine⟨rs,cr,dd,fun h' dd' hsb=> ?_⟩
 have he:∃q,h'.get? s.heap.objs.size=some q:=let ⟨q,_,_,hq,_⟩:=dd';⟨q,hq⟩
 have JJ:=kK5 (t':=s2.toks+[(u,u2)].length) J2 (by rw[hH2];exact True.intro) hsb he (qYl (kvs:=[(key,c)]) (by rw[lKy];exact Nat.succ_le_of_lt (lXh _)) hdd (rk.merge .nil) dd')
 have ext:Ext H2 (upd H2 s.heap.objs.size (.dK [(key,c)])):= .upd (.dK hH2)
 exact⟨.ref s.heap.objs.size,_,_,(((Ext.upd (.none hn)).trans e1).trans e2).trans ext,⟨σ2,JJ,hs2.mono ext,hg2.upd (.dK hH2) (go:= .dck [(key,y)]) ⟨_,jKb,PKV.put (kvs:=[]) .nil key (Rep.mono ext _ rc)⟩⟩,⟨.ref _,rfl,rfl⟩,q2⟩
end
section
variable {X:Cx}
end
end L3
namespace L3
open PySem PySem.Spec PyProof.Rows L2 MeetsSeq
section
variable {X:Cx}
end
end L3
namespace L3
open PySem PySem.Spec PyProof.Rows L2
section
variable {X:Cx}
end
theorem kZk:typeLookup (.type "list_reverseiterator") "__len__"=pure none:=by rw[lYg,lYh];kernel_rfl
theorem kVo:typeLookup (.type "list_reverseiterator") "__length_hint__"=pure (some (.builtin "list_reverseiterator.__length_hint__")):=by rw[lYg,lYh];kernel_rfl
theorem qV5 {P:Program} {w:World} {A:Around} {E:Value->Shared->Prop} {s:Shared} {it:Addr} {Q:Bool->Shared->Prop} (ty:s.TypeIs (.ref it) "list_reverseiterator") (h:Q false s):wpAny (model P w) A (Builtin.List.listLengthHint (.ref it)) Q E s:=by
 (unfold Builtin.List.listLengthHint)
 refine lJa (lV5 ty kZk ?_)
 refine (show wpAny _ A (specialOf (Value.ref it) (Str.ofString "__length_hint__") >>= _) _ _ _ from lJa (lV5 ty kVo ?_))
 generalize hn:("list_reverseiterator.__length_hint__":String)=nm
 wp_delta
 rw[show splitId nm=some ("list_reverseiterator","__length_hint__") by subst hn;decide +kernel];subst hn
 refine lJa (lV6 (T:="list_reverseiterator") (b:=true) ty (by rw[isSubtype_type];kernel_rfl) (lXa (fun z=>absurd z (by decide)) fun _=> ?_))
 exact lXa (fun _=>lXa (fun z=>absurd z (by decide +kernel)) fun _=>lJd h) fun z=>absurd (by decide +kernel) z
theorem kZr {P:Program} {w:World} {A:Around} {s:Shared} {R:Result->Shared->Prop} {it l S:Addr} {xs:Array Value} (hh:A.handled=none) (hi:s.heap.IsRevIter it l ((xs.size:Int)-1)) (hl:s.heap.IsList l xs) (hz:xs.size<=sizeLine) (res:Value) (c0:Nat)
  (hS:s.heap.get? S=some {cls:= .type "list",data:= .seq #[] c0}) (hSl:S≠l)
  (hR:∀(g:Heap) (tk:Nat) (acc:Array Value) (c':Nat),(∀d o,d≠S->d≠it->s.heap.get? d=some o->g.get? d=some o)->g.get? S=some {cls:= .type "list",dict:=none,data:= .seq acc c',slots:= #[]}->ItemsOf (fun i v=>xs[xs.size-1-i]? =some v) acc xs.size->R (.ok (.ret res)) {s with heap:=g,toks:=tk}):
  wpAny (model P w) A.in1 (Builtin.List.listExtendWith (.ref S) (.ref it) res) (fun fin z=>match fin with | .done f=>R (.ok f) z | .again c'=>c'.quiet=true/\codeAny (model P w) A c' R z) (fun e z=>R (.error e) z) s:=by
 have hSi:S≠it:=by
  rintro rfl
  obtain⟨o,ho,hc,_⟩:=hi
  rw[hS] at ho;cases ho
  exact absurd hc (show ¬ Value.type "list"=Value.type "list_reverseiterator" by decide)
 have ne:l≠it:=by
  rintro rfl
  obtain⟨o,ho,hc,_⟩:=hi
  obtain⟨o',ho',hc',_⟩:=hl
  rw[ho] at ho';cases ho'
  rw[hc] at hc'
  exact absurd hc' (by decide)
 have Wk:=(Walks.listRev (prog:=P) (w:=w) (A:=A.in1) hh it l ne xs).toS
 have hSf:S∉[it,l]:=by simp[hSi,hSl]
 (unfold Builtin.List.listExtendWith)
 refine lJa (lQw hi.typeIs ?_)
 have z1:Builtin.List.listSameRef (.ref S) (.ref it)=false:=by simp[Builtin.List.listSameRef,hSi]
 have z2:(Value.type "list_reverseiterator" == Value.type "list")=false:=by decide
 have z3:(Value.type "list_reverseiterator" == Value.type "tuple")=false:=by decide
 simp only[z1,z2,z3,Bool.or_false,lKf,lJ6]
 refine lJa (wpAny_pyIter_revIter hi (lJa (lKx (qV5 hi.typeIs ?_))))
 refine lXa (fun z=>absurd z (by decide +kernel)) fun _=>lJd ⟨lQl F.plain_extend_loop _,?_⟩
 refine codeAny_extend_loopS Wk hz S hSf res xs.size 0 _ #[] c0 rfl (lJz _) ⟨lJz _,by simpa using hi,hl⟩ hS (ItemsOf.nil _) fun z acc c' hm hS' hacc=> ?_
 rw[Moved.eq_with hm]
 exact hR z.heap z.toks acc c' (fun b o h1 h2 e=>hm.heap b o (by simp[h1,h2]) e) hS' hacc
theorem kV6 {P:Program} {w:World} {A:Around} {E:Value->Shared->Prop} {s:Shared} {it l:Addr} {xs:Array Value} {Q:List Value->Shared->Prop} (hh:A.handled=none) (hi:s.heap.IsRevIter it l ((xs.size:Int)-1)) (hl:s.heap.IsList l xs) (hz:xs.size<=sizeLine)
  (hQ:∀(g:Heap) (tk:Nat) (acc:Array Value),(∀d o,d≠it->s.heap.get? d=some o->g.get? d=some o)->s.heap.objs.size<g.objs.size->ItemsOf (fun i v=>xs[xs.size-1-i]? =some v) acc xs.size->Q acc.toList {s with heap:=g,toks:=tk}):wpAny (model P w) A (collect (.ref it)) Q E s:=by
 have key:∀R:Result->Shared->Prop,(∀(g:Heap) (tk:Nat) (acc:Array Value) (c':Nat),(∀d o,d≠it->s.heap.get? d=some o->g.get? d=some o)->g.get? s.heap.objs.size=some {cls:= .type "list",dict:=none,data:= .seq acc c',slots:= #[]}->ItemsOf (fun i v=>xs[xs.size-1-i]? =some v) acc xs.size->R (.ok (.ret (.ref s.heap.objs.size))) {s with heap:=g,toks:=tk})->
   codeAny (model P w) A (.builtin "proto.collect" ⟨[.ref it],[]⟩) R s:=by
  intro R hR
  refine lQe F.entry_proto_collect ?_;rw[lQj F.plain_proto_collect _]
  refine (show wpAny _ A.in1 (newList [] >>= fun l=>again (.builtin "list.__iadd__" ⟨[l,.ref it],[]⟩)) _ _ s from lJa (lK0 (lJd ⟨lQl lYp _,lQe F.entry_list_iadd ?_⟩)))
  rw[lQj lYp _];have hS:(s.heap.push {cls:= .type "list",data:= .seq ([]:List Value).toArray}).get? s.heap.objs.size=some {cls:= .type "list",data:= .seq ([]:List Value).toArray}:=lJ0 _ rfl
  obtain⟨ol,hol,hcl⟩:=id hl
  exact kZr (A:=A) (R:=R) hh (hi.at fun o e=>lJk _ e) ⟨ol,lJk _ hol,hcl⟩ hz (.ref s.heap.objs.size) _ hS (lK7 (lJi hol)) fun g tk acc c' kp hS' itm=>hR g tk acc c' (fun d o h1 e=>kp d o (lJm (lJi e)) h1 (lJk _ e)) hS' itm
 unfold collect
 exact lJa (wpAny_runValue (key _ fun g tk acc c' kp hS' itm=>(show wpAny _ A (load s.heap.objs.size >>= _) _ _ _ from lJa (wpAny_load hS' (lJd (hQ g tk acc kp (lJi hS') itm))))))
theorem qJb {P:Program} {w:World} {A:Around} {E:Value->Shared->Prop} {s:Shared} {it l:Addr} {xs:Array Value} {Q:Value->Shared->Prop} (hh:A.handled=none) (hi:s.heap.IsRevIter it l ((xs.size:Int)-1)) (hl:s.heap.IsList l xs) (hz:xs.size<=sizeLine)
  (hQ:∀(g:Heap) (tk:Nat) (acc:Array Value),(∀d o,d≠it->s.heap.get? d=some o->g.get? d=some o)->s.heap.objs.size<g.objs.size->ItemsOf (fun i v=>xs[xs.size-1-i]? =some v) acc xs.size->Q (.ref g.objs.size) {s with heap:=g.push {cls:= .type "tuple",data:= .seq acc},toks:=tk}):
  wpAny (model P w) A (call (.type "tuple") [.ref it]) Q E s:=by
 refine callType_codes (Q₁:=fun obj z=>z.TypeIs obj "tuple"/\Q obj z) F.called_tuple (F.typeCall_tuple_1 _) F.entry_object_init (codeAny_of_tree ?_) fun obj z hz=>⟨hz.1,F.args_object_init_2 obj _,object_init_meets F.called_tuple.init.lookup F.called_tuple.made (by decide) P w A.in1 _ z ⟨hz.1,rfl,hz.2⟩⟩
 refine (show wpAny _ A.in1.in1 (do checkBuiltinCall "tuple.__new__" ⟨[.type "tuple",.ref it],[]⟩;again (.builtin "tuple.__new__" ⟨[.type "tuple",.ref it],[]⟩)) _ _ s from lJa (wpAny_of_eq (F.newCall_tuple_1 _) (lJd ⟨lQl F.plain_tuple_new _,lQe F.entry_tuple_new ?_⟩)))
 rw[lQj F.plain_tuple_new _];have h1:=sub_tuple_self
 have h2:=init_tuple_lookup
 have h3:=madeHere_tuple
 have ty:=hi.typeIs
 wp_walk using wpAny_typeOf ty,kV6 (A:=A.in1.in1) hh hi hl hz
 intro g tk acc kp big itm
 refine (show wpAny _ _ (Builtin.Tuple.tupleExact acc.toList.toArray >>= fun x=>ret x) _ _ _ from ?_)
 unfold Builtin.Tuple.tupleExact;refine lJa (lK0 (lJd ?_) (by show acc.toList.toArray.size<=sizeLine;simp only[Array.toArray_toList];rw[itm.1];exact hz))
 rw[show acc.toList.toArray=acc by simp]
 exact⟨⟨_,lJ0 _ rfl,rfl⟩,hQ g tk acc kp big itm⟩
section
variable {X:Cx}
def qYs (ta:TA3):TE3:=fun τ G Q=>ta τ G fun vs G1=>∃x xs,vs=[x]/\jQt G1 x=some xs/\Q (.tup xs.reverse) G1
theorem e_trev {pos pos' p p':Pos} {a:Expr} {ta:TA3} (hc:X.calm=true) (hl:Gl X "tuple") (hlm:X.mg "tuple"=none) (hg:Gl X "reversed") (hm:X.mg "reversed"=none) (hv:bootBuiltins "reversed"=some (.type "reversed")) (ha:PA3 X [a] ta) (hs:starEach [a] X.env=[(false,eval a X.env)]:=by rfl)
  (hs':starEach [Expr.Call (.Name "reversed" p) [a] [] pos] X.env=[(false,eval (.Call (.Name "reversed" p) [a] [] pos) X.env)]:=by rfl):
  PE3 X (.Call (.Name "tuple" p') [.Call (.Name "reversed" p) [a] [] pos] [] pos') (qYs ta):=by
 intro pins s τ G H Q I h
 obtain⟨σ,I0,_,_⟩:=id I
 refine Call_ (jUb I0 hl hlm rfl (lQ8 ?_ hs' rfl))
 rw[hs']
 refine Calls.spliced_cons (Call_ (jUb I0 hg hm hv (lQ8 (thn (ha pos pins s τ G H _ I h) fun us s1 w_=>w_.el fun ys G1 H1 e1 i_ r_ q1=>i_.el fun σ1 I1 hs1 hg1=>r_.el fun as ras rvs=> ?_) hs rfl)))
 obtain⟨x,xs,e,hx,q⟩:=q1
 subst e
 obtain⟨v,rfl,rv⟩:=jQ8 ras
 obtain⟨u,rfl,ru⟩:=rvs.one
 obtain⟨pa,vs,rfl,hq,r⟩:=jUs hg1 rv hx
 cases ru
 obtain⟨its,rvv,pl,hz⟩:=I1.list hq
 have hlen:its.length=xs.length:=by have:=rvv.length;have:=r.length;omega
 refine call_reversed_list pl.isList (Calls.spliced_nil ?_)
 obtain⟨ol,hol,hcl⟩:=id pl.isList
 refine qJb (l:=pa) (xs:=its.toArray) (I1.ok.hd hc) ⟨_,lJ0 _ rfl,rfl,rfl⟩ ⟨ol,lJk _ hol,hcl⟩ (by have:=rvv.length;simp;omega) fun g tk acc kp big itm=> ?_
 have hacc:acc.toList=its.reverse:=by
  apply lVk
  intro i
  by_cases hi:i<its.length
  ·have hia:i<acc.size:=by rw[itm.1];simpa using hi
   have e1:acc.toList[i]? =some acc[i]:=by simp[hia]
   have e2:=itm.2 i acc[i] (by simp[hia])
   rw[e1,List.getElem?_reverse hi]
   simpa using e2.symm
  ·rw[lKo (by have:=itm.1;simp at this ⊢; omega),lKo (by simp;omega)]
 have hge:s1.heap.objs.size<=g.objs.size:=by rw[lVn] at big;omega
 have fr:=I1.hok.fresh hge
 have hvl:=rvv.length
 have I3:=I1.laid (a:=g.objs.size) (o:= .tup vs.reverse) (h':=g.push {cls:= .type "tuple",data:= .seq acc}) (t':=tk) (fun b o e=>lJk _ (kp b o (lJm (lJi e)) (lJk _ e))) hge ⟨by simp;omega,acc.toList,by rw[hacc];exact rvv.reverse,by simpa using TupD.new g acc⟩
 have ext:Ext H1 (upd H1 g.objs.size (.tup vs.reverse)):= .upd (.none fr)
 exact⟨.tup xs.reverse,G1,_,e1.trans ext,⟨σ1,I3,hs1.mono ext,hg1.tupNew fr⟩,⟨.ref g.objs.size,Rep.tupNew r.reverse fr,rfl⟩,q⟩
end
section
variable {P:Program} {w:World} {A:Around} {E:Value->Shared->Prop} {s:Shared} {d:Addr}
theorem jYk {o:Obj} {es:Array DictEntry} {ep:Nat} {Q:Value->Shared->Prop} (hd:(d == sysModules)=false) (ho:s.heap.get? d=some o) (hc:o.ExactDict) (hx:o.data= .dict es ep) (hz:es.size<=sizeLine)
  (h:Q (.int es.size (s.toks+1)) {s with toks:=s.toks+1+1}):wpAny (model P w) A (call (.builtin "len") [.ref d]) Q E s:=by
 have hsl:=lKy
 have ty:s.TypeIs (.ref d) "dict":=⟨o,ho,hc.1⟩
 refine Calls.call_function_entry kind_len plain_len entry_len (args_len1 _) ?_;unfold Builtin.«len»; refine lJa (m:=oneArg "len" _) (lJd ?_)
 have M:MeetsIn P w (Builtin.«dict.__len__» ⟨[.ref d],[]⟩) (fun _ R z=>(∃o es ep,z.heap.get? d=some o/\o.data= .dict es ep/\R (.ok (.ret (.int es.size z.toks))) {z with toks:=z.toks+1})):=
  .of_wp fun A R z ⟨o,es,ep,ho,hx,h⟩=>by
   refine (show wpAny _ _ (dictSize d >>= _) _ _ z from ?_)
   unfold dictSize;refine lJa (lJa (lVu ho hx (lJd ?_)))
   refine (show wpAny _ _ (Builtin.Dict.pendingCount d >>= _) _ _ z from lJa (wpAny_pendingCount_other hd (wpAny_ret_mkInt ?_)))
   rw[lXi];exact h
 refine lJa (m:=callSpecial? (.ref d) (Str.ofString "__len__")) (lVi (name:=Str.ofString "__len__") ty F.slot_dict_len (call_meetsIn F.slot_dict_len ty F.entry_dict_len (F.args_dict_len_1 _) M ⟨o,es,ep,ho,hx,?_⟩))
 refine (show wpAny _ _ _ _ _ {s with toks:=s.toks+1} from lJa (lKx (lJd (lJa (wpAny_letGo ?_)))))
 refine (show wpAny _ _ (if ((es.size:Nat):Int)<0 then _ else _) _ _ _ from ?_);rw[lJb (by omega)]
 refine (show wpAny _ _ (if ((es.size:Nat):Int)>=2^63 then _ else _) _ _ _ from ?_);rw[lJb (by omega)]
 exact (lJa (wpAny_mkInt (lJd ⟨_,rfl,h⟩)))
end
section
variable {X:Cx}
noncomputable def lenG (G:Gp):T->Option Nat
 | .ref p=>match G p with
  | some (.lst xs)=>some xs.length
  | some (.dct kvs)=>some kvs.length
  | some (.dck kvs)=>some kvs.length
  | some (.fdc _)=>none
  | some (.ins _ _)=>none
  | none=>none
 | .tup xs=>some xs.length
 | .scr xs=>some xs.length
 | _=>none
def qJ6:List T->Gp->VK3->Prop:=fun xs G Q=>∃x n,xs=[x]/\lenG G x=some n/\Q (.int (n:Nat)) G
theorem qUg:Call3 X (.builtin "len") qJ6:=by
 rintro pins s τ G H xs us Q I rs ⟨x,n,ex,hx,q⟩
 by_cases hd:∃p,x= .ref p/\((∃kvs,G p=some (.dct kvs))\/∃kvs,G p=some (.dck kvs))
 ·subst ex
  obtain⟨p,rfl,hk⟩:=hd
  obtain⟨σ,I,hs,hg⟩:=I
  obtain⟨as,ras,rvs⟩:=rs
  obtain⟨v,rfl,rv⟩:=jQ8 ras
  obtain⟨u,rfl,ru⟩:=rvs.one
  cases (show v= .ref p from rv);cases ru
  rcases hk with ⟨kvs,hG⟩ | ⟨kvs,hG⟩
  ·simp only[lenG,hG] at hx;cases hx
   obtain⟨ws,h1,h2⟩:=hg p _ hG
   obtain⟨z,y,xs,r,o,es,ep,e1,e2,e3,e4,e5⟩:=(show ObjOk X.prog X.w H s.heap p (.dT ws) from I.hok p _ h1)
   have l1:es.size=kvs.length:=by
    have a1:=lJ8 List.length e4
    have a2:=lQn r
    have a3:=h2.length
    simp at a1;omega
   refine jYk y e1 e2 e3 (by have:=h2.length;omega) ?_
   rw[l1]
   exact⟨.int (kvs.length:Nat),G,H,.refl H,⟨σ,I.tok _,hs,hg⟩,⟨.int _,rfl,_,rfl⟩,q⟩
  ·simp only[lenG,hG] at hx;cases hx
   obtain⟨ws,h1,h2⟩:=hg p _ hG
   obtain⟨z,y,vs,rel,o,es,ep,e1,e2,e3,e4,e5,e6⟩:=(show ObjOk X.prog X.w H s.heap p (.dK ws) from I.hok p _ h1)
   have l1:es.size=kvs.length:=by
    have a1:=e5.length
    have a2:=rel.length
    have a3:=h2.length
    simp at a1;omega
   refine jYk y e1 e2 e3 (by have:=h2.length;omega) ?_
   rw[l1]
   exact⟨.int (kvs.length:Nat),G,H,.refl H,⟨σ,I.tok _,hs,hg⟩,⟨.int _,rfl,_,rfl⟩,q⟩
 ·refine jXx pins s τ G H xs us Q I rs ?_
  cases x with
  | ref p=>
   cases hG:G p with
   | none=>simp only[lenG,hG] at hx;cases hx
   | some g=>
    cases g with
    | lst ys=>simp only[lenG,hG] at hx;cases hx;exact⟨_,ys,ex,by simp only[seqT,hG,asL],q⟩
    | dct kvs=>exact absurd ⟨p,rfl,.inl ⟨kvs,hG⟩⟩ hd
    | fdc kvs=>simp only[lenG,hG] at hx;cases hx
    | ins _ _=>simp only[lenG,hG] at hx;cases hx
    | dck kvs=>exact absurd ⟨p,rfl,.inr ⟨kvs,hG⟩⟩ hd
  | tup ys=>cases hx;exact⟨_,ys,ex,rfl,q⟩
  | scr ys=>cases hx;exact⟨_,ys,ex,rfl,q⟩
  | non=>cases hx
  | bl _=>cases hx
  | int _=>cases hx
  | str _=>cases hx
  | ty _=>cases hx
end
section
variable {X:Cx}
def qY3:List T->Gp->VK3->Prop:=fun xs G Q=>∃i j,xs=[.int i,.int j]/\Q (.int (if j<i then j else i)) G
theorem c_min2 (hc:X.calm=true):Call3 X (.builtin "min") qY3:=
 Call3.of (qUd hc) fun H G xs as Q hg ra ⟨i,j,e,q⟩=>by
  subst e
  obtain⟨v,w,rfl,rv,rw'⟩:=kY6 ra
  cases (show v= .int i from rv);cases (show w= .int j from rw')
  exact⟨i,j,rfl,.int _,G,.refl H,hg,rfl,q⟩
theorem jQm:∀ {is:List Int} {us:List Value},Vals (is.map V.int) us->∃ps:List (Int×Tok),us=ps.map (fun p=> .int p.1 p.2)/\ps.map (·.1)=is
 | [],_,.nil=>⟨[],rfl,rfl⟩
 | i::is,_,.cons ⟨t,e⟩ r=>by
  obtain⟨ps,e1,e2⟩:=jQm r
  subst e1;subst e2;subst e
  exact⟨(i,t)::ps,rfl,rfl⟩
end
section
variable {X:Cx}
end
section
variable {X:Cx}
end
section
variable {X:Cx} {pos:Pos}
end
theorem szle {n:Nat} (h:Nat.ble n 16777216=true):n<=sizeLine:=by rw[PySem.sizeLine_eq];exact Nat.le_of_ble_eq_true h
end L3
namespace L3
theorem xe1 {A0:Type} {σ:Type} {f:A0->σ} {p:A0->Prop} {τ:σ} {C:σ->Prop} (h:∃a0,τ=f a0/\p a0) (k:∀a0,p a0->C (f a0)):C τ:=by
 obtain⟨a0,e,h⟩:=h;rw[e];exact k _ h
theorem xi1 {A0:Type} {σ:Type} {f:A0->σ} {p:A0->Prop} {τ:σ} (a0:A0) (e:τ=f a0) (h:p a0):∃a0,τ=f a0/\p a0:=⟨a0,e,h⟩
theorem xe2 {A0 A1:Type} {σ:Type} {f:A0->A1->σ} {p:A0->A1->Prop} {τ:σ} {C:σ->Prop} (h:∃a0 a1,τ=f a0 a1/\p a0 a1) (k:∀a0 a1,p a0 a1->C (f a0 a1)):C τ:=by
 obtain⟨a0,a1,e,h⟩:=h;rw[e];exact k _ _ h
theorem xi2 {A0 A1:Type} {σ:Type} {f:A0->A1->σ} {p:A0->A1->Prop} {τ:σ} (a0:A0) (a1:A1) (e:τ=f a0 a1) (h:p a0 a1):∃a0 a1,τ=f a0 a1/\p a0 a1:=⟨a0,a1,e,h⟩
theorem xe3 {A0 A1 A2:Type} {σ:Type} {f:A0->A1->A2->σ} {p:A0->A1->A2->Prop} {τ:σ} {C:σ->Prop} (h:∃a0 a1 a2,τ=f a0 a1 a2/\p a0 a1 a2) (k:∀a0 a1 a2,p a0 a1 a2->C (f a0 a1 a2)):C τ:=by
 obtain⟨a0,a1,a2,e,h⟩:=h;rw[e];exact k _ _ _ h
theorem xi3 {A0 A1 A2:Type} {σ:Type} {f:A0->A1->A2->σ} {p:A0->A1->A2->Prop} {τ:σ} (a0:A0) (a1:A1) (a2:A2) (e:τ=f a0 a1 a2) (h:p a0 a1 a2):∃a0 a1 a2,τ=f a0 a1 a2/\p a0 a1 a2:=⟨a0,a1,a2,e,h⟩
theorem xe4 {A0 A1 A2 A3:Type} {σ:Type} {f:A0->A1->A2->A3->σ} {p:A0->A1->A2->A3->Prop} {τ:σ} {C:σ->Prop} (h:∃a0 a1 a2 a3,τ=f a0 a1 a2 a3/\p a0 a1 a2 a3) (k:∀a0 a1 a2 a3,p a0 a1 a2 a3->C (f a0 a1 a2 a3)):C τ:=by
 obtain⟨a0,a1,a2,a3,e,h⟩:=h;rw[e];exact k _ _ _ _ h
theorem xe5 {A0 A1 A2 A3 A4:Type} {σ:Type} {f:A0->A1->A2->A3->A4->σ} {p:A0->A1->A2->A3->A4->Prop} {τ:σ} {C:σ->Prop} (h:∃a0 a1 a2 a3 a4,τ=f a0 a1 a2 a3 a4/\p a0 a1 a2 a3 a4) (k:∀a0 a1 a2 a3 a4,p a0 a1 a2 a3 a4->C (f a0 a1 a2 a3 a4)):C τ:=by
 obtain⟨a0,a1,a2,a3,a4,e,h⟩:=h;rw[e];exact k _ _ _ _ _ h
theorem xe6 {A0 A1 A2 A3 A4 A5:Type} {σ:Type} {f:A0->A1->A2->A3->A4->A5->σ} {p:A0->A1->A2->A3->A4->A5->Prop} {τ:σ} {C:σ->Prop} (h:∃a0 a1 a2 a3 a4 a5,τ=f a0 a1 a2 a3 a4 a5/\p a0 a1 a2 a3 a4 a5) (k:∀a0 a1 a2 a3 a4 a5,p a0 a1 a2 a3 a4 a5->C (f a0 a1 a2 a3 a4 a5)):C τ:=by
 obtain⟨a0,a1,a2,a3,a4,a5,e,h⟩:=h;rw[e];exact k _ _ _ _ _ _ h
theorem xe7 {A0 A1 A2 A3 A4 A5 A6:Type} {σ:Type} {f:A0->A1->A2->A3->A4->A5->A6->σ} {p:A0->A1->A2->A3->A4->A5->A6->Prop} {τ:σ} {C:σ->Prop} (h:∃a0 a1 a2 a3 a4 a5 a6,τ=f a0 a1 a2 a3 a4 a5 a6/\p a0 a1 a2 a3 a4 a5 a6) (k:∀a0 a1 a2 a3 a4 a5 a6,p a0 a1 a2 a3 a4 a5 a6->C (f a0 a1 a2 a3 a4 a5 a6)):C τ:=by
 obtain⟨a0,a1,a2,a3,a4,a5,a6,e,h⟩:=h;rw[e];exact k _ _ _ _ _ _ _ h
theorem xe8 {A0 A1 A2 A3 A4 A5 A6 A7:Type} {σ:Type} {f:A0->A1->A2->A3->A4->A5->A6->A7->σ} {p:A0->A1->A2->A3->A4->A5->A6->A7->Prop} {τ:σ} {C:σ->Prop} (h:∃a0 a1 a2 a3 a4 a5 a6 a7,τ=f a0 a1 a2 a3 a4 a5 a6 a7/\p a0 a1 a2 a3 a4 a5 a6 a7) (k:∀a0 a1 a2 a3 a4 a5 a6 a7,p a0 a1 a2 a3 a4 a5 a6 a7->C (f a0 a1 a2 a3 a4 a5 a6 a7)):C τ:=by
 obtain⟨a0,a1,a2,a3,a4,a5,a6,a7,e,h⟩:=h;rw[e];exact k _ _ _ _ _ _ _ _ h
theorem ae2 {a0 a1 C:Prop} (h:a0/\a1) (k:a0->a1->C):C:=k h.1 h.2
theorem ae3 {a0 a1 a2 C:Prop} (h:a0/\a1/\a2) (k:a0->a1->a2->C):C:=k h.1 h.2.1 h.2.2
theorem ae4 {a0 a1 a2 a3 C:Prop} (h:a0/\a1/\a2/\a3) (k:a0->a1->a2->a3->C):C:=k h.1 h.2.1 h.2.2.1 h.2.2.2
theorem ae5 {a0 a1 a2 a3 a4 C:Prop} (h:a0/\a1/\a2/\a3/\a4) (k:a0->a1->a2->a3->a4->C):C:=k h.1 h.2.1 h.2.2.1 h.2.2.2.1 h.2.2.2.2
theorem ae6 {a0 a1 a2 a3 a4 a5 C:Prop} (h:a0/\a1/\a2/\a3/\a4/\a5) (k:a0->a1->a2->a3->a4->a5->C):C:=k h.1 h.2.1 h.2.2.1 h.2.2.2.1 h.2.2.2.2.1 h.2.2.2.2.2
theorem ae7 {a0 a1 a2 a3 a4 a5 a6 C:Prop} (h:a0/\a1/\a2/\a3/\a4/\a5/\a6) (k:a0->a1->a2->a3->a4->a5->a6->C):C:=k h.1 h.2.1 h.2.2.1 h.2.2.2.1 h.2.2.2.2.1 h.2.2.2.2.2.1 h.2.2.2.2.2.2
theorem ae8 {a0 a1 a2 a3 a4 a5 a6 a7 C:Prop} (h:a0/\a1/\a2/\a3/\a4/\a5/\a6/\a7) (k:a0->a1->a2->a3->a4->a5->a6->a7->C):C:=k h.1 h.2.1 h.2.2.1 h.2.2.2.1 h.2.2.2.2.1 h.2.2.2.2.2.1 h.2.2.2.2.2.2.1 h.2.2.2.2.2.2.2
theorem ae9 {a0 a1 a2 a3 a4 a5 a6 a7 a8 C:Prop} (h:a0/\a1/\a2/\a3/\a4/\a5/\a6/\a7/\a8) (k:a0->a1->a2->a3->a4->a5->a6->a7->a8->C):C:=k h.1 h.2.1 h.2.2.1 h.2.2.2.1 h.2.2.2.2.1 h.2.2.2.2.2.1 h.2.2.2.2.2.2.1 h.2.2.2.2.2.2.2.1 h.2.2.2.2.2.2.2.2
theorem ae10 {a0 a1 a2 a3 a4 a5 a6 a7 a8 a9 C:Prop} (h:a0/\a1/\a2/\a3/\a4/\a5/\a6/\a7/\a8/\a9) (k:a0->a1->a2->a3->a4->a5->a6->a7->a8->a9->C):C:=k h.1 h.2.1 h.2.2.1 h.2.2.2.1 h.2.2.2.2.1 h.2.2.2.2.2.1 h.2.2.2.2.2.2.1 h.2.2.2.2.2.2.2.1 h.2.2.2.2.2.2.2.2.1 h.2.2.2.2.2.2.2.2.2
theorem ae11 {a0 a1 a2 a3 a4 a5 a6 a7 a8 a9 a10 C:Prop} (h:a0/\a1/\a2/\a3/\a4/\a5/\a6/\a7/\a8/\a9/\a10) (k:a0->a1->a2->a3->a4->a5->a6->a7->a8->a9->a10->C):C:=k h.1 h.2.1 h.2.2.1 h.2.2.2.1 h.2.2.2.2.1 h.2.2.2.2.2.1 h.2.2.2.2.2.2.1 h.2.2.2.2.2.2.2.1 h.2.2.2.2.2.2.2.2.1 h.2.2.2.2.2.2.2.2.2.1 h.2.2.2.2.2.2.2.2.2.2
end L3
namespace L3
open PySem PySem.Spec PyProof.Rows L2
section
variable {X:Cx}
end
section
variable {X:Cx}
end
section
variable {X:Cx}
end
section
variable {X:Cx}
end
section
variable {X:Cx}
end
section
variable {P:Program} {w:World} {A:Around} {E:Value->Shared->Prop} {s:Shared} {d it:Addr} {o:Obj} {es:Array DictEntry} {ep i:Nat}
theorem kZn {Q:Value->Shared->Prop} (hd:(d == sysModules)=false) (ho:s.heap.get? d=some o) (hc:o.ExactDict) (hx:o.data= .dict es ep)
  (hQ:Q (.ref s.heap.objs.size) {s with heap:=s.heap.push {cls:= .type "dict_keyiterator",data:= .fields #[.ref d,.int 0 0,.int es.size 0,.int ep 0]} }):wpAny (model P w) A (pyIter (.ref d)) Q E s:=by
 have hT:s.TypeIs (.ref d) "dict":=⟨o,ho,hc.1⟩
 refine wpAny_pyIter_slot hT PySem.F.slot_dict_iter (lQa PySem.F.slot_dict_iter hT PySem.F.entry_dict_iter ?_ (PySem.F.args_dict_iter_1 _));unfold Builtin.«dict.__iter__»
 refine lJa ?_;unfold Builtin.Dict.dictSlotNone;refine lJa (lYi hT ?_)
 refine (show wpAny _ _ (pure (Value.ref d)) _ _ s from lJd ?_);refine (show wpAny _ _ (Builtin.Dict.showsAll d >>= _) _ _ s from ?_)
 unfold Builtin.Dict.showsAll;rw[lJb (by rw[hd];exact lJs)];refine lJa (lJd (lJa (lVu ho hx (lJa (wpAny_dictEpoch ho hx ?_)))))
 exact lJa (lK0 (lJd ⟨_,rfl,"dict_keyiterator",_,⟨_,lJ0 _ rfl,rfl⟩,lX0.lookup,by simpa[rawInt] using hQ⟩))
theorem kZd {e:DictEntry} {Q:Option Value->Shared->Prop} (hit:s.heap.IsKeyIter it d i es.size ep) (ho:s.heap.get? d=some o) (hx:o.data= .dict es ep) (hi:es[i]? =some e)
  (hQ:∀h',h'.IsKeyIter it d (i+1) es.size ep->Heap.SameBut it s.heap h'->Q (some e.key) {s with heap:=h'}):wpAny (model P w) A (pyNext (.ref it)) Q E s:=by
 obtain⟨oi,hoi,hci,hdi⟩:=id hit
 unfold pyNext;refine lJa (lV9 (lVi (name:=Str.ofString "__next__") hit.typeIs lX0 (lQa lX0 hit.typeIs PySem.F.entry_dict_keyiterator_next ?_ (PySem.F.args_dict_keyiterator_next_1 _))))
 refine lJa (lJd (lJa (lJa ?_)))
 first | refine lJa (lY4 hit.typeIs (lJd (lJa (lXq hoi hdi ?_)))) | refine lJa (lY5 hit.typeIs (lJd (lJa (lXq hoi hdi ?_))))
 simp only[show Builtin.Dict_items.ownsTuple "dict_keyiterator"=false by decide,lKf,lJ6]
 refine (show wpAny _ _ (if (Value.ref d == Value.none)=true then _ else _) _ _ s from ?_);rw[lJb (show ¬ ((Value.ref d == Value.none)=true) from lJs)]
 refine lJa (lJd (lJa (lVu ho hx ?_)));rw[lJb (by simp)];refine lJa (lJd (lJa (wpAny_dictEpoch ho hx ?_)));rw[lJb (by simp)];refine lJd ?_
 simp only[show ¬ ((i:Int)<0) from by omega,lJ6,lVz,hi];refine lJa ?_
 first | refine lJa (lY4 hit.typeIs (lJd (lJa (wpAny_isOneOf_keyiter hit.typeIs ?_)))) | refine lJa (lY5 hit.typeIs (lJd (lJa (wpAny_isOneOf_keyiter hit.typeIs ?_))))
 refine (show wpAny _ _ (setField (.ref it) 1 (rawInt ((i:Int)+1)) >>= _) _ _ s from lJa (wpAny_setField hoi hdi (by simp) ?_))
 have hit':(s.heap.update it (Obj.mapFields (·.setIfInBounds 1 (rawInt ((i:Int)+1))))).IsKeyIter it d (i+1) es.size ep:=⟨_,lVx _ hoi (Obj.isFreed_of_fields (Obj.data_mapFields hdi _)),(Obj.cls_mapFields ..).trans hci,by rw[Obj.data_mapFields hdi];simp[rawInt]⟩
 refine lJa (lKx (lJa (wpAny_isOneOf_keyiter (s:={s with heap:=s.heap.update it (Obj.mapFields (·.setIfInBounds 1 (rawInt ((i:Int)+1))))}) hit'.typeIs ?_)))
 exact (show wpAny _ _ (pure e.key) _ _ _ from lJd (lJd ⟨_,rfl,lJd (hQ _ hit' (lVm ..))⟩))
theorem qQz {Q:Option Value->Shared->Prop} (hh:A.handled=none) (hit:s.heap.IsKeyIter it d i es.size ep) (ho:s.heap.get? d=some o) (hx:o.data= .dict es ep) (hi:es.size<=i)
  (hQ:∀h',Heap.ExtBut it s.heap h'->Q none {s with heap:=h'}):wpAny (model P w) A (pyNext (.ref it)) Q E s:=by
 obtain⟨oi,hoi,hci,hdi⟩:=id hit
 unfold pyNext;refine lJa (lV9 (lVi (name:=Str.ofString "__next__") hit.typeIs lX0 (lQa lX0 hit.typeIs PySem.F.entry_dict_keyiterator_next ?_ (PySem.F.args_dict_keyiterator_next_1 _))))
 refine lJa (lJd (lJa (lJa ?_)))
 first | refine lJa (lY4 hit.typeIs (lJd (lJa (lXq hoi hdi ?_)))) | refine lJa (lY5 hit.typeIs (lJd (lJa (lXq hoi hdi ?_))))
 simp only[show Builtin.Dict_items.ownsTuple "dict_keyiterator"=false by decide,lKf,lJ6]
 refine (show wpAny _ _ (if (Value.ref d == Value.none)=true then _ else _) _ _ s from ?_);rw[lJb (show ¬ ((Value.ref d == Value.none)=true) from lJs)]
 refine lJa (lJd (lJa (lVu ho hx ?_)));rw[lJb (by simp)];refine lJa (lJd (lJa (wpAny_dictEpoch ho hx ?_)));rw[lJb (by simp)];refine lJd ?_
 simp only[show ¬ ((i:Int)<0) from by omega,lJ6,lVz,lQy hi];refine lJa ?_
 first | refine (lJa (lY4 hit.typeIs (lJd ?_))) | refine lJa (lY5 hit.typeIs (lJd ?_))
 refine (show wpAny _ _ (setField (.ref it) 0 .none >>= _) _ _ s from lJa (wpAny_setField hoi hdi (by simp) ?_));refine (show wpAny _ _ (newExc (.type "StopIteration") [] >>= _) _ _ _ from lJa ?_)
 simp only[newExc,newTuple];refine lJa (lK0 ?_ (by size_fits));refine lJa (m:=firstArgMember _ _) (wpAny_of_eq (a:=Value.none) (by first | rfl | (simp only[firstArgMember];rfl)) (lK0 ?_ (by size_fits)))
 simp only[raiseNew];refine lJa (wpAny_handled ?_);rw[show A.in1.handled=none from hh];refine lJa (lJd (wpAny_throw ?_))
 exact lJa (lV6 (T:="StopIteration") (b:=true) ⟨_,lJ0 _ rfl,rfl⟩ isSubtype_stop (lJd (hQ _ (((lVm ..).extBut.push _).push _))))
theorem kZi {K:Type} [DecidableEq K] (knd:HeapKind P w K) (a:Addr) (hd:(d == sysModules)=false):
  MeetsIn P w (Builtin.«dict.get» ⟨[.ref d,.ref a],[]⟩) (fun A R s=>knd.room A.in1/\∃k xs,knd.is s.heap k a/\s.heap.DictOfH knd d xs/\R (.ok (.ret (((atKey xs k).map (·.2)).getD .none))) {s with toks:=s.toks+knd.draws k}):=
 .of_wp fun A R (s) ⟨hu,k,xs,hkey,hm,h⟩=>by
  unfold Builtin.«dict.get»; refine lJa ?_
  unfold Builtin.Dict.keyAndDefault;refine lJa (lYi hm.typeIs ?_)
  refine (show wpAny _ _ (pure (d,Value.ref a,none)) _ _ s from lJd ?_)
  refine lJa (m:=dictGet d (.ref a)) (wpAny_dictGet_heap hu hkey hm ?_)
  cases e:(atKey xs k).map (·.2) with
  | some v=>rw[e] at h;exact lJd ⟨_,rfl,h⟩
  | none=>
   rw[e] at h
   refine lJa (m:=Builtin.Dict.missed d (.ref a)) ?_
   unfold Builtin.Dict.missed
   rw[lJb (by rw[hd];exact (lJs))]
   exact lJd (lJd ⟨_,rfl,h⟩)
end
section
variable {X:Cx}
def qY7:T->List T->Gp->VK3->Prop:=fun x as G Q=>∃p ys o,x= .ref p/\as=[.tup ys]/\dAt G (.ref p) (.tup ys)=some o/\Q (o.getD .non) G
theorem m_getD (hu:X.A.units+20<cLine):Mt3 X "dict.get" qY7:=by
 rintro pins s τ G H x as v us Q ⟨σ,I,hs,hg⟩ ⟨a,ra,rv⟩ ⟨bs,rbs,rus⟩ ⟨p,ys,o,ex,ea,hd,q⟩
 subst ex;subst ea
 cases (show a= .ref p from ra);cases rv
 obtain⟨b,rfl,rb⟩:=jQ8 rbs
 obtain⟨u1,rfl,ru1⟩:=rus.one
 obtain⟨p',ov,ep,g,e1,e2⟩:=kK6 hg ra rb hd
 cases ep
 obtain⟨q',vs,e,h3,h4⟩:=(show ∃q vs,b= .ref q/\H q=some (.tup vs)/\Reps X.K H ys vs from rb)
 subst e
 cases (show u1=Value.ref q' from ru1)
 rcases g with ⟨kvs,k,e,ey,l⟩ | ⟨kvs,k,b,e,ey,eb,l⟩
 ·cases k<;>cases ey
 ·cases ey
  obtain⟨z,hdd,xs,rel,dd⟩:=kZt I.hok e
  refine call_meetsIn PySem.F.slot_dict_get dd.typeIs PySem.F.entry_dict_get (PySem.F.args_dict_get_2 _ _) (kZi (jJn X.prog X.w) q' hdd) ⟨jKc hu,k,xs,jYl I.hok eb,dd,?_⟩
  have ro:=rel.val k
  rw[<-l] at ro
  cases ov with
  | none=>
   cases o with
   | some t=>cases e1
   | none=>
    cases ea:atKey xs k with
    | some pp=>rw[ea] at ro;exact (show False from ro).elim
    | none=>exact⟨.non,G,H,.refl H,⟨σ,I.tok _,hs,hg⟩,⟨.non,rfl,rfl⟩,q⟩
  | some wv=>
   cases o with
   | none=>cases e1
   | some t=>
    obtain⟨wv',e',rt⟩:=e2 t rfl
    cases e'
    cases ea:atKey xs k with
    | none=>rw[ea] at ro;exact (show False from ro).elim
    | some pp=>rw[ea] at ro;exact⟨t,G,H,.refl H,⟨σ,I.tok _,hs,hg⟩,⟨wv,rt,ro⟩,q⟩
theorem kZm {K:PySem.W.Frag} {H:Hp} {x:T} {a:V} {k:Key} (h:jV4 x=some k) (r:a=kV k):Rep K H x a:=by
 subst r
 cases x with
 | int i=>cases h;exact rfl
 | str i=>cases h;exact rfl
 | _=>cases h
theorem jX0 {K:PySem.W.Frag} {H:Hp} {κ:Type} {f:T->Option κ} {R:κ->V->Prop} (hf:∀x k a,f x=some k->R k a->Rep K H x a):∀(xs:List T) {vs:List V} {ks:List κ},allK f xs=some ks->Paired R ks vs->Reps K H xs vs
 | [],_,_,h,r=>by cases h;cases r;exact rfl
 | x::xs,_,ks,h,r=>by
  unfold allK at h
  cases e1:f x with
  | none=>rw[e1] at h;cases h
  | some k=>
   cases e2:allK f xs with
   | none=>rw[e1,e2] at h;cases h
   | some ks'=>
    rw[e1,e2] at h;cases h
    cases r with
    | cons r1 r2=>exact⟨_,_,rfl,hf _ _ _ e1 r1,jX0 hf xs e2 r2⟩
theorem qK8 {K:PySem.W.Frag} {H:Hp} (x:T) (k:K1) (a:V) (h:key1 x=some k) (r:Rk1 H k a):Rep K H x a:=by
 cases x with
 | tup ts=>
  obtain⟨ks,h1,rfl⟩:=lQ7.mp (show (allK jV4 ts).map Sum.inr=some k from h)
  obtain⟨p,vs,e,h3,h4⟩:=(show ∃p vs,a= .ref p/\H p=some (.tup vs)/\Paired (fun k v=>v=kV k) ks vs from r)
  exact⟨p,vs,e,h3,jX0 (fun x k a h r=>kZm h r) _ h1 h4⟩
 | int i=>cases h;exact r
 | str i=>cases h;exact r
 | _=>cases h
theorem qK7 {K:PySem.W.Frag} {H:Hp} (x:T) (k:K2) (a:V) (h:key2 x=some k) (r:Rk2 H k a):Rep K H x a:=by
 cases x with
 | tup ts=>
  obtain⟨ks,h1,rfl⟩:=lQ7.mp (show (allK key1 ts).map Sum.inr=some k from h)
  obtain⟨p,vs,e,h3,h4⟩:=(show ∃p vs,a= .ref p/\H p=some (.tup vs)/\Paired (Rk1 H) ks vs from r)
  exact⟨p,vs,e,h3,jX0 qK8 _ h1 h4⟩
 | int i=>cases h;exact r
 | str i=>cases h;exact r
 | _=>cases h
theorem jQ9 {α β:Type} {F:α->β->Prop}:∀ {l:List α} {m:List β} {i:Nat} {x:α},Paired F l m->l[i]? =some x->∃y,m[i]? =some y/\F x y
 | _,_,_,_,.nil,h=>by simp at h
 | _,_,0,_,.cons r t,h=>by cases h;exact⟨_,rfl,r⟩
 | _,_,i+1,_,.cons r t,h=>jQ9 (i:=i) t h
noncomputable def Itd (d:Addr) (ob:Obj) (ws:List (TKey×V)):It:=
 ⟨fun i H=>H d=some (.frz ob (.dT ws))/\i<ws.length,fun i H x H'=>H'=H/\∃b kv,ws[i]? =some kv/\x= .ref b/\TKeyAt H kv.1 b,fun i H=>H d=some (.frz ob (.dT ws))/\ws.length<=i⟩
theorem fd_at {X:Cx} {pins:List (Addr×Obj)} {σ:L2.St} {H:Hp} {s:Shared} {d:Addr} {ob:Obj} {ws:List (TKey×V)} {es:Array DictEntry} {ep:Nat} (I:Inv X pins σ H s) (h:H d=some (.frz ob (.dT ws))) (hx:ob.data= .dict es ep):
  s.heap.get? d=some ob/\es.size=ws.length/\∀(i:Nat) (e:DictEntry),es[i]? =some e->∃b kv,ws[i]? =some kv/\e.key= .ref b/\TKeyAt H kv.1 b:=by
 obtain⟨ho,z,hd,xs,rel,o,es',ep',ho',hc,hx',he,hn⟩:=(show s.heap.get? d=some ob/\ObjOk X.prog X.w H s.heap d (.dT ws) from I.hok d _ h)
 rw[ho] at ho';cases ho'
 rw[hx] at hx';cases hx'
 have l1:es.size=ws.length:=by
  have a1:=lJ8 List.length he
  have a2:=lQn rel
  simp at a1;omega
 refine⟨ho,l1,fun i e hi=> ?_⟩
 have hil:i<ws.length:=by rw[<-l1];exact (lY9.mp hi).1
 obtain⟨q,h1,h2,h3,h4⟩:=jQ9 rel (lJp hil)
 have:=entry_at he i
 rw[hi,h1] at this
 cases this
 exact⟨q.2.1,ws[i],lJp hil,rfl,h3⟩
theorem qYr {P:Program} {w:World} {K:PySem.W.Frag} {tg:Expr} (d it:Addr) {ob:Obj} {ws:List (TKey×V)} {es:Array DictEntry} {ep:Nat} (hx:ob.data= .dict es ep):Turn P w K tg (Itd d ob ws) [it] it (fun i h=>h.IsKeyIter it d i es.size ep) where
 mem:=by simp
 obj:=fun i h st b hb=>by
  have e:b=it:=by simpa using hb
  subst e
  obtain⟨o,e,c,dd⟩:=st
  exact⟨o,e,fun v z=>by rw[dd] at z;cases z⟩
 keep:=fun i h h' st k=>st.at fun o e=>k it (by simp) o e
 item:=by
  intro X hP hw hK hc i pins s σ H E I hf st hg
  subst hP hw hK
  obtain⟨hH,hi⟩:=hg
  obtain⟨ho,l1,hat⟩:=fd_at I hH hx
  have he:es[i]? =some (es[i]'(by omega)):=lK3 _
  obtain⟨b,kv,h1,h2,h3⟩:=hat i _ he
  obtain⟨f0,f1,f2,f3,f4,f5⟩:=hf it (by simp)
  refine kZd st ho hx he fun h' st' sb=> ?_
  have I1:Inv X pins σ H {s with heap:=h'}:=I.turned (t':=s.toks) (fun b o hb e=>(sb.2 b hb).trans e) f0 f1 f3 f4 f5
  obtain⟨o,e,c,dd⟩:=id st'
  rw[h2]
  exact⟨_,rfl,qV8 (s:={s with heap:=h'}) e c dd (by decide) ⟨.ref b,H,I1,rfl,⟨rfl,b,kv,h1,rfl,h3⟩,st',fun b hb=>(hf b hb).1⟩⟩
 done:=by
  intro X hP hw hK hc i pins s σ H E I hf st hg
  subst hP hw hK
  obtain⟨hH,hi⟩:=hg
  obtain⟨ho,l1,hat⟩:=fd_at I hH hx
  obtain⟨f0,f1,f2,f3,f4,f5⟩:=hf it (by simp)
  exact qQz (I.ok.hd hc) st ho hx (by omega) fun h' eb=>⟨rfl,I.turned (t':=s.toks) (fun b o hb e=>eb b o hb e) f0 f1 f3 f4 f5⟩
 self:=fun _ _ _ _ _ st h=>wpAny_pyIter_keyiter st h
noncomputable def iFd (tl:TE3):TI3:=fun τ G R=>tl τ G fun x G1=>∃(p:Addr) (kvs:List (TKey×T)) (yss:List (List T)),x= .ref p/\G1 p=some (.dct kvs)/\yss.map jQy=kvs.map (fun kv=>some kv.1)/\R (yss.map T.tup) (fun _=>True) (gup G1 p (.fdc kvs))
theorem i_fd {l tg:Expr} {tl:TE3} (hl:PE3 X l tl):PI3 X tg l (iFd tl):=by
 intro pins s τ G H R I h
 refine thn (hl pins s τ G H _ I h) fun v s1 w_=>w_.el fun x G1 H1 e1 i_ r_ ⟨p,kvs,yss,ex,hG,hy,q⟩=>i_.el fun σ I1 hs1 hg1=>r_.el fun a ra rv=> ?_
 subst ex
 cases (show a= .ref p from ra);cases rv
 obtain⟨ws,h1,h2⟩:=(show ∃ws,H1 p=some (.dT ws)/\PKV X.K H1 kvs ws from hg1 p _ hG)
 obtain⟨z,hd,xs,rel,o,es,ep,ho,hc,hx,he,hn⟩:=(show ObjOk X.prog X.w H1 s1.heap p (.dT ws) from I1.hok p _ h1)
 refine kZn hd ho hc hx ?_
 have rel':KT (upd H1 p (.frz o (.dT ws))) ws xs:=KT.keeps rel fun b' ys' ec=>by rw[jJ1 (ne_of ec h1 (fun z=>nomatch z))];exact ec
 have I2:Inv X pins σ (upd H1 p (.frz o (.dT ws))) {s1 with heap:=s1.heap,toks:=s1.toks}:=kK5 (t':=s1.toks) I1 (by rw[h1];exact True.intro) (Heap.SameBut.refl _ _) ⟨o,ho⟩ ⟨ho,z,hd,xs,rel',o,es,ep,ho,hc,hx,he,hn⟩
 have ext:Ext H1 (upd H1 p (.frz o (.dT ws))):= .upd (.dT h1)
 have fpk:∀b∈[s1.heap.objs.size],FpOk X pins (upd H1 p (.frz o (.dT ws))) b:=fun b hb=>by
  have e:b=s1.heap.objs.size:=by simpa using hb
  subst e
  exact I2.fpOk (lJg _) (I2.hok.fresh (lJg _))
 refine⟨s1.heap.objs.size,[s1.heap.objs.size],_,_,yss.map T.tup,fun _=>True,_,_,rfl,e1.trans ext,⟨σ,I2.kept (t':=s1.toks) fun b o e=>lJk _ e,hs1.mono ext,hg1.upd (.dT h1) (go:= .fdc kvs) ⟨o,ws,jKb,h2.mono ext⟩⟩,qYr p _ (ob:=o) (ws:=ws) hx,⟨_,lJ0 _ rfl,rfl,rfl⟩,fpk,?_,q⟩
 intro i H2 G2 e2 g2 _
 have hH2:=e2.frz p o (.dT ws) jKb
 have hlen:yss.length=ws.length:=by
  have a1:=lJ8 List.length hy
  rw[lJf,lJf] at a1
  have a2:=h2.length
  omega
 rw[lJf]
 refine⟨fun hi=>⟨hH2,by omega⟩,fun hi=>⟨hH2,by omega⟩,fun hi y H' ⟨eH,b,kv,g1,g2',g3⟩=> ?_⟩
 subst eH;subst g2'
 refine⟨.refl _,g2,.tup (yss[i]'hi),by rw[lKj,lJp hi];rfl,?_⟩
 have hk:i<kvs.length:=by have:=h2.length;omega
 obtain⟨w',k1,k2,_⟩:=jQ9 h2 (lJp hk)
 rw[g1] at k1;cases k1
 have hyi:=lJ8 (fun l=>l[i]?) hy
 simp only[lKj,lJp hi,lJp hk,lQh,lXj] at hyi
 obtain⟨vs,t1,t2⟩:=g3
 rw[k2] at hyi
 exact⟨b,vs,rfl,t1,jX0 qK7 _ hyi t2⟩
end
theorem jKz:∀(names:List (Str×NameKind)) (n:Nat) (acc:List (Str×Addr)),cellsFrom n names acc=cellsFrom n names []++acc
 | [],_,_=>rfl
 | (x,k)::r,n,acc=>by
  unfold cellsFrom
  split
  ·rw[jKz r (n+1) ((x,n)::acc),jKz r (n+1) [(x,n)]];simp
  ·exact jKz r n acc
theorem jUw {x:Str} {c:Addr}:∀(names:List (Str×NameKind)) (n:Nat) (acc:List (Str×Addr)),(x,c)∈cellsFrom n names acc->(x,c)∈acc\/(x,NameKind.cell)∈names
 | [],_,_,h=> .inl h
 | (y,k)::r,n,acc,h=>by
  unfold cellsFrom at h
  split at h
  ·rename_i hk
   rcases jUw r _ _ h with z | z
   ·rcases (lJr.mp z) with q | q
    ·cases q;rw[show k= .cell from eq_of_beq hk];exact .inr lJx
    ·exact .inl q
   ·exact .inr (lJ1 _ z)
  ·exact (jUw r _ _ h).imp id (lJ1 _)
theorem jQ2 {x:Str}:∀(names:List (Str×NameKind)) (n:Nat) (acc:List (Str×Addr)),(∃c,acc.lookup x=some c)->∃c,(cellsFrom n names acc).lookup x=some c
 | [],_,_,h=>h
 | (y,k)::r,n,acc,h=>by
  unfold cellsFrom
  split
  ·refine jQ2 r _ _ ?_
   rw[lKs]
   cases x == y with
   | true=>exact⟨_,rfl⟩
   | false=>exact h
  ·exact jQ2 r _ _ h
theorem jQk {x:Str}:∀(names:List (Str×NameKind)) (n:Nat) (acc:List (Str×Addr)),(x,NameKind.cell)∈names->∃c,(cellsFrom n names acc).lookup x=some c
 | [],_,_,h=>by cases h
 | (y,k)::r,n,acc,h=>by
  unfold cellsFrom
  rcases (lJr.mp h) with z | z
  ·cases z
   rw[lJc (show (NameKind.cell == NameKind.cell)=true from rfl)]
   exact jQ2 r _ _ ⟨n,by rw[lKs];simp⟩
  ·split
   ·exact jQk r _ _ z
   ·exact jQk r _ _ z
theorem jVv {env:Env} {x:Str}:∀(names:List (Str×NameKind)),
  (names.map fun (n,k)=>if (k == NameKind.free&&env.scope.kind == .function&&env.kindOf n == some .cell) then (n,NameKind.cell) else (n,k)).lookup x=
   (names.lookup x).map fun k=>if (k == NameKind.free&&env.scope.kind == .function&&env.kindOf x == some .cell) then NameKind.cell else k
 | []=>rfl
 | (n,k)::r=>by
  rw[lJq,lKs (b:=k)]
  by_cases hx:(x == n)=true
  ·obtain rfl:x=n:=eq_of_beq hx
   by_cases hf:(k == NameKind.free&&env.scope.kind == .function&&env.kindOf x == some .cell)=true
   ·simp only[hf,lKh,lKs,hx,lQh]
   ·simp only[hf,lJ6,lKf,lKs,hx,lQh]
  ·by_cases hf:(k == NameKind.free&&env.scope.kind == .function&&env.kindOf n == some .cell)=true
   ·simp only[hf,lKh,lKs,hx];exact jVv r
   ·simp only[hf,lJ6,lKf,lKs,hx];exact jVv r
theorem jYi {scope:Scope} {env:Env} {x:Str} (h:(relabel scope env).names.lookup x=some .cell\/(relabel scope env).names.lookup x=some .free):scope.names.lookup x=some .free\/scope.names.lookup x=some .cell:=by
 have e:(relabel scope env).names.lookup x=_:=jVv (env:=env) scope.names
 rw[e] at h
 cases hq:scope.names.lookup x with
 | none=>rw[hq] at h;simp at h
 | some k=>
  rw[hq,lQh] at h
  by_cases hf:(k == NameKind.free&&env.scope.kind == .function&&env.kindOf x == some .cell)=true
  ·have:(k == NameKind.free)=true:=by rw[lKv,lKv] at hf;exact hf.1.1
   rw[eq_of_beq this];exact .inl rfl
  ·rw[lJb hf] at h
   exact h.symm
noncomputable def jK9 (X:Cx) (scope:Scope) (cl:List (Str×Addr)) (C:Addr) (fp:List Addr) (s:Shared) (H:Hp):Cx:=
 {X with env:=compEnvC scope (cellsFrom (C+1) scope.names cl) C X.env,s₀:=s,H₀:=H,outer:=X.stack,stack:=X.stack,ex:=fp,fn:=fun x=>scope.names.lookup x == some .cell,pn:=[],xe:=fun _ _=>False}
structure CmpOkC (X:Cx) (scope:Scope) (cl:List (Str×Addr)) (mask:List Bool):Prop where
 cl:clGo X.env scope.names []=some cl
 kind:scope.kind= .function
 cells:(scope.names.all fun y=>y.2 != .cell||scope.names.lookup y.1 == some .cell)=true
 names:(scope.names.all fun y=>y.2 != .local||scope.names.lookup y.1 == some .local)=true
 vis:(scope.names.all fun y=>y.2 != .free||X.env.kindOf y.1 == some .cell||X.env.kindOf y.1 == some .free)=true
 len:mask.length=X.N.length
 mask:((X.N.zip mask).all fun p=>p.2||(scope.names.lookup p.1 != some .local&&scope.names.lookup p.1 != some .cell))=true
section
variable {A:Around} {E:Value->Shared->Prop} {s:Shared} {M:Model}
theorem jU1 {scope:Scope} {globals:Addr} {closure:List (Str×Addr)} {qual:Str} {func:Option Addr} {code:Value} {outer:Env} {builtins:Addr} {Q:Env->Shared->Prop}
  (hQ:∀h',h'.Ns s.heap.objs.size (fun _=>none)->(∀b o,s.heap.get? b=some o->h'.get? b=some o)->CellsOk h' (s.heap.objs.size+1) (cellsFrom (s.heap.objs.size+1) scope.names [])->
   Q (newEnv scope s.heap.objs.size globals (cellsFrom (s.heap.objs.size+1) scope.names closure) qual func code (some outer) builtins) {s with heap:=h'}):
  wpAny M A (newFunctionEnv scope globals closure [] qual func code (some outer) builtins) Q E s:=by
 (simp only[newFunctionEnv,Option.isSome_some,lKh])
 (refine lJa (wpAny_alloc ?_))
 (refine lJa (wpAny_layCells _ (fun name kind cells=>by cases hkc:kind == NameKind.cell<;>simp[hkc]) _ _ _ _ ?_))
 have ok:=cellsFrom_ok scope.names (s.heap.push {cls:= .type "dict",data:= .dict #[]}) (s.heap.objs.size+1) [] ⟨fun _ _ hm=>(nomatch hm),List.Pairwise.nil⟩ (by rw[lVn];exact lJg _)
 rw[lVn] at ok
 rw[show ({s with heap:=s.heap.push {cls:= .type "dict",data:= .dict #[]} }:Shared).heap.objs.size=s.heap.objs.size+1 from lVn ..]
 refine lJa ?_
 rw[List.forIn_nil]
 exact lJd (lJd (hQ _ ((Heap.Ns.new s.heap (.type "dict")).keeps (pushCells_keeps _ _)) (fun b o e=>pushCells_keeps _ _ b o (lJk _ e)) ok))
end
section
variable {X:Cx} {scope:Scope} {cl:List (Str×Addr)} {mask:List Bool}
theorem CmpOkC.local (c:CmpOkC X scope cl mask) {i:Nat} {x:Str} (h1:X.N[i]? =some x) (h2:mask[i]? =some false):scope.names.lookup x≠some .local/\scope.names.lookup x≠some .cell:=by
 have h:=c.mask
 rw[lKp] at h
 have hz:(X.N.zip mask)[i]? =some (x,false):=by rw[lXy];exact⟨h1,h2⟩
 have:=h _ (lJu hz)
 simpa using this
theorem CmpOkC.free (c:CmpOkC X scope cl mask) {x:Str} (h:scope.names.lookup x=some .free):X.env.kindOf x=some .cell\/X.env.kindOf x=some .free:=by
 have hv:=c.vis
 rw[lKp] at hv
 have:=hv (x,.free) (lK4 h)
 simpa using this
theorem CmpOkC.nm (c:CmpOkC X scope cl mask):∀y∈scope.names,y.2= .local->scope.names.lookup y.1=some .local:=by
 have hv:=c.names
 rw[lKp] at hv
 intro y hy e
 have:=hv y hy
 rw[e] at this
 simpa using this
theorem CmpOkC.own (c:CmpOkC X scope cl mask) {x:Str} {d:Addr} {n:Nat} (h:(cellsFrom n scope.names []).lookup x=some d):scope.names.lookup x=some .cell:=by
 rcases jUw _ _ _ (lK4 h) with z | z
 ·cases z
 ·have hv:=c.cells
  rw[lKp] at hv
  have:=hv _ z
  simpa using this
theorem CmpOkC.two (_:CmpOkC X scope cl mask) {x:Str} {d:Addr} {n:Nat} (h:(cellsFrom n scope.names cl).lookup x=some d):(cellsFrom n scope.names []).lookup x=some d\/((cellsFrom n scope.names []).lookup x=none/\cl.lookup x=some d):=by
 rw[jKz,List.lookup_append] at h
 cases hf:(cellsFrom n scope.names []).lookup x with
 | none=>rw[hf] at h;exact .inr ⟨rfl,h⟩
 | some e=>rw[hf] at h;exact .inl h
theorem CmpOkC.apart (c:CmpOkC X scope cl mask) {pins:List (Addr×Obj)} {σ:L2.St} {H:Hp} {s:Shared} {h4:Heap} {b:Addr} {x:Str} {d:Addr} (hcs:CellsOk h4 (s.heap.objs.size+1) (cellsFrom (s.heap.objs.size+1) scope.names [])) (_:Inv X pins σ H s)
  (hf:∀x c,X.env.cells.lookup x=some c->c≠b) (hb:b<s.heap.objs.size) (h:(cellsFrom (s.heap.objs.size+1) scope.names cl).lookup x=some d):d≠b:=by
 rcases c.two h with z | ⟨_,z⟩
 ·have:=(hcs.empty _ _ (lK4 z)).2
  exact lK7 (lJ9 hb (lX1 this))
 ·exact hf x d (jVi c.cl (by simp) _ _ z)
theorem kZv (c:CmpOkC X scope cl mask) {pins:List (Addr×Obj)} {σ:L2.St} {H:Hp} {s:Shared} {fp:List Addr} {h4:Heap} {tk:Nat} (I:Inv X pins σ H s) (hf:∀b∈fp,FpOk X pins H b) (ho:∀b∈fp,∃o,s.heap.get? b=some o)
  (hns:h4.Ns s.heap.objs.size fun _=>none) (hk:∀b o,s.heap.get? b=some o->h4.get? b=some o) (hcs:CellsOk h4 (s.heap.objs.size+1) (cellsFrom (s.heap.objs.size+1) scope.names [])):
  Inv (jK9 X scope cl s.heap.objs.size fp s H) [] (msk mask σ) H {s with heap:=h4,toks:=tk}:=by
 have sub:=jVi c.cl (by simp)
 have old:∀x d,cl.lookup x=some d->d<s.heap.objs.size:=fun x d h=>let ⟨_,q⟩:=I.cell x d (sub _ _ h);q.lt
 have new:∀x d,(cellsFrom (s.heap.objs.size+1) scope.names []).lookup x=some d->s.heap.objs.size+1<=d:=fun x d h=>(hcs.empty _ _ (lK4 h)).2
 have fre:∀x d,scope.names.lookup x=some .free->cl.lookup x=some d->(cellsFrom (s.heap.objs.size+1) scope.names cl).lookup x=some d:=fun x d h1 h2=>by
  rw[jKz,List.lookup_append]
  cases hq:(cellsFrom (s.heap.objs.size+1) scope.names []).lookup x with
  | none=>exact h2
  | some e=>exact absurd (c.own hq) (by rw[h1];simp)
 have ok:(jK9 X scope cl s.heap.objs.size fp s H).Ok:=by
  refine⟨I.ok.mod,c.kind,I.ok.glob,I.ok.blt,lJg _,fun x y d h1 h2=> ?_,fun x hx=> ?_,fun x d hx hd=> ?_,I.ok.hd,I.ok.gd,I.ok.frames,.inl rfl,
   fun b hb=> ?_,I.bs,lK1 I.ok.bsz I.sz,fun b o e hb=> ?_,fun b hb hz=> ?_,I.stack,I.stkFree⟩
  ·rcases c.two h1 with z1 | ⟨_,z1⟩<;>rcases c.two h2 with z2 | ⟨_,z2⟩
   ·exact name_of_addr hcs.apart (lK4 z1) (lK4 z2)
   ·exact absurd (lJ9 (old _ _ z2) (lX1 (new _ _ z1))) (lQo _)
   ·exact absurd (lJ9 (old _ _ z1) (lX1 (new _ _ z2))) (lQo _)
   ·exact I.ok.inj x y d (sub _ _ z1) (sub _ _ z2)
  ·have hx':=jYi (scope:=scope) (env:=X.env) hx
   rcases hx' with z | z
   ·obtain⟨d,hd⟩:=jVj c.cl z
    exact⟨d,fre x d z hd⟩
   ·exact jQk _ _ _ (lK4 z)
  ·have hx':scope.names.lookup x=some .cell:=eq_of_beq hx
   rcases c.two hd with z | ⟨z,_⟩
   ·exact lX1 (new _ _ z)
   ·obtain⟨e,he⟩:=jQk scope.names (s.heap.objs.size+1) [] (lK4 hx')
    rw[he] at z;cases z
  ·obtain⟨o,e⟩:=ho b hb
   exact⟨lJm (lJi e),fun x d hd=>c.apart hcs I (hf b hb).2.2.2.2.1 (lJi e) hd⟩
  ·rcases (hf b hb).2.2.2.1 with z | z
   ·exact I.ok.noex b o e z
   ·exact absurd (lJ9 (lJi e) I.ok.bsz) (Nat.not_lt.mpr z)
  ·rcases lJr.mp (I.stkSub b hz) with z | z
   ·exact (hf b hb).2.1 z
   ·exact (hf b hb).2.2.1 z
 refine⟨ok,rfl,I.bare,Un.kept hk,⟨_,hns,fun i x v h1 h2 h3=> ?_⟩,fun x d hd=> ?_,I.hok.fresh (lJg _),fun x d hd=> ?_,fun p hp=>absurd (show p∈([]:List (Addr×Obj)) from hp) (by simp),I.hok.kept hk,?_⟩
 ·obtain⟨m1,m2⟩:=jZs h2
  obtain⟨nl,nc⟩:=c.local h1 m1
  have fr:scope.names.lookup x=some .free:=by
   rcases h3 with z | z
   ·exact absurd (jKv (env:=X.env) z) nl
   ·exact (jYi (scope:=scope) (env:=X.env) z).elim id fun q=>absurd q nc
  have hkk:=c.free fr
  obtain⟨m,hn,hl⟩:=I.loc
  have vis:Vis X.env.scope x:=by rcases hkk with z | z;exact .inr (.inl z);exact .inr (.inr z)
  obtain⟨u,ru,lk⟩:=hl i x v h1 m2 vis
  refine⟨u,ru,?_⟩
  rcases lk with ⟨z,_⟩ | ⟨_,d,hd,cd⟩
  ·exfalso;rcases hkk with q | q<;>(rw[z] at q;cases q)
  ·obtain⟨d',hd'⟩:=jVj c.cl fr
   have:d'=d:=by have:=sub _ _ hd';rw[hd] at this;exact (lJ2 this).symm
   subst this
   refine .inr ⟨?_,d',fre x d' fr hd',cd.keeps hk⟩
   rcases h3 with z | z
   ·exact absurd (jKv (env:=X.env) z) nl
   ·exact z
 ·rcases c.two hd with z | ⟨_,z⟩
  ·exact⟨none,(hcs.empty _ _ (lK4 z)).1⟩
  ·obtain⟨v,hv⟩:=I.cell x d (sub _ _ z)
   exact⟨v,hv.keeps hk⟩
 ·rcases c.two hd with z | ⟨_,z⟩
  ·exact I.hok.fresh (lX1 (new _ _ z))
  ·exact I.freeC x d (sub _ _ z)
 ·exact (jUr (c.len.trans I.len.symm)).trans I.len
theorem qXh {pins:List (Addr×Obj)} {σ σ':L2.St} {H H':Hp} {s s':Shared} {fp:List Addr} {pl:List (Addr×Obj)} {C:Addr} (I:Inv X pins σ H s) (hf:∀b∈fp,FpOk X pins H b) (hC:s.heap.objs.size<=C)
  (J:Inv (jK9 X scope cl C fp s H) pl σ' H' s') {h':Heap} (hb:Heap.SameBut C s'.heap h'):Inv X pins σ H' {s' with heap:=h'}:=by
 have ne:∀b o,s.heap.get? b=some o->b≠C:=fun b o e=>lJm (lJ9 (lJi e) hC)
 have u:=J.base
 have hfree:H' C=none:=J.free
 have u':Un (frs X.stack) fp H H' s.heap h':=⟨fun b o e n hb' hx=>(hb.2 b (ne b o e)).trans (u.keep b o e n hb' hx),fun b o e n hb' hx=>let ⟨sl,z⟩:=u.slot b o e n hb' hx;⟨sl,(hb.2 b (ne b o e)).trans z⟩,
  u.free,fun b o e hx=>let ⟨o',z⟩:=u.there b o e hx;⟨o',(hb.2 b (ne b o e)).trans z⟩,u.tups,u.frzs,u.tbls⟩
 have hok:HOk X.prog X.w H' h':=fun b ob e=>(J.hok b ob e).stay (fun c w' hc q=>(hb.2 c (by
  rintro rfl
  rcases hc with rfl | hc
  ·rw[hfree] at e;cases e
  ·rw[hfree] at hc;cases hc)).trans q) (fun _ q=>q) fun _ _ q=>q
 exact I.call' (s':={s' with heap:=h'}) J.os u' hok J.bare fun b hb=>⟨(hf b hb).2.2.2.1,(hf b hb).2.1,(hf b hb).2.2.2.2.1,(hf b hb).2.2.2.2.2⟩
end
section
variable {X:Cx} {scope:Scope} {cl:List (Str×Addr)} {mask:List Bool} {elt iter tg:Expr} {ifs:List Expr} {pos:Pos} {wi:TI3} {g:TG3} {tif:TT3} {te:TE3}
theorem kV5 (hc:X.calm=true) (ok:CmpOkC X scope cl mask)
  (hgk:kUp mask g) (hg:∀C fp s H,PG3 (jK9 X scope cl C fp s H) tg g) (hif:∀C fp s H,PIf3 (jK9 X scope cl C fp s H) ifs tif) (he:∀C fp s H,PE3 (jK9 X scope cl C fp s H) elt te)
  {pins:List (Addr×Obj)} {τ:St3} {H:Hp} {Q:VK3} {itv:Value} {s2:Shared} {E:Value->Shared->Prop} {RR:Value->Addr->Result->Shared->Prop}
  (h2:PIE3 X pins τ H tg (fun xs stay G=>kKg mask g tif te τ xs stay G Q) itv s2)
  (hRR:∀D C s' m,s'.heap.Ns C m->(∃G1 H1,Ext H H1/\H1 C=none/\Q (.ref D) G1/\∀h',Heap.SameBut C s'.heap h'->Inv3 X pins τ G1 H1 {s' with heap:=h'})->(∃oC,s'.heap.get? C=some oC/\C≠X.env.locals/\C∉X.fs/\∀v,oC.data≠ .cell v)->(∀x c,X.env.cells.lookup x=some c->c≠C)->(∀p∈X.pn++pins,p.1≠C)->X.s₀.heap.objs.size<=C->RR (.ref D) C (.ok .next) s'):
  wpAny (model X.prog X.w) X.A (newList []) (fun acc s₃=>wpAny (model X.prog X.w) X.A (newFunctionEnv scope X.env.globals cl [] X.env.qual none .none (some X.env)) (fun cenv s₄=>
   codeAny (model X.prog X.w) X.A (.compStart (.ListComp elt [⟨tg,iter,ifs,0⟩] scope pos) 0 itv acc {cenv with scope:=relabel scope X.env}) (RR acc cenv.locals) s₄) E s₃) E s2:=by
 obtain⟨it,fp,tn,J,xs,stay,G2,H2,e,eH,⟨σ,I2,hs2,hg2⟩,T0,st2,f2,IT,hq⟩:=h2
 subst e
 refine lK0 (jU1 fun h4 hns hk4 hcs=> ?_)
 dsimp only at hns hk4 hcs ⊢
 have hD:H2 s2.heap.objs.size=none:=I2.hok.fresh (lJg _)
 generalize hs3:({s2 with heap:=s2.heap.push {cls:= .type "list",dict:=none,data:= .seq ([]:List Value).toArray} }:Shared)=s3
 have eh3:s2.heap.push {cls:= .type "list",dict:=none,data:= .seq ([]:List Value).toArray}=s3.heap:=by rw[<-hs3]
 have I3:Inv X pins σ (upd H2 s2.heap.objs.size (.lst [])) s3:=by
  rw[<-hs3]
  exact I2.laid (t':=s2.toks) (fun b u e=>lJk _ e) (lJg _) ⟨lJz _,[],0,.nil,lJ0 _ rfl⟩
 rw[eh3] at hns hk4 hcs ⊢
 generalize hDd:s2.heap.objs.size=D at *
 have e3:Ext H2 (upd H2 D (.lst [])):= .upd (.none hD)
 have hg3:GRel X.K (upd H2 D (.lst [])) (gup G2 D (.lst [])):=hg2.lstNew (show Reps X.K H2 [] [] from rfl) (.none hD)
 have obj2:∀b∈fp,∃o,s2.heap.get? b=some o:=fun b hb=>let ⟨o,e,_⟩:=T0.obj 0 _ st2 b hb;⟨o,e⟩
 have fD:∀b∈fp,b≠D:=fun b hb=>by obtain⟨o,e⟩:=obj2 b hb;rw[<-hDd];exact lJm (lJi e)
 have f3:∀b∈fp,FpOk X pins (upd H2 D (.lst [])) b:=fun b hb=>⟨by rw[jJ1 (fD b hb)];exact (f2 b hb).1,(f2 b hb).2⟩
 have k3:∀b o,s2.heap.get? b=some o->s3.heap.get? b=some o:=fun b o e=>by rw[<-eh3];exact lJk _ e
 have obj3:∀b∈fp,∃o,s3.heap.get? b=some o:=fun b hb=>let ⟨o,e⟩:=obj2 b hb;⟨o,k3 b o e⟩
 have k4:∀b o,s3.heap.get? b=some o->h4.get? b=some o:=hk4
 have Ic:Inv (jK9 X scope cl s3.heap.objs.size fp s3 (upd H2 D (.lst []))) [] (msk mask σ) (upd H2 D (.lst [])) {s3 with heap:=h4,toks:=s3.toks}:=kZv ok I3 f3 obj3 hns k4 hcs
 have st4:tn 0 h4:=T0.keep _ _ _ st2 fun b _ o e=>k4 b o (k3 b o e)
 have hl3:mask.length=τ.length:=ok.len.trans (I3.len.symm.trans hs2.1)
 obtain⟨P,p0,hst,turn,fin⟩:=hq D (hg2.fresh hD)
 have fpc:∀ {H':Hp} {pl:List (Addr×Obj)},(∀b∈fp,H' b=none)->(∀p∈pl,p.1∉fp)->∀b∈fp,FpOk (jK9 X scope cl s3.heap.objs.size fp s3 (upd H2 D (.lst []))) pl H' b:=fun {H' pl} hn hp b hb=>by
  obtain⟨o,e⟩:=obj3 b hb
  refine⟨hn b hb,lJm (lJi e),?_,.inl hb,fun x d hd=>ok.apart hcs I3 (f3 b hb).2.2.2.2.1 (lJi e) hd,fun p hpp z=> ?_⟩
  ·intro z
   rcases lJr.mp (I3.stkSub b z) with q | q
   ·exact (f3 b hb).2.1 q
   ·exact (f3 b hb).2.2.1 q
  ·have hpp':p∈pl:=by simpa[jK9] using hpp
   exact hp p hpp' (z▸hb)
 have loop:∀s4:Shared,s4={s3 with heap:=h4,toks:=s3.toks}->
   codeAny (model X.prog X.w) X.A (.compLoop (.ListComp elt [⟨tg,iter,ifs,0⟩] scope pos) 0 (.ref it) (.ref D) (compEnvC scope (cellsFrom (s3.heap.objs.size+1) scope.names cl) s3.heap.objs.size X.env)) (RR (.ref D) s3.heap.objs.size) s4:=by
  rintro s4 rfl
  refine kQ7 (fun n s'=>∃i acc G' H',n=xs.length-i/\i<=xs.length/\Ext H2 H'/\Inv3 (jK9 X scope cl s3.heap.objs.size fp s3 (upd H2 D (.lst []))) [] (msk mask τ) G' H' s'/\tn i s'.heap/\(∀b∈fp,H' b=none)/\P i acc G') ?_ xs.length
   ⟨0,[],_,_,rfl,lJz _,e3,⟨_,Ic,kKy (hs2.mono e3) hl3,hg3⟩,st4,fun b hb=>(f3 b hb).1,p0⟩
  rintro n s5 ⟨i,acc,G5,H5,en,hi5,e5,⟨σ5,I5,hs5,hg5⟩,st5,fr5,p5⟩
  obtain⟨hstay,hacc⟩:=hst i acc G5 hi5 p5
  obtain⟨go,stop,yl⟩:=IT i H5 G5 e5 hg5 hstay
  by_cases hlt:i<xs.length
  ·refine thn (T0.item (jK9 X scope cl s3.heap.objs.size fp s3 (upd H2 D (.lst []))) rfl rfl rfl hc i [] s5 σ5 H5 (fun _ _=>False) I5 (fpc fr5 (by simp)) st5 (go hlt)) fun r s6 ⟨u,hr,h6⟩=> ?_
   subst hr
   refine thn h6 fun _ s7 ⟨x,H7,I7,r7,y7,st7,fr7⟩=> ?_
   obtain⟨e7,g7,t,ht,rt⟩:=yl hlt x H7 y7
   have I7':=I7.pinned (fpc fr7 (by simp)) (T0.obj _ _ st7)
   refine thn (hg _ _ _ _ ([]++jQq fp s7.heap) s7 (msk mask τ) G5 H7 t u _ ⟨σ5,I7',hs5.mono e7,g7⟩ ⟨x,rt,r7⟩ (hgk _ _ _ _ (turn i t acc G5 ht p5))) fun _ s8 ⟨τ8,G8,H8,e8,I8,q8,ql8,qk8⟩=> ?_
   refine thn (hif _ _ _ _ ([]++jQq fp s7.heap) s8 τ8 G8 H8 _ I8 q8) fun b s9 ⟨G9,H9,e9,I9,q9⟩=> ?_
   have back:∀ {Ga:Gp} {Ha:Hp} {sa:Shared} {acc':List T},Ext H7 Ha->Inv3 (jK9 X scope cl s3.heap.objs.size fp s3 (upd H2 D (.lst []))) ([]++jQq fp s7.heap) τ8 Ga Ha sa->P (i+1) acc' Ga->
     ∃m,m<n/\∃i acc G' H',m=xs.length-i/\i<=xs.length/\Ext H2 H'/\Inv3 (jK9 X scope cl s3.heap.objs.size fp s3 (upd H2 D (.lst []))) [] (msk mask τ) G' H' sa/\tn i sa.heap/\(∀b∈fp,H' b=none)/\P i acc G':=by
    rintro Ga Ha sa acc' ea ⟨σa,Ia,hsa,hga⟩ pa
    have e2a:Ext H5 Ha:=e7.trans ea
    have hla:mask.length=τ8.length:=by rw[ql8,jUr hl3];exact hl3
    have hsm:=kKy (mask:=mask) hsa hla
    rw[kXw hl3 ql8 qk8] at hsm
    refine⟨xs.length-(i+1),by omega,i+1,acc',Ga,Ha,rfl,hlt,e5.trans e2a,⟨msk mask σa,(Ia.weak (jUr (hla.trans hsa.1.symm)) fun j v hv=>(jZs hv).2).pins_of (fun p hp=>absurd hp (by simp)),hsm,hga⟩,?_,fun b hb=> ?_,pa⟩
    ·exact T0.keep _ _ _ st7 fun b hb o e=>(Ia.pin (b,o) (lJ3 _ (lJ3 _ (jQl hb e)))).1
    ·obtain⟨o,e,d⟩:=T0.obj _ _ st7 b hb
     exact (Ia.pin (b,o) (lJ3 _ (lJ3 _ (jQl hb e)))).2.1
   cases b with
   | false=>
    rw[lJb lJs] at q9 ⊢
    exact back (e8.trans e9) I9 q9
   | true=>
    rw[lJc rfl] at q9 ⊢
    refine thn (he _ _ _ _ ([]++jQq fp s7.heap) s9 τ8 G9 H9 _ I9 q9) fun y s10 w_=>w_.el fun ty G10 H10 e10 I10 r10 ⟨hD10,hz10,q10⟩=> ?_
    obtain⟨vy,rvy,ruy⟩:=r10
    refine thn (jKx ([]++jQq fp s7.heap) s10 τ8 G10 H10 (.ref D) [ty] (.ref D) [y] (fun _ G'=>P (i+1) (acc++[ty]) G') I10 ⟨.ref D,rfl,rfl⟩ ⟨[vy],.one rvy,.cons ruy .nil⟩ ⟨D,acc,ty,rfl,rfl,hD10,hz10,q10⟩) fun _ s11 w_=>w_.el fun _ G11 H11 e11 I11 _ q11=> ?_
    exact back (((e8.trans e9).trans e10).trans e11) I11 q11
  ·have ei:i=xs.length:=by omega
   refine thn (T0.done (jK9 X scope cl s3.heap.objs.size fp s3 (upd H2 D (.lst []))) rfl rfl rfl hc i [] s5 σ5 H5 (fun _ _=>False) I5 (fpc fr5 (by simp)) st5 (stop (by omega))) fun r s6 ⟨hr,I6⟩=> ?_
   subst hr;subst ei
   obtain⟨m,hn,_⟩:=I6.loc
   obtain⟨oC,es,ep,hoC,hdC,_⟩:=id hn
   refine hRR D s3.heap.objs.size s6 m hn ⟨G5,H5,eH.trans e5,I6.free,fin acc G5 p5,fun h' hb=>⟨σ,qXh I3 f3 (lJg _) I6 hb,hs2.mono e5,hg5⟩⟩
    ⟨oC,hoC,lK7 I3.lt,I3.nofs (lJg _),fun v z=>by rw[hdC] at z;cases z⟩ (fun x d hd=> ?_) (fun p hp=> ?_) I3.sz
   ·obtain⟨v,q⟩:=I3.cell x d hd
    exact lJm q.lt
   ·exact lJm (lJi (I3.pin p hp).1)
 exact codeAny_compStart_list (loop _ (by rw[<-hs3])) (T0.self _ 0 _ _ _ st4 (loop _ (by rw[<-hs3])))
theorem uJk (hc:X.calm=true) (ok:CmpOkC X scope cl mask) (hi:PI3 X tg iter wi) (hgk:kUp mask g) (hg:∀C fp s H,PG3 (jK9 X scope cl C fp s H) tg g) (hif:∀C fp s H,PIf3 (jK9 X scope cl C fp s H) ifs tif) (he:∀C fp s H,PE3 (jK9 X scope cl C fp s H) elt te)
  (hs:∀x,foldedSetIterable iter X.env x=pure x:=by intro _;rfl):PE3 X (.ListComp elt [⟨tg,iter,ifs,0⟩] scope pos) (jKp mask wi g tif te):=by
 intro pins s τ G H Q I h
 rw[eval_ListComp]
 refine lZg (use:=none) rfl hs (jYg ok.cl) ok.kind ok.nm (thn (hi pins s τ G H _ I h) fun xv s1 h1=>thn h1 fun itv s2 h2=> ?_)
 refine kV5 (RR:=fun acc C=>compPost (model X.prog X.w) X.A X.xe none (EP3 X pins τ H Q) acc C) hc ok hgk hg hif he h2 ?_
 rintro D C s' m hn ⟨G1,H1,e1,_,q1,hI⟩ _ _ _ _
 exact⟨m,hn,fun h' hb=>⟨.ref D,G1,H1,e1,hI h' hb,⟨.ref D,rfl,rfl⟩,q1⟩⟩
end
end L3
namespace L3
open PySem
def itr {α:Type} (f:α->α):Nat->α->α
 | 0,a=>a
 | n+1,a=>itr f n (f a)
theorem jQs {α:Type} (f:α->α):∀(m n:Nat) (a:α),itr f (m+n) a=itr f n (itr f m a)
 | 0,n,a=>by rw[lV0];rfl
 | m+1,n,a=>by rw[Nat.add_right_comm];exact jQs f m n (f a)
theorem jYy {α:Type} (f:α->α) (n:Nat) (a:α):itr f (n+1) a=f (itr f n a):=jQs f n 1 a
namespace St
open SetTable
theorem getD_at {xs:Array Nat} {k d:Nat} (h:k<xs.size):xs.getD k d=xs[k]:=by simp[Array.getD,h]
theorem qZ8 (xs:Array Nat) (j:Nat) (hs:∀a b:Nat,a<b->∀(hb:b<xs.size),xs.getD a 0<xs[b]):∀(fuel lo hi:Nat),hi<=xs.size->lo<=hi->hi-lo<=fuel->(∀k,k<lo->xs.getD k 0<j)->(∀k (h:k<xs.size),hi<=k->j<=xs[k])->
  (below.go xs j fuel lo hi)<=xs.size/\(∀k,k<below.go xs j fuel lo hi->xs.getD k 0<j)/\(∀k (h:k<xs.size),below.go xs j fuel lo hi<=k->j<=xs[k])
 | 0,lo,hi,h1,h2,h3,h4,h5=>by
  have e:hi=lo:=by omega
  subst e
  exact⟨h1,h4,h5⟩
 | fuel+1,lo,hi,h1,h2,h3,h4,h5=>by
  unfold below.go
  by_cases c:lo<hi
  ·rw[lJc c]
   have hm:(lo+hi) / 2<xs.size:=by omega
   by_cases d:xs.getD ((lo+hi) / 2) j<j
   ·simp only[d,lKh]
    refine qZ8 xs j hs fuel _ hi h1 (by omega) (by omega) (fun k hk=> ?_) h5
    rw[getD_at hm] at d
    by_cases e:k=(lo+hi) / 2
    ·subst e;rw[getD_at hm];exact d
    ·exact lQ6 (hs k _ (by omega) hm) d
   ·simp only[d,lJ6]
    refine qZ8 xs j hs fuel lo _ (by omega) (by omega) (by omega) h4 fun k h hk=> ?_
    rw[getD_at hm] at d
    by_cases e:k=(lo+hi) / 2
    ·subst e;omega
    ·have:=hs ((lo+hi) / 2) k (by omega) h
     rw[getD_at hm] at this
     omega
  ·rw[lJb c]
   have e:hi=lo:=by omega
   subst e
   exact⟨h1,h4,h5⟩
def Ris (xs:Array Nat):Prop:=xs.toList.Pairwise (· < ·)
theorem Ris.lt {xs:Array Nat} (h:Ris xs) (a b:Nat) (hab:a<b) (hb:b<xs.size):xs.getD a 0<xs[b]:=by
 rw[getD_at (by omega)]
 have:=lX2.mp h a b (by simpa using (by omega:a<xs.size)) (by simpa using hb) hab
 simpa using this
theorem jY2 {xs:Array Nat} (h:Ris xs) (j:Nat):below xs j<=xs.size/\(∀k,k<below xs j->xs.getD k 0<j)/\(∀k (h:k<xs.size),below xs j<=k->j<=xs[k]):=
 qZ8 xs j h.lt xs.size 0 xs.size (lJg _) (lJz _) (lJg _) (fun k hk=>absurd hk (lK5 _)) fun k h1 h2=>absurd h1 (by omega)
theorem qXj {xs:Array Nat} (h:Ris xs) {i:Nat} (hi:i<xs.size):below xs xs[i]=i:=by
 obtain⟨h1,h2,h3⟩:=jY2 h xs[i]
 rcases lV1 (below xs xs[i]) i with c | c | c
 ·have a:=h3 (below xs xs[i]) (by omega) (lJg _)
  have b:=h.lt _ i c hi
  rw[getD_at (by omega)] at b
  omega
 ·exact c
 ·have:=h2 i c
  rw[getD_at hi] at this
  omega
theorem below_next {xs:Array Nat} (h:Ris xs) {i:Nat} (hi:i<xs.size):below xs (xs[i]+1)=i+1:=by
 obtain⟨h1,h2,h3⟩:=jY2 h (xs[i]+1)
 rcases lV1 (below xs (xs[i]+1)) (i+1) with c | c | c
 ·have:=h3 i hi (by omega)
  omega
 ·exact c
 ·have a:=h2 (i+1) c
  have hi1:i+1<xs.size:=by omega
  rw[getD_at hi1] at a
  have b:=h.lt i (i+1) (by omega) hi1
  rw[getD_at hi] at b
  omega
theorem below_zero {xs:Array Nat} (h:Ris xs):below xs 0=0:=by
 obtain⟨h1,h2,h3⟩:=jY2 h 0
 rcases Nat.eq_zero_or_pos (below xs 0) with c | c
 ·exact c
 ·exact absurd (h2 0 c) (lK5 _)
theorem insertAt_ris {xs:Array Nat} (h:Ris xs) {j:Nat} (hj:j∉xs.toList):Ris (insertAt xs (below xs j) j):=by
 obtain⟨h1,h2,h3⟩:=jY2 h j
 unfold Ris
 rw[SetTable.toList_insertAt,lKk,lYq]
 have up:∀b,b∈xs.toList.drop (below xs j)->j<b:=by
  intro b hb
  obtain⟨k,hk,e⟩:=lXk hb
  rw[lXt] at hk
  rw[List.getElem_drop] at e
  have hk':below xs j+k<xs.size:=by simp at hk;omega
  have:=h3 _ hk' (by omega)
  have e':xs[below xs j+k]=b:=by simpa using e
  have ne:b≠j:=fun z=>hj (z▸lVo hb)
  omega
 have dn:∀a,a∈xs.toList.take (below xs j)->a<j:=by
  intro a ha
  obtain⟨k,hk,e⟩:=lXk ha
  rw[lQg] at hk
  rw[lYr] at e
  have:=h2 k (by omega)
  rw[getD_at (by simp at hk;omega)] at this
  have e':xs[k]'(by simp at hk;omega)=a:=by simpa using e
  omega
 refine⟨List.Pairwise.sublist (lQ3 _ _) h,⟨up,List.Pairwise.sublist (lVb _ _) h⟩,?_⟩
 intro a ha b hb
 (rcases lJr.mp hb with rfl | hb)
 ·exact dn a ha
 ·exact lQ6 (dn a ha) (up b hb)
theorem has_nil (j:Nat):has #[] j=false:=rfl
theorem slot_cases {t:SetTable} (hd:t.dummies= #[]) (j:Nat):(t.slot j= .empty/\(Ris t.place->j∉t.place.toList))\/∃i,t.slot j= .live i/\∃h:i<t.place.size,t.place[i]=j/\i=below t.place j:=by
 unfold SetTable.slot
 by_cases c:(t.place[below t.place j]? == some j)=true
 ·right
  refine⟨below t.place j,?_,?_⟩
  ·simp only[c,lKh]
  ·have c':=eq_of_beq c
   obtain⟨h,e⟩:=lY9.mp c'
   exact⟨h,e,rfl⟩
 ·left
  refine⟨?_,fun hr hm=> ?_⟩
  ·rw[hd]
   simp only[c,has_nil,lKf,lJ6]
  ·obtain⟨k,hk,e⟩:=lXk hm
   have hk':k<t.place.size:=by simpa using hk
   have e':t.place[k]=j:=by simpa using e
   apply c
   rw[<-e',qXj hr hk',lK3 hk']
   exact lYj _
theorem slot_empty {t:SetTable} (hd:t.dummies= #[]) {j:Nat} (h:j∉t.place.toList):t.slot j= .empty:=by
 rcases slot_cases hd j with c | ⟨i,_,hi,e,_⟩
 ·exact c.1
 ·exact absurd (by rw[<-e];simp) h
theorem qJt (mask i:Nat):runEnd mask i-i<=9:=by unfold runEnd;split<;>omega
def kJ8 (t:SetTable) (p:Probe):Prop:=p.j=p.i/\p.more=runEnd t.mask p.i-p.i
theorem jY4 (t:SetTable):∀(m:Nat) (p:Probe),m<=p.more->itr t.advance m p={p with j:=p.j+m,more:=p.more-m}
 | 0,p,_=>by cases p;rfl
 | m+1,p,h=>by
  show itr t.advance m (t.advance p)=_
  have e:t.advance p={p with j:=p.j+1,more:=p.more-1}:=by unfold SetTable.advance;rw[lJc (by omega)]
  rw[e,jY4 t m _ (by show m<=p.more-1;omega)]
  simp only[Probe.mk.injEq,and_true,true_and]
  omega
theorem qXk (t:SetTable) (p:Probe):∃m,m<=p.more+1/\kJ8 t (itr t.advance m p)/\(itr t.advance m p).i=(leap t.mask p.i p.perturb).1/\(itr t.advance m p).perturb=p.perturb / 32:=by
 refine⟨p.more+1,lJg _,?_⟩
 rw[jYy,jY4 t p.more p (lJg _)]
 unfold SetTable.advance
 rw[lJb (by show ¬ p.more-p.more>0;omega)]
 exact⟨⟨rfl,rfl⟩,rfl,rfl⟩
def lp (mask:Nat) (x:Nat×Nat):Nat×Nat:=leap mask x.1 x.2
theorem jZ8 (t:SetTable):∀(k:Nat) (p:Probe),kJ8 t p->∃m,m<=10*k/\kJ8 t (itr t.advance m p)/\((itr t.advance m p).i,(itr t.advance m p).perturb)=itr (lp t.mask) k (p.i,p.perturb)
 | 0,p,h=>⟨0,lJg _,h,rfl⟩
 | k+1,p,h=>by
  obtain⟨m,h1,h2,h3,h4⟩:=qXk t p
  obtain⟨m',h1',h2',h3'⟩:=jZ8 t k _ h2
  have hm:p.more<=9:=by rw[h.2];exact qJt _ _
  refine⟨m+m',by omega,?_,?_⟩
  ·rw[jQs];exact h2'
  ·rw[jQs,h3',h3,h4];rfl
theorem kVp (mask:Nat):∀(k:Nat) (x:Nat×Nat),(itr (lp mask) k x).2=x.2 / 32^k
 | 0,x=>by simp[itr]
 | k+1,x=>by
  show (itr (lp mask) k (lp mask x)).2=_
  rw[kVp mask k]
  show x.2 / 32 / 32^k=_
  rw[Nat.div_div_eq_div_mul,Nat.pow_succ,Nat.mul_comm]
def five (mask i:Nat):Nat:=(i*5+1)%(mask+1)
theorem kVq (mask:Nat):∀(k i:Nat),itr (lp mask) k (i,0)=(itr (five mask) k i,0)
 | 0,i=>rfl
 | k+1,i=>by
  show itr (lp mask) k (lp mask (i,0))=_
  have e:lp mask (i,0)=(five mask i,0):=by simp[lp,leap,five]
  rw[e];exact kVq mask k _
def orb (mask:Nat):Nat->Nat->List Nat
 | 0,_=>[]
 | n+1,i=>i::orb mask n (five mask i)
theorem qKh (mask:Nat):∀(n i k:Nat),k<n->(orb mask n i)[k]? =some (itr (five mask) k i)
 | n+1,i,0,_=>rfl
 | n+1,i,k+1,h=>by
  show (orb mask n (five mask i))[k]? =_
  exact qKh mask n _ k (by omega)
theorem kVf (mask:Nat):∀(n i:Nat),(orb mask n i).length=n
 | 0,_=>rfl
 | n+1,i=>by simp[orb,kVf mask n]
theorem qZd {mask n i j:Nat} (h:j∈orb mask n i):∃k,k<n/\itr (five mask) k i=j:=by
 obtain⟨k,hk,e⟩:=lXk h
 rw[kVf] at hk
 refine⟨k,hk,?_⟩
 have:=qKh mask n i k hk
 rw[lJp (by rw[kVf];exact hk),e] at this
 (exact (lJ2 this).symm)
def Full (mask:Nat):Prop:=(∀j,j<=mask->∃k,k<=mask/\itr (five mask) k 0=j)/\itr (five mask) (mask+1) 0=0
theorem kVx {mask:Nat} (h:(List.range (mask+1)).all (fun j=>(orb mask (mask+1) 0).contains j)=true) (h0:itr (five mask) (mask+1) 0=0):Full mask:=by
 refine⟨fun j hj=> ?_,h0⟩
 rw[lKp] at h
 have:=h j (lJ7.mpr (by omega))
 obtain⟨k,hk,e⟩:=qZd (lQr.mp this)
 exact⟨k,by omega,e⟩
theorem full7:Full 7:=kVx (by decide +kernel) (by decide +kernel)
theorem full31:Full 31:=kVx (by decide +kernel) (by decide +kernel)
theorem full127:Full 127:=kVx (by decide +kernel) (by decide +kernel)
theorem Full.all {mask:Nat} (h:Full mask) {i j:Nat} (hi:i<=mask) (hj:j<=mask):∃k,k<=mask/\itr (five mask) k i=j:=by
 obtain⟨a,ha,ea⟩:=h.1 i hi
 obtain⟨b,hb,eb⟩:=h.1 j hj
 by_cases c:a<=b
 ·refine⟨b-a,by omega,?_⟩
  rw[<-ea,<-jQs,show a+(b-a)=b by omega,eb]
 ·refine⟨mask+1-a+b,by omega,?_⟩
  rw[<-ea,<-jQs,show a+(mask+1-a+b)=mask+1+b by omega,jQs,h.2,eb]
theorem qUi (h:Int):bits h<2^64:=by
 unfold bits
 have h1:=lV2 h (show (2^64:Int)≠0 by decide)
 have h2:=lV3 h (show (0:Int)<2^64 by decide)
 omega
theorem kJu (t:SetTable) (h:Int):kJ8 t (t.probeStart h):=⟨rfl,rfl⟩
theorem met {t:SetTable} (hf:Full t.mask) (h:Int) {j:Nat} (hj:j<=t.mask):∃n,n<=10*(t.mask+14)/\(itr t.advance n (t.probeStart h)).j=j:=by
 obtain⟨m,h1,h2,h3⟩:=jZ8 t 13 _ (kJu t h)
 have hp:(itr t.advance m (t.probeStart h)).perturb=0:=by
  have e:=lJ8 Prod.snd h3
  rw[kVp] at e
  refine e.trans (Nat.div_eq_of_lt (lJ9 (qUi h) (by decide)))
 have hi:(itr t.advance m (t.probeStart h)).i<=t.mask:=by
  have e:=lJ8 Prod.fst h3
  rw[jYy] at e
  have:(lp t.mask (itr (lp t.mask) 12 ((t.probeStart h).i,(t.probeStart h).perturb))).1<=t.mask:=by
   unfold lp leap
   exact lQc (Nat.mod_lt _ (lXh _))
  rw[<-e] at this
  exact this
 obtain⟨k,hk,ek⟩:=hf.all hi hj
 obtain⟨m',h1',h2',h3'⟩:=jZ8 t k _ h2
 refine⟨m+m',by omega,?_⟩
 rw[jQs,h2'.1]
 rw[hp,kVq] at h3'
 exact (lJ8 Prod.fst h3').trans ek
theorem qUm (t:SetTable) (p:Probe):(t.advance p).dummy=p.dummy:=by unfold SetTable.advance;split<;>rfl
def Miss (t:SetTable) (hashAt:Nat->Int) (h:Int) (j:Nat):Prop:=∃i,t.slot j= .live i/\hashAt i≠h
theorem pgo_ok {t:SetTable} (hd:t.dummies= #[]) (hashAt:Nat->Int) (h:Int):∀(n fuel:Nat) (p:Probe),t.slot (itr t.advance n p).j= .empty->n<fuel->p.dummy=none->
  (∃m,m<=n/\t.slot (itr t.advance m p).j= .empty/\(∀k,k<m->Miss t hashAt h (itr t.advance k p).j)/\probe.go t hashAt h fuel p=some (.empty (itr t.advance m p).j none))\/
  (∃m i,m<n/\t.slot (itr t.advance m p).j= .live i/\hashAt i=h/\(∀k,k<m->Miss t hashAt h (itr t.advance k p).j)/\probe.go t hashAt h fuel p=some (.candidate (itr t.advance m p).j i (itr t.advance (m+1) p)))
 | n,0,p,_,hn,_=>absurd hn (lK5 _)
 | n,fuel+1,p,he,hn,hp=>by
  rcases slot_cases hd p.j with ⟨c,_⟩ | ⟨i,c,_⟩
  ·left
   refine⟨0,lJz _,c,fun k hk=>absurd hk (lK5 _),?_⟩
   unfold probe.go
   rw[c,hp];rfl
  ·by_cases q:hashAt i=h
   ·right
    have n0:n≠0:=by rintro rfl;rw[show itr t.advance 0 p=p from rfl,c] at he;cases he
    refine⟨0,i,by omega,c,q,fun k hk=>absurd hk (lK5 _),?_⟩
    unfold probe.go
    simp only[c,q,lYj,lKh]
    rfl
   ·have n0:n≠0:=by rintro rfl;rw[show itr t.advance 0 p=p from rfl,c] at he;cases he
    obtain⟨n',rfl⟩:∃n',n=n'+1:=⟨n-1,by omega⟩
    have e:probe.go t hashAt h (fuel+1) p=probe.go t hashAt h fuel (t.advance p):=by
     conv=>lhs;unfold probe.go
     have q':(hashAt i == h)=false:=by simpa using q
     simp only[c,q',lKf,lJ6]
    have ih:=pgo_ok hd hashAt h n' fuel (t.advance p) he (by omega) (by rw[qUm];exact hp)
    rw[e]
    rcases ih with ⟨m,h1,h2,h3,h4⟩ | ⟨m,i',h1,h2,h3,h4,h5⟩
    ·left
     refine⟨m+1,by omega,h2,fun k hk=> ?_,h4⟩
     cases k with
     | zero=>exact⟨i,c,q⟩
     | succ k=>exact h3 k (by omega)
    ·right
     refine⟨m+1,i',by omega,h2,h3,fun k hk=> ?_,h5⟩
     cases k with
     | zero=>exact⟨i,c,q⟩
     | succ k=>exact h4 k (by omega)
end St
end L3
namespace L3
open PySem
namespace St
open SetTable
theorem fm_congr {α β:Type} {f g:α->Option β}:∀ {l:List α},(∀x,x∈l->f x=g x)->l.filterMap f=l.filterMap g
 | [],_=>rfl
 | a::l,h=>by rw[lQx,lQx,h a (lJx ..),fm_congr fun x hx=>h x (lJ1 _ hx)]
theorem jXv {g f:Nat->Option Nat} {j k:Nat} (hf:f j=none) (hg:g j=some k) (he:∀i,i≠j->g i=f i):∀ {l:List Nat},l.Nodup->j∈l->(l.filterMap g).Perm (k::l.filterMap f)
 | [],_,h=>absurd h (lKt)
 | a::l,hn,h=>by
  rw[lK2] at hn
  by_cases e:a=j
  ·subst e
   rw[lX3 hg,lZa hf]
   refine List.Perm.cons _ (List.Perm.of_eq (fm_congr fun x hx=>he x ?_))
   rintro rfl;exact hn.1 hx
  ·have ih:=jXv hf hg he hn.2 ((lJr.mp h).resolve_left (fun z=>e z.symm))
   cases q:f a with
   | none=>rw[lZa (by rw[he a e];exact q),lZa q];exact ih
   | some b=>
    rw[lX3 (by rw[he a e];exact q),lX3 q]
    exact (List.Perm.cons b ih).trans (List.Perm.swap _ _ _)
def jKs (owner:Array (Option Nat)) (j:Nat):Option Nat:=owner.getD j none
def ChainO (t:SetTable) (owner:Array (Option Nat)) (h:Int) (j:Nat):Prop:=∃n,(itr t.advance n (t.probeStart h)).j=j/\∀k,k<n->jKs owner (itr t.advance k (t.probeStart h)).j≠none
structure Own (t:SetTable) (hashes:List Int) (owner:Array (Option Nat)) (n:Nat):Prop where
 size:owner.size=t.mask+1
 perm:((List.range (t.mask+1)).filterMap (jKs owner)).Perm (List.range n)
 chain:∀j i,jKs owner j=some i->∃h,hashes[i]? =some h/\ChainO t owner h j
theorem qZp {mask:Nat} {x:Nat×Nat} (hx:x.1<=mask):∀(k:Nat),(itr (lp mask) k x).1<=mask
 | 0=>hx
 | k+1=>by
  rw[jYy]
  unfold lp leap
  exact lQc (Nat.mod_lt _ (lXh _))
theorem kU3 {mask i:Nat} (h:i<=mask):runEnd mask i<=mask:=by unfold runEnd;split<;>omega
theorem qJu (mask i:Nat):i<=runEnd mask i:=by unfold runEnd;split<;>omega
theorem qQm {t:SetTable} {owner:Array (Option Nat)} (hz:owner.size=t.mask+1):∀(fuel:Nat) (p:Probe),kJ8 t p->p.i<=t.mask->∀K,K<fuel->jKs owner (itr (lp t.mask) K (p.i,p.perturb)).1=none->
  ∃n j,layClean.free t.mask owner fuel p.i p.perturb=some j/\(itr t.advance n p).j=j/\j<=t.mask/\jKs owner j=none/\∀k,k<n->jKs owner (itr t.advance k p).j≠none
 | 0,p,_,_,K,hK,_=>absurd hK (lK5 _)
 | fuel+1,p,hl,hi,K,hK,he=>by
  have hr:=kU3 hi
  have hg:=qJu t.mask p.i
  have sl:∀k,k<runEnd t.mask p.i+1-p.i->((owner.getD (p.i+k) (some 0)).isNone=true↔jKs owner (p.i+k)=none):=by
   intro k hk
   unfold jKs
   have:p.i+k<owner.size:=by omega
   simp[Array.getD,this]
  have pj:∀k,k<runEnd t.mask p.i+1-p.i->(itr t.advance k p).j=p.i+k:=by
   intro k hk
   rw[jY4 t k p (by rw[hl.2];omega)]
   show p.j+k=_
   rw[hl.1]
  unfold layClean.free
  cases q:(List.range (runEnd t.mask p.i+1-p.i)).find? (fun k=>(owner.getD (p.i+k) (some 0)).isNone) with
  | some k=>
   obtain⟨h1,as,bs,h2,h3⟩:=List.find?_eq_some_iff_append.mp q
   have hk:k<runEnd t.mask p.i+1-p.i:=by
    have:k∈List.range (runEnd t.mask p.i+1-p.i):=by rw[h2];simp
    exact lJ7.mp this
   have ha:∀x,x<k->x∈as:=by
    intro x hx
    have e:as.length=k:=by
     have e1:(List.range (runEnd t.mask p.i+1-p.i))[as.length]? =some k:=by rw[h2];simp
     rw[lX4 (by have:=lJ8 List.length h2;simp at this;omega)] at e1
     exact lJ2 e1
    have e2:(List.range (runEnd t.mask p.i+1-p.i))[x]? =as[x]? :=by rw[h2,lKi (by omega)]
    rw[lX4 (by omega)] at e2
    exact lJu e2.symm
   refine⟨k,p.i+k,rfl,pj k hk,by omega,(sl k hk).mp h1,fun x hx=> ?_⟩
   rw[pj x (by omega)]
   intro z
   have:=h3 x (ha x hx)
   rw[(sl x (by omega)).mpr z] at this
   exact absurd this (by decide)
  | none=>
   have none_:∀k,k<runEnd t.mask p.i+1-p.i->jKs owner (p.i+k)≠none:=by
    intro k hk z
    have:=lYs.mp q k (lJ7.mpr hk)
    exact this ((sl k hk).mpr z)
   have K0:K≠0:=by
    rintro rfl
    exact none_ 0 (by omega) he
   obtain⟨K',rfl⟩:∃K',K=K'+1:=⟨K-1,by omega⟩
   have hm:p.more=runEnd t.mask p.i-p.i:=hl.2
   have e1:itr t.advance (p.more+1) p={p with j:=(leap t.mask p.i p.perturb).1,more:=runEnd t.mask (leap t.mask p.i p.perturb).1-(leap t.mask p.i p.perturb).1,i:=(leap t.mask p.i p.perturb).1,perturb:=(leap t.mask p.i p.perturb).2}:=by
    rw[jYy,jY4 t p.more p (lJg _)]
    unfold SetTable.advance
    rw[lJb (by show ¬ p.more-p.more>0;omega)]
   have hl2:kJ8 t (itr t.advance (p.more+1) p):=by rw[e1];exact⟨rfl,rfl⟩
   have hi2:(itr t.advance (p.more+1) p).i<=t.mask:=by
    rw[e1];exact lQc (Nat.mod_lt _ (lXh _))
   obtain⟨n,j,g1,g2,g3,g4,g5⟩:=qQm hz fuel _ hl2 hi2 K' (by omega) (by rw[e1];exact he)
   refine⟨p.more+1+n,j,?_,?_,g3,g4,fun k hk=> ?_⟩
   ·rw[e1] at g1;exact g1
   ·rw[jQs];exact g2
   ·by_cases c:k<p.more+1
    ·rw[pj k (by omega)];exact none_ k (by omega)
    ·have:=g5 (k-(p.more+1)) (by omega)
     rw[<-jQs,show p.more+1+(k-(p.more+1))=k by omega] at this
     exact this
theorem jXe {owner:Array (Option Nat)} {j k:Nat} (hj:j<owner.size) (i:Nat):jKs (owner.setIfInBounds j (some k)) i=if i=j then some k else jKs owner i:=by
 unfold jKs
 rw[lXl,lXl,lYt]
 by_cases e:j=i
 ·subst e;simp[hj]
 ·rw[lJb e,lJb (fun z=>e z.symm)]
theorem qQl {t:SetTable} (hf:Full t.mask) {owner:Array (Option Nat)} {hashes:List Int} {n:Nat} (o:Own t hashes owner n) (hn:n<=t.mask) (h:Int):∃K,K<turns t.mask/\jKs owner (itr (lp t.mask) K ((t.probeStart h).i,(t.probeStart h).perturb)).1=none:=by
 have hex:∃j,j<=t.mask/\jKs owner j=none:=by
  apply lVv
  intro q
  have all:∀j,j∈List.range (t.mask+1)->(jKs owner j).isSome=true:=by
   intro j hj
   cases e:jKs owner j with
   | none=>exact absurd ⟨j,by have:=lJ7.mp hj;omega,e⟩ q
   | some _=>rfl
  have len:∀l:List Nat,(∀j,j∈l->(jKs owner j).isSome=true)->(l.filterMap (jKs owner)).length=l.length:=by
   intro l hl
   induction l with
   | nil=>rfl
   | cons a l ih=>
    obtain⟨b,hb⟩:=lXc.mp (hl a (lJx ..))
    rw[lX3 hb,lJ5,lJ5,ih fun j hj=>hl j (lJ1 _ hj)]
  have:=o.perm.length_eq
  rw[len _ all,lKw,lKw] at this
  omega
 obtain⟨j,hj,e⟩:=hex
 have hs:(t.probeStart h).i<=t.mask:=lQc (Nat.mod_lt _ (lXh _))
 have h13:=kVp t.mask 13 ((t.probeStart h).i,(t.probeStart h).perturb)
 have z:(t.probeStart h).perturb / 32^13=0:=Nat.div_eq_of_lt (lJ9 (qUi h) (by decide))
 obtain⟨k,hk,ek⟩:=hf.all (qZp (x:=((t.probeStart h).i,(t.probeStart h).perturb)) hs 13) hj
 refine⟨13+k,by unfold turns;omega,?_⟩
 rw[jQs]
 generalize hy:itr (lp t.mask) 13 ((t.probeStart h).i,(t.probeStart h).perturb)=y at h13 ek
 obtain⟨y1,y2⟩:=y
 have y0:y2=0:=h13.trans z
 subst y0
 rw[kVq,ek]
 exact e
theorem qVk {t:SetTable} (hf:Full t.mask) {owner:Array (Option Nat)} {hashes:List Int} {n:Nat} {h:Int} (o:Own t hashes owner n) (hn:n<t.mask+1) (hh:hashes[n]? =some h) (hn':n<=t.mask):
  ∃j,layClean.free t.mask owner (turns t.mask) (bits h%(t.mask+1)) (bits h)=some j/\Own t hashes (owner.setIfInBounds j (some n)) (n+1):=by
 obtain⟨K,hK,eK⟩:=qQl hf o hn' h
 have hs:(t.probeStart h).i<=t.mask:=lQc (Nat.mod_lt _ (lXh _))
 obtain⟨m,j,g1,g2,g3,g4,g5⟩:=qQm o.size (turns t.mask) (t.probeStart h) (kJu t h) hs K hK eK
 have hj:j<owner.size:=by rw[o.size];omega
 have grow:∀i,jKs owner i≠none->jKs (owner.setIfInBounds j (some n)) i≠none:=by
  intro i hi
  rw[jXe hj]
  split
  ·simp
  ·exact hi
 refine⟨j,g1,by rw[lZb];exact o.size,?_,?_⟩
 ·refine (jXv (f:=jKs owner) (j:=j) (k:=n) g4 (by rw[jXe hj,lJc rfl]) (fun i hi=>by rw[jXe hj,lJb hi]) (List.nodup_range) (lJ7.mpr (by omega))).trans ?_
  rw[lVc (n:=n)]
  exact (List.Perm.cons n o.perm).trans (List.perm_append_singleton n _).symm
 ·intro i x hx
  rw[jXe hj] at hx
  by_cases e:i=j
  ·subst e
   rw[lJc rfl] at hx;cases hx
   exact⟨h,hh,m,g2,fun k hk=>grow _ (g5 k hk)⟩
  ·rw[lJb e] at hx
   obtain⟨h',e1,n',e2,e3⟩:=o.chain i x hx
   exact⟨h',e1,n',e2,fun k hk=>grow _ (e3 k hk)⟩
theorem qKg (t:SetTable) (hashes:List Int):Own t hashes (Array.replicate (t.mask+1) none) 0:=by
 have z:∀j,jKs (Array.replicate (t.mask+1) none) j=none:=by
  intro j
  unfold jKs
  rw[lXl,Array.getElem?_replicate]
  split<;>rfl
 refine⟨by simp,?_,fun j i h=>by rw[z] at h;cases h⟩
 have:(List.range (t.mask+1)).filterMap (jKs (Array.replicate (t.mask+1) none))=[]:=by
  rw[List.filterMap_eq_nil_iff];intro j _;exact z j
 rw[this];exact List.Perm.nil
theorem qQn {t:SetTable} (hf:Full t.mask) (all:List Int) (hn:all.length<=t.mask):∀(l:List Int) (done:List Int) (owner:Array (Option Nat)),all=done++l->Own t all owner done.length->
  ∃owner',l.foldl (fun (acc:Option (Array (Option Nat)×Nat)) h=>do
   let (owner,k) <-acc
   let j <-layClean.free t.mask owner (turns t.mask) (bits h%(t.mask+1)) (bits h)
   pure (owner.setIfInBounds j (some k),k+1)) (some (owner,done.length))=some (owner',all.length)/\Own t all owner' all.length
 | [],done,owner,e,o=>by
  rw[lQb] at e;subst e
  exact⟨owner,rfl,o⟩
 | h::l,done,owner,e,o=>by
  have hlt:done.length<all.length:=by rw[e];simp
  obtain⟨j,h1,o'⟩:=qVk (h:=h) hf o (by omega) (by rw[e];simp) (by omega)
  have e':all=(done++[h])++l:=by rw[e];simp
  obtain⟨owner',h2,h3⟩:=qQn hf all hn l (done++[h]) _ e' (by simpa using o')
  refine⟨owner',?_,h3⟩
  rw[lXf]
  have:(do
   let (owner,k) <-some (owner,done.length)
   let j <-layClean.free t.mask owner (turns t.mask) (bits h%(t.mask+1)) (bits h)
   pure (owner.setIfInBounds j (some k),k+1))=some (owner.setIfInBounds j (some done.length),done.length+1):=by
   show (layClean.free t.mask owner (turns t.mask) (bits h%(t.mask+1)) (bits h)).bind _=_
   rw[h1];rfl
  rw[this]
  simpa using h2
theorem kVs {t:SetTable} (hf:Full t.mask) (hashes:Array Int) (hn:hashes.size<=t.mask):∃owner,layClean t.mask hashes=some owner/\Own t hashes.toList owner hashes.size:=by
 obtain⟨owner,h1,h2⟩:=qQn hf hashes.toList (by simpa using hn) hashes.toList [] _ rfl (qKg t _)
 refine⟨owner,?_,by simpa using h2⟩
 unfold layClean
 rw[<-Array.foldl_toList]
 have h1':=h1
 simp only[lQp] at h1'
 rw[h1'];rfl
def Chain (t:SetTable) (h:Int) (j:Nat):Prop:=∃n,(itr t.advance n (t.probeStart h)).j=j/\∀k,k<n->(itr t.advance k (t.probeStart h)).j∈t.place.toList
structure Good (t:SetTable) (hs:List Int):Prop where
 len:t.place.size=hs.length
 ris:Ris t.place
 dum:t.dummies= #[]
 chain:∀x,x∈t.place.toList.zip hs->Chain t x.2 x.1
theorem laid_ok {mask:Nat} (hf:Full mask) (finger moves:Nat) (led plain:Bool) (hashes:Array Int) (hn:hashes.size<=mask):
  ∃t order,laid mask finger moves led plain hashes=some (t,order)/\t.mask=mask/\t.led=led/\t.plain=plain/\order.toList.Perm (List.range hashes.size)/\Good t (order.toList.filterMap (hashes[·]?)):=by
 let t0:SetTable:={mask:=mask,place:= #[],dummies:= #[],finger:=finger,led:=led,moves:=moves,plain:=plain}
 obtain⟨owner,h1,o⟩:=kVs (t:=t0) hf hashes hn
 have hl:layClean mask hashes=some owner:=h1
 let live:=(List.range (mask+1)).filterMap fun j=>((owner.getD j none).map (j,·))
 refine⟨{mask:=mask,place:=(live.map (·.1)).toArray,dummies:= #[],finger:=finger,led:=led,moves:=moves,plain:=plain},(live.map (·.2)).toArray,?_,rfl,rfl,rfl,?_,?_⟩
 ·unfold laid
  rw[hl];rfl
 ·have e:live.map (·.2)=(List.range (mask+1)).filterMap (jKs owner):=by
   show ((List.range (mask+1)).filterMap fun j=>(owner.getD j none).map (j,·)).map (·.2)=_
   rw[List.map_filterMap]
   refine fm_congr fun j _=> ?_
   unfold jKs
   cases owner.getD j none<;>rfl
  show (live.map (·.2)).Perm _
  rw[e];exact o.perm
 ·have live_mem:∀j k,(j,k)∈live->jKs owner j=some k/\j<=mask:=by
   intro j k hm
   obtain⟨j',hj',e⟩:=lYm.mp hm
   obtain⟨k',e1,e2⟩:=lQ7.mp e
   cases e2
   exact⟨e1,by have:=lJ7.mp hj';omega⟩
  have mem_place:∀j,j∈live.map (·.1)↔jKs owner j≠none/\j<=mask:=by
   intro j
   constructor
   ·intro hm
    obtain⟨⟨j',k⟩,h2,rfl⟩:=lJl.mp hm
    obtain⟨h3,h4⟩:=live_mem _ _ h2
    exact⟨by rw[h3];simp,h4⟩
   ·rintro⟨h2,h3⟩
    obtain⟨k,hk⟩:=Option.ne_none_iff_exists'.mp h2
    refine lJl.mpr ⟨(j,k),lYm.mpr ⟨j,lJ7.mpr (by omega),?_⟩,rfl⟩
    show (jKs owner j).map _=_
    rw[hk];rfl
  have hin:∀k,k∈live.map (·.2)->k<hashes.size:=by
   intro k hk
   obtain⟨⟨j,k'⟩,h2,rfl⟩:=lJl.mp hk
   obtain⟨h',e1,_⟩:=o.chain j k' (live_mem _ _ h2).1
   have:=(lJj.mp e1).1
   simpa using this
  have fm:∀l:List Nat,(∀k,k∈l->k<hashes.size)->∀i:Nat,(l.filterMap (hashes[·]?)).length=l.length/\(l.filterMap (hashes[·]?))[i]? =(l[i]?).bind (hashes[·]?):=by
   intro l
   induction l with
   | nil=>intro _ i;exact⟨rfl,by simp⟩
   | cons a l ih=>
    intro hl i
    have ha:=hl a (lJx ..)
    have e:hashes[a]? =some hashes[a]:=lK3 ha
    have ih':=ih (fun k hk=>hl k (lJ1 _ hk))
    rw[lX3 e]
    refine⟨by rw[lJ5,lJ5,(ih' 0).1],?_⟩
    cases i with
    | zero=>simp[e]
    | succ i=>simpa using (ih' i).2
  refine⟨?_,?_,rfl,?_⟩
  ·show (live.map (·.1)).toArray.size=_
   rw[lJw,lJf]
   have:=(fm (live.map (·.2)) hin 0).1
   rw[lJf] at this
   exact this.symm
  ·show (live.map (·.1)).Pairwise (· < ·)
   rw[lXm]
   have:live.Pairwise fun a b=>a.1<b.1:=by
    show ((List.range (mask+1)).filterMap fun j=>(owner.getD j none).map (j,·)).Pairwise _
    rw[List.pairwise_filterMap]
    refine (List.pairwise_lt_range).imp fun {a b} hab x hx y hy=> ?_
    obtain⟨k,_,e⟩:=lQ7.mp hx
    obtain⟨k',_,e'⟩:=lQ7.mp hy
    rw[<-e,<-e'];exact hab
   exact this
  ·intro x hx
   obtain⟨i,hi,hxe⟩:=lXk hx
   rw[List.getElem_zip] at hxe
   obtain⟨xj,h⟩:=x
   obtain⟨pe,he⟩:=Prod.mk.inj hxe
   have hi':i<live.length:=by rw[lXn] at hi;have:=lJ9 hi (Nat.min_le_left _ _);simpa using this
   have hh:((live.map (·.2)).filterMap (hashes[·]?))[i]? =some h:=by rw[<-he];exact lJp _
   have pl:live[i].1=xj:=by rw[<-pe];simp
   show Chain _ h xj
   rw[<-pl]
   have e2:=(fm (live.map (·.2)) hin i).2
   have hh':((live.map (·.2)).filterMap (hashes[·]?))[i]? =some h:=hh
   rw[hh',lKj,lJp hi'] at e2
   have e3:hashes[live[i].2]? =some h:=e2.symm
   obtain⟨h3,h4⟩:=live_mem live[i].1 live[i].2 (lV4 hi')
   obtain⟨h',e4,n,e5,e6⟩:=o.chain _ _ h3
   have:h'=h:=by
    have:hashes.toList[live[i].2]? =some h:=by simpa using e3
    rw[this] at e4;exact (lJ2 e4).symm
   subst this
   refine⟨n,e5,fun k hk=> ?_⟩
   show (itr t0.advance k (t0.probeStart h')).j∈live.map (·.1)
   refine (mem_place _).mpr ⟨e6 k hk,?_⟩
   apply lVv
   intro z
   refine e6 k hk ?_
   unfold jKs
   rw[lXl,lQy (by rw[o.size];show mask+1<=_;omega)]
   rfl
end St
end L3
namespace L3
open PySem PySem.Spec PyProof.Rows L2
def jZ9 (h h':Heap):Prop:=∀b o,h.get? b=some o->o.cls= .type "tuple"->h'.get? b=some o
section
variable {prog:Program} {w:World} {K:Type} [DecidableEq K] {c:Nat}
def Stab (V:KeyV prog w K c):Prop:=∀ {h h':Heap} {k:K} {v:Value},jZ9 h h'->V.is h k v->V.is h' k v
theorem kY3 {V:KeyV prog w K c} (hV:Stab V) {h h':Heap} (kp:jZ9 h h') {ks:List K} {vs:List Value} (hi:ItemsV V h ks vs):ItemsV V h' ks vs:=by
 induction hi with
 | nil=>exact .nil
 | cons a _ ih=>exact .cons (hV kp a) ih
theorem kXe {V:KeyV prog w K c} (hV:Stab V):Stab (jU2 V):=by
 rintro h h' k v kp ⟨a,o,items,n,rfl,ho,hc,hd,hi⟩
 exact⟨a,o,items,n,rfl,kp a o ho hc,hc,hd,kY3 hV kp hi⟩
theorem kXf {V:KeyV prog w K c} (hV:Stab V):Stab (qUu V):=by
 rintro h h' (k | k) v kp hx
 ·exact hx
 ·exact kXe hV kp hx
theorem qJm:Stab (kJ7 prog w):=fun _ hx=>hx
theorem jXb {h h':Heap} {k:TKey} {a:Addr} (kp:jZ9 h h') (hx:(jJn prog w).is h k a):(jJn prog w).is h' k a:=kXe (kXf (kXf qJm)) kp hx
def intK:Key->Bool
 | .inl _=>true
 | .inr _=>false
def intS {α:Type} (f:α->Bool):Key ⊕ List α->Bool
 | .inl k=>intK k
 | .inr ks=>ks.all f
def intT:TKey->Bool:=fun ks=>ks.all (intS (intS intK))
end
section
variable {prog:Program} {w:World} {A:Around} {E:Value->Shared->Prop} {s:Shared}
def hashes (prog:Program) (w:World) (es:List (TKey×Addr)):List Int:=es.map fun e=>(jJn prog w).hash e.1
def MaskOk (mask n:Nat):Prop:=(mask=7/\n<=4)\/(mask=31/\n<=18)\/(mask=127/\n<=76)
theorem MaskOk.full {mask n:Nat} (h:MaskOk mask n):St.Full mask/\n<=mask/\mask%2=1:=by
 rcases h with ⟨rfl,h⟩ | ⟨rfl,h⟩ | ⟨rfl,h⟩
 ·exact⟨St.full7,by omega,rfl⟩
 ·exact⟨St.full31,by omega,rfl⟩
 ·exact⟨St.full127,by omega,rfl⟩
theorem free_j {t:SetTable} (hd:t.dummies= #[]) (hn:t.place.size<=t.mask):∃j,j<=t.mask/\t.slot j= .empty:=by
 have:∃j,j<=t.mask/\j∉t.place.toList:=by
  apply lVv
  intro q
  have sub:(List.range (t.mask+1)) ⊆ t.place.toList:=by
   intro j hj
   apply lVv
   intro z
   exact q ⟨j,by have:=lJ7.mp hj;omega,z⟩
  have:=List.nodup_range.length_le_of_subset sub
  simp at this
  omega
 obtain⟨j,h1,h2⟩:=this
 exact⟨j,h1,St.slot_empty hd h2⟩
end
section
variable {prog:Program} {w:World} {A:Around} {E:Value->Shared->Prop} {s:Shared}
theorem qKa {h:Heap} {a:Addr} {o:Obj} {arr:Array (Int×Value)} {ep:Nat} {t:SetTable} (ho:h.get? a=some o) (hd:o.data= .set arr ep t) (arr':Array (Int×Value)) (t':SetTable):
  (h.update a (Obj.putSet arr' t')).get? a=some {o with data:= .set arr' (ep+1) t'}:=by
 have:=lVx (Obj.putSet arr' t') ho (by rw[putSet_of arr' t' hd];rfl)
 rw[putSet_of arr' t' hd] at this;exact this
theorem kJx {α:Type} {l:List Nat} {xs:List α} (hp:l.Perm (List.range xs.length)):(l.filterMap (xs[·]?)).Perm xs:=by
 have:=hp.filterMap (fun i=>xs[i]?)
 rw[List.filterMap_getElem?_range_length] at this
 exact this
theorem jZv {α β:Type} (f:α->β) (xs:List α):∀l:List Nat,(l.filterMap (xs[·]?)).map f=l.filterMap ((xs.map f)[·]?)
 | []=>rfl
 | a::l=>by
  rw[lQx,lQx,lKj]
  cases xs[a]? with
  | none=>exact jZv f xs l
  | some x=>rw[lJq,jZv f xs l];rfl
end
section
variable {w:World} {prog:Program}
def bt (w:World):Bool:=w.params.followText "set-order"
section
variable {A:Around} {R:Result->Shared->Prop} {I:Addr} {fp:List Addr} {G:Array GenState->Array GenState->Prop} {n:Nat} {P:Nat->Value->Prop} {St:Nat->Shared->Prop}
end
section
variable {E:Value->Shared->Prop} {s:Shared} {A:Around}
theorem qUz (a:Value) {Q₁:Value->Shared->Prop}
  (h:Q₁ (.ref s.heap.objs.size) {s with heap:=s.heap.push {cls:= .type "set",dict:=none,data:= .set #[] 0 (.fresh 0 0 (!bt w))} }):codeAny (model prog w) A (.call (.builtin "set.__new__") ⟨[.type "set",a],[]⟩) (wants Q₁ E) s:=by
 refine codeAny_of_tree ?_
 refine (show wpAny _ A.in1 (do checkBuiltinCall "set.__new__" ⟨[.type "set",a],[]⟩;again (.builtin "set.__new__" ⟨[.type "set",a],[]⟩)) _ _ s from ?_)
 (refine lJa (wpAny_of_eq (F.newCall_set_1 a) (lJd ⟨lQl F.plain_set_new _,lQe F.entry_set_new ?_⟩)))
 (rw[lQj F.plain_set_new _])
 (unfold Builtin.«set.__new__» Builtin.Frozenset.newClass)
 have hsub:=sub_set_self
 (obtain⟨hp,g,d,tk,os⟩:=s)
 dsimp only
 wp_walk
 (refine lYk (lJd ?_))
 dsimp only
 simp only[newObj]
 (refine lJa (wpAny_alloc (lJd ?_)))
 exact lJd h
def jVr (w:World):Obj:={cls:= .type "set",dict:=none,data:= .set #[] 0 (.fresh 0 0 (!bt w))}
end
end
namespace Si
theorem own:Manifest.owners.lookup (String.ofList ['r','o','t','a','r','e','t','i','_','t','e','s'].reverse)=some Manifest.sig_set_iterator:=by kernel_rfl
theorem slot_next:Slot "set_iterator" "__next__" "set_iterator.__next__":=
 .of (owner:="set_iterator") (n:="__next__") (by rw[lYg,lYh];kernel_rfl) (by decide +kernel) (by decide +kernel) (by decide +kernel) (by first | exact .inl (by decide +kernel) | exact .inr (by decide +kernel)) (by rw[isSubtype_type];kernel_rfl)
theorem entry_next:entryFor table "set_iterator.__next__"=some Builtin.«set_iterator.__next__» :=entryFor_of_tree (by kernel_rfl)
theorem args_next (a:Value):argsOk "set_iterator.__next__" ⟨[a],[]⟩:=by
 unfold argsOk;rw[signature?_of (id:="set_iterator.__next__") (n:=['_','_','t','x','e','n','_','_']) (o:=['r','o','t','a','r','e','t','i','_','t','e','s']) (by kernel_rfl) own];kernel_rfl
theorem entry_iter:entryFor table "set.__iter__"=some Builtin.«frozenset.__iter__» :=entryFor_alias (id':="frozenset.__iter__") (by kernel_rfl) rfl (by decide +kernel) (by kernel_rfl)
theorem slot_iter:Slot "set_iterator" "__iter__" "set_iterator.__iter__":=
 .of (owner:="set_iterator") (n:="__iter__") (by rw[lYg,lYh];kernel_rfl) (by decide +kernel) (by decide +kernel) (by decide +kernel) (by first | exact .inl (by decide +kernel) | exact .inr (by decide +kernel)) (by rw[isSubtype_type];kernel_rfl)
theorem entry_it:entryFor table "set_iterator.__iter__"=some Builtin.«dict_keyiterator.__iter__» :=entryFor_alias (id':="dict_keyiterator.__iter__") (by kernel_rfl) rfl (by decide +kernel) (by kernel_rfl)
theorem args_it (a:Value):argsOk "set_iterator.__iter__" ⟨[a],[]⟩:=by
 unfold argsOk;rw[signature?_of (id:="set_iterator.__iter__") (n:=['_','_','r','e','t','i','_','_']) (o:=['r','o','t','a','r','e','t','i','_','t','e','s']) (by kernel_rfl) own];kernel_rfl
end Si
section
variable {prog:Program} {w:World} {A:Around} {E:Value->Shared->Prop} {s:Shared}
theorem kJ4 {α:Type}:∀ {l:List α} {i:Nat} (h:i<l.length),(l[i]::l.eraseIdx i).Perm l
 | a::l,0,_=> .refl _
 | a::l,i+1,h=>by
  have hi:i<l.length:=by simpa using h
  exact (List.Perm.swap _ _ _).trans (List.Perm.cons a (kJ4 hi))
theorem qKd {α:Type} (next:Nat->Nat):∀(fuel k:Nat) (left:List α) (out:Array α),fuel=left.length->(pickOrder.go next fuel k left out).toList.Perm (out.toList++left)
 | 0,k,left,out,h=>by
  have:left=[]:=List.eq_nil_of_length_eq_zero h.symm
  subst this
  rw[lQb];exact .refl _
 | fuel+1,k,left,out,h=>by
  have hl:next k%left.length<left.length:=Nat.mod_lt _ (by omega)
  unfold pickOrder.go
  rw[lJp hl]
  dsimp only
  refine (qKd next fuel (k+1) _ _ (by rw[List.length_eraseIdx_of_lt hl];omega)).trans ?_
  rw[Array.toList_push,lJo]
  (refine lXo _ ?_)
  rw[List.singleton_append]
  exact kJ4 hl
theorem qKc {α:Type} (next:Nat->Nat) (xs:Array α):(pickOrder next xs).toList.Perm xs.toList:=by
 have:=qKd next xs.size 0 xs.toList #[] (by simp)
 rw[show (#[]:Array α).toList++xs.toList=xs.toList from rfl] at this
 exact this
def ordS (w:World) (S:Addr) (ep:Nat) (arr:Array (Int×Value)):Array (Int×Value):=if bt w=true then pickOrder (w.params.setOrder S ep) arr else arr
theorem jXk (w:World) (S:Addr) (ep:Nat) (arr:Array (Int×Value)):(ordS w S ep arr).toList.Perm arr.toList:=by
 unfold ordS
 split
 ·exact qKc _ _
 ·exact .refl _
def jVn (w:World) (t:SetTable) (i:Nat):Nat:=if bt w=true then 0 else if i=0 then 0 else t.place.getD (i-1) 0+1
def kZo (S:Addr) (ep n slot i:Nat):Obj:={cls:= .type "set_iterator",dict:=none,data:= .fields #[.int slot 0,.int i 0,.ref S,.int n 0,.int ep 0],slots:= #[]}
theorem qV4 {S:Addr} {o:Obj} (hg:s.heap.get? S=some o) (hc:o.cls= .type "set") {Q:Bool->Shared->Prop} (h:Q false s):wpAny (model prog w) A (Builtin.List.listLengthHint (.ref S)) Q E s:=by
 have hT:s.TypeIs (.ref S) "set":=⟨o,hg,hc⟩
 (unfold Builtin.List.listLengthHint)
 refine lJa (lV5 hT PySem.F.slot_set_len.lookup ?_)
 generalize hn:("set.__len__":String)=nm
 wp_delta
 rw[show splitId nm=some ("set","__len__") by subst hn;decide +kernel];subst hn
 refine lJa (lV6 (T:="set") (b:=true) hT (by rw[isSubtype_type];kernel_rfl) (lXa (fun z=>absurd z (by decide)) fun _=> ?_))
 refine lXa (fun _=> ?_) fun z=>absurd (by decide +kernel) z
 exact lJa (lQw hT (lJd h))
end
end L3
namespace L3
open PySem PySem.Spec PyProof.Rows L2
noncomputable def lexLt {K:Type} [DecidableEq K] (lt:K->K->Option Bool):List K->List K->Option Bool
 | [],[]=>some false
 | [],_::_=>some true
 | _::_,[]=>some false
 | x::xs,y::ys=>if x=y then lexLt lt xs ys else lt x y
def ltI:Key->Key->Option Bool
 | .inl i,.inl j=>some (decide (i<j))
 | _,_=>none
def ltS {K:Type} [DecidableEq K] (lt:K->K->Option Bool):Key ⊕ List K->Key ⊕ List K->Option Bool
 | .inl x,.inl y=>ltI x y
 | .inr x,.inr y=>lexLt lt x y
 | _,_=>none
def ltK:TKey->TKey->Option Bool:=lexLt (ltS (ltS ltI))
section
variable {prog:Program} {w:World} {K:Type} [DecidableEq K] {c:Nat}
def LtV (V:KeyV prog w K c) (lt:K->K->Option Bool):Prop:=∀ {A:Around} {E:Value->Shared->Prop} {s:Shared} {x y:K} {u v:Value} {b:Bool} {Q:Value->Shared->Prop},A.units+c<cLine->V.is s.heap x u->V.is s.heap y v->lt x y=some b->Q (.bool b) s->wpAny (model prog w) A (compareOp .Lt u v) Q E s
theorem qK0:LtV (kJ7 prog w) ltI:=by
 intro A E s x y u v b Q _ hx hy hl h
 rcases jJp (show jYc x u=true from hx) with ⟨i,t,rfl,rfl⟩ | ⟨i,t,rfl,rfl⟩
 ·rcases jJp (show jYc y v=true from hy) with ⟨j,t',rfl,rfl⟩ | ⟨j,t',rfl,rfl⟩
  ·cases hl
   exact PyProof.Rows.lt_int h
  ·cases hl
 ·cases hl
open PySem.SeqAt in
open PySem.AutoSeq1 (wpAny_loadPart') in
open PySem.MeetsSeq PySem.MeetsSeq2 PySem.MeetsSeq3 in
theorem lt_tup {V:KeyV prog w K c} {lt:K->K->Option Bool} (hV:LtV V lt):LtV (jU2 V) (lexLt lt):=by
 rintro A E s x y u v b Q hu ⟨a1,o1,its1,n1,rfl,ho1,hc1,hd1,hi1⟩ ⟨a2,o2,its2,n2,rfl,ho2,hc2,hd2,hi2⟩ hl h
 obtain⟨cls,dd,data,sl⟩:=o1
 obtain⟨cls2,dd2,data2,sl2⟩:=o2
 simp only at hc1 hd1 hc2 hd2
 subst hc1 hd1 hc2 hd2
 have hT1:s.TypeIs (.ref a1) "tuple":=⟨_,ho1,rfl⟩
 have hT2:s.TypeIs (.ref a2) "tuple":=⟨_,ho2,rfl⟩
 refine (show wpAny _ _ (richCompare .Lt (.ref a1) (.ref a2)) _ _ s from wpAny_richCompare_same_room hT1 hT2 PySem.F.slot_tuple_lt (lQa PySem.F.slot_tuple_lt hT1 PySem.F.entry_tuple_lt ?_ (PySem.F.args_tuple_lt_2 _ _)) (by omega))
 have f2:=AutoSeq1.sub_tuple_tuple
 (obtain⟨hp,g,d,tk,os⟩:=s)
 have z1:its1.size=x.length:=by rw[hi1.length];simp
 have z2:its2.size=y.length:=by rw[hi2.length];simp
 wp_walk using wpAny_loadPart' ho1,wpAny_loadPart' ho2,wpAny_forIn_list _ (fun rest bb s'=>bb.1=none/\s'=⟨hp,g,d,tk,os⟩/\∃(vs ws:List Value) (x' y':List K),rest=vs.zip ws/\ItemsV V hp x' vs/\ItemsV V hp y' ws/\x'.length+its2.size=y'.length+its1.size/\lexLt lt x' y'=some b) _
 case turn=>
  rintro⟨p,q⟩ rest bb s' ⟨hb',rfl,vs,ws,x',y',hz,hv1,hv2,hlen,hR⟩
  cases hv1 with
  | nil=>rw[List.zip_nil_left] at hz;cases hz
  | @cons k1 v1 ks1 vs1 h1 hv1'=>
   cases hv2 with
   | nil=>rw[List.zip_nil_right] at hz;cases hz
   | @cons k2 v2 ks2 vs2 h2 hv2'=>
    rw[lXz] at hz
    injection hz with hyx hrest
    injection hyx with hy hx
    subst hy hx
    simp only[lJ5] at hlen
    have he:=V.eqAt (A:=A.in1) (s:=⟨hp,g,d,tk,os⟩) (by rw[lQ2];omega) h1 h2
    refine lJa (he prog w _ _ ?_)
    by_cases e:k1=k2
    ·have hR':lexLt lt ks1 ks2=some b:=by
      have:=hR
      unfold lexLt at this
      rw[lJc e] at this;exact this
     rw[lJ4 e]
     wp_walk
     exact⟨rfl,rfl,_,_,_,_,hrest,hv1',hv2',by omega,hR'⟩
    ·have hR':lt k1 k2=some b:=by
      have:=hR
      unfold lexLt at this
      rw[lJb e] at this;exact this
     rw[lJv e]
     have hri:∀ {Q':Value->Shared->Prop} {E':Value->Shared->Prop},Q' (.bool b) ⟨hp,g,d,tk,os⟩->wpAny (model prog w) A.in1 (richCompare .Lt p q) Q' E' ⟨hp,g,d,tk,os⟩:=fun hq=>(hV (A:=A.in1) (s:=⟨hp,g,d,tk,os⟩) (by rw[lQ2];omega) h1 h2 hR' hq:wpAny (model prog w) A.in1 (compareOp .Lt p q) _ _ _)
     wp_walk using hri
     exact⟨_,rfl,(fun z=>nomatch z),h⟩
 case fin=>
  rintro⟨b1,b2⟩ s' ⟨hb',rfl,vs,ws,x',y',hz,hv1,hv2,hlen,hR⟩
  simp only at hb'
  subst hb'
  have hv:b=decide (its1.size<its2.size):=by
   cases hv1 with
   | nil=>
    cases hv2 with
    | nil=>simp only[lQp] at hlen;cases hR;exact (lJv (by omega)).symm
    | cons _ _=>simp only[lQp,lJ5] at hlen;cases hR;exact (lJ4 (by omega)).symm
   | cons _ hv1'=>
    cases hv2 with
    | nil=>simp only[lQp,lJ5] at hlen;cases hR;exact (lJv (by omega)).symm
    | cons _ _=>rw[lXz] at hz;cases hz
  wp_walk
  refine⟨_,rfl,(fun z=>nomatch z),?_⟩
  simpa[Builtin.Tuple.tupleCompareSizes,<-hv] using h
 case h=>
  exact⟨rfl,rfl,its1.toList,its2.toList,x,y,rfl,hi1,hi2,by omega,hl⟩
theorem qYc {V:KeyV prog w K c} {lt:K->K->Option Bool} (hV:LtV V lt):LtV (qUu V) (ltS lt):=by
 rintro A E s (x | x) (y | y) u v b Q hu hx hy hl h
 ·exact qK0 (by omega) hx hy hl h
 ·cases hl
 ·cases hl
 ·exact lt_tup hV hu hx hy hl h
end
end L3
namespace L3
open PySem PySem.Spec PyProof.Rows L2 PySem.W
section
variable {n:Nat} {lt:Nat->Nat->Bool}
end
structure KOrd {K:Type} (lt:K->K->Option Bool):Prop where
 neg:∀ {a b},a≠b->∀ {c},lt a b=some c->lt b a=some !c
 tr:∀ {a b c},a≠b->b≠c->lt a b=some true->lt b c=some true->lt a c=some true
 ir:∀ {a b},a≠b->lt a b=some true->lt b a=some true->False
theorem kord_I:KOrd ltI:=by
 refine⟨?_,?_,?_⟩
 ·rintro (a | a) (b | b) h c e
  ·have hab:a≠b:=fun z=>h (by rw[z])
   simp only[ltI,lXj] at e ⊢
   rw[<-e]
   by_cases q:a<b
   ·rw[lJ4 q,lJv (by omega)];rfl
   ·rw[lJv q,lJ4 (by omega)];rfl
  ·cases e
  ·cases e
  ·cases e
 ·rintro (a | a) (b | b) (c | c) _ _ e1 e2<;>first | cases e1;done | cases e2;done | skip
  simp only[ltI,lXj,lKm] at e1 e2 ⊢
  omega
 ·rintro (a | a) (b | b) _ e1 e2<;>first | cases e1;done | skip
  simp only[ltI,lXj,lKm] at e1 e2
  omega
section
variable {K:Type} [DecidableEq K] {lt:K->K->Option Bool}
theorem kVr (o:KOrd lt):∀ {a b:List K},a≠b->∀ {c},lexLt lt a b=some c->lexLt lt b a=some !c
 | [],[],h,_,_=>absurd rfl h
 | [],_::_,_,c,e=>by cases e;rfl
 | _::_,[],_,c,e=>by cases e;rfl
 | x::xs,y::ys,h,c,e=>by
  unfold lexLt at e ⊢
  by_cases q:x=y
  ·rw[lJc q] at e;rw[lJc q.symm]
   exact kVr o (fun z=>h (by rw[q,z])) e
  ·rw[lJb q] at e;rw[lJb (fun z=>q z.symm)]
   exact o.neg q e
theorem kX1:∀(a:List K),lexLt lt a a=some false
 | []=>rfl
 | x::xs=>by unfold lexLt;rw[lJc rfl];exact kX1 xs
theorem kX0 (o:KOrd lt):∀ {a b c:List K},lexLt lt a b=some true->lexLt lt b c=some true->lexLt lt a c=some true
 | [],[],_,e,_=>by cases e
 | _::_,[],_,e,_=>by cases e
 | [],_::_,[],_,e=>by cases e
 | [],_::_,_::_,_,_=>(rfl)
 | _::_,_::_,[],_,e=>by cases e
 | x::xs,y::ys,z::zs,e1,e2=>by
  unfold lexLt at e1 e2 ⊢
  by_cases q1:x=y
  ·subst q1
   rw[lJc rfl] at e1
   by_cases q2:x=z
   ·rw[lJc q2] at e2 ⊢
    exact kX0 o e1 e2
   ·rw[lJb q2] at e2 ⊢
    exact e2
  ·rw[lJb q1] at e1
   by_cases q2:y=z
   ·subst q2
    rw[lJb q1]
    exact e1
   ·rw[lJb q2] at e2
    by_cases q3:x=z
    ·subst q3
     exact (o.ir q1 e1 e2).elim
    ·rw[lJb q3]
     exact o.tr q1 q2 e1 e2
theorem kKz (o:KOrd lt):KOrd (lexLt lt):=by
 refine⟨?_,?_,?_⟩
 ·intro a b h c e;exact kVr o h e
 ·intro a b c _ _ e1 e2;exact kX0 o e1 e2
 ·intro a b h e1 e2
  have:=kVr o h e1
  rw[e2] at this;cases this
theorem kX4 (o:KOrd lt):KOrd (ltS lt):=by
 refine⟨?_,?_,?_⟩
 ·rintro (a | a) (b | b) h c e
  ·exact kord_I.neg (fun z=>h (by rw[z])) e
  ·cases e
  ·cases e
  ·exact (kKz o).neg (fun z=>h (by rw[z])) e
 ·rintro (a | a) (b | b) (c | c) h1 h2 e1 e2<;>first | cases e1;done | cases e2;done | skip
  ·exact kord_I.tr (fun z=>h1 (by rw[z])) (fun z=>h2 (by rw[z])) e1 e2
  ·exact kX0 o e1 e2
 ·rintro (a | a) (b | b) h e1 e2<;>first | cases e1;done | skip
  ·exact kord_I.ir (fun z=>h (by rw[z])) e1 e2
  ·exact (kKz o).ir (fun z=>h (by rw[z])) e1 e2
end
theorem kord:KOrd ltK:=kKz (kX4 (kX4 kord_I))
theorem kVt {a b c:TKey} (h1:ltK a b=some true) (h2:ltK b c=some true):ltK a c=some true:=kX0 (kX4 (kX4 kord_I)) h1 h2
def kQz:TKey->Bool->Prop
 | .inl _::_,b=>b=true
 | .inr _::_,b=>b=false
 | [],_=>False
section
variable {prog:Program} {w:World} {A:Around} {E:Value->Shared->Prop} {s:Shared}
theorem kQw {Q:Bool->Shared->Prop} {b:Bool} {n1 n2:Nat} {c:Bool} (hu:A.units+6<cLine) (hq:Q c s):∀(i:Nat) (x y:TKey) (vs ws:List Value),ItemsV (vk2 prog w) s.heap x vs->ItemsV (vk2 prog w) s.heap y ws->x.length+n2=y.length+n1->lexLt (ltS (ltS ltI)) x y=some c->((b&&i == 0)=true->(∀k,k∈x->i=0->x.head? =some k->∃z,k= .inl z)/\(∀k,k∈y->i=0->y.head? =some k->∃z,k= .inl z))->
  KatLex prog w A b (decide (n1<n2)) Q (vs.zip ws) i s
 | i,_,_,_,_,.nil,.nil,hn,hl,_=>by
  simp only[lQp] at hn
  cases hl
  refine kat_nil ?_
  rw[lJv (by omega)];exact hq
 | i,_,_,_,_,.nil,.cons _ _,hn,hl,_=>by
  simp only[lQp,lJ5] at hn
  cases hl
  refine kat_nil ?_
  rw[lJ4 (by omega)];exact hq
 | i,_,_,_,_,.cons _ _,.nil,hn,hl,_=>by
  simp only[lQp,lJ5] at hn
  cases hl
  refine kat_nil ?_
  rw[lJv (by omega)];exact hq
 | i,_,_,_,_,@ItemsV.cons _ _ _ _ _ _ _ k1 v1 ks1 vs1 h1 t1,@ItemsV.cons _ _ _ _ _ _ _ k2 v2 ks2 vs2 h2 t2,hn,hl,hb=>by
  simp only[lJ5] at hn
  rw[lXz]
  refine kat_cons (((vk2 prog w).eqAt (by omega) h1 h2) prog w _ _ ?_)
  unfold lexLt at hl
  by_cases e:k1=k2
  ·rw[lJc e] at hl
   rw[lJ4 e]
   refine kat_yes (kQw hu hq (i+1) _ _ _ _ t1 t2 (by omega) hl fun z=> ?_)
   simp at z
  ·rw[lJb e] at hl
   rw[lJv e]
   refine kat_no ?_
   cases q:(b&&i == 0) with
   | false=>exact kat_one _ _ (qYc (qYc qK0) (by omega) h1 h2 hl hq)
   | true=>
    have hi:i=0:=by simp at q;exact q.2
    obtain⟨z1,z2⟩:=hb q
    obtain⟨a,rfl⟩:=z1 k1 (lJx ..) hi rfl
    obtain⟨a',rfl⟩:=z2 k2 (lJx ..) hi rfl
    rcases jJp (show jYc a v1=true from h1) with ⟨p,t,rfl,rfl⟩ | ⟨p,t,rfl,rfl⟩
    ·rcases jJp (show jYc a' v2=true from h2) with ⟨p',t',rfl,rfl⟩ | ⟨p',t',rfl,rfl⟩
     ·cases hl
      exact oneLt_int hq
     ·cases hl
    ·cases hl
theorem ask_ok {b:Bool} {x y:TKey} {a1 a2:Addr} {c:Bool} {Q:Bool->Shared->Prop} (hu:A.units+6<cLine) (h1:(jJn prog w).is s.heap x a1) (h2:(jJn prog w).is s.heap y a2) (hl:ltK x y=some c) (hx:kQz x b) (hy:kQz y b) (hq:Q c s):wpAny (model prog w) A (keyLt' (tuples' b) (.ref a1) (.ref a2)) Q E s:=by
 obtain⟨p1,o1,its1,n1,e1,ho1,hc1,hd1,hi1⟩:=(show kJe _ _ _ _ from h1)
 obtain⟨p2,o2,its2,n2,e2,ho2,hc2,hd2,hi2⟩:=(show kJe _ _ _ _ from h2)
 cases e1;cases e2
 refine kat_lt ho1 hd1 ho2 hd2 (kQw hu hq 0 x y _ _ hi1 hi2 ?_ hl fun z=> ?_)
 ·have l1:=hi1.length
  have l2:=hi2.length
  simp at l1 l2
  omega
 ·have hb:b=true:=by simpa using z
  subst hb
  refine⟨fun k _ _ hk=> ?_,fun k _ _ hk=> ?_⟩
  ·match x,hx,hk with
   | .inl u::_,_,e=>cases e;exact⟨u,rfl⟩
  ·match y,hy,hk with
   | .inl u::_,_,e=>cases e;exact⟨u,rfl⟩
def tyOf (b:Bool):Value:=if b=true then .type "int" else .type "tuple"
theorem kQu {b:Bool}:∀(es:List (TKey×Addr)),(∀e,e∈es->(jJn prog w).is s.heap e.1 e.2/\kQz e.1 b/\intT e.1=true)->∃fs,KatTups s.heap (es.map fun e=> .ref e.2) fs/\fs.length=es.length/\∀v,v∈fs->Looks (model prog w) s.heap (typeOf v) (tyOf b)
 | [],_=>⟨[],.nil,rfl,fun v hv=>absurd hv (lKt)⟩
 | (k,a)::es,h=>by
  obtain⟨fs,t,l,hf⟩:=kQu es fun e he=>h e (lJ1 _ he)
  obtain⟨h1,h2,h3⟩:=h (k,a) (lJx ..)
  obtain⟨p1,o1,its1,n1,e1,ho1,hc1,hd1,hi1⟩:=(show kJe _ _ _ _ from h1)
  cases e1
  match k,h2,h3,hi1 with
  | .inl u::ks,hb,h3,hi=>
   cases (show b=true from hb)
   generalize hits:its1.toList=its at hi
   cases hi with
   | @cons _ v _ vs hv ht=>
    refine⟨v::fs,.cons ho1 hc1 hd1 (by rw[<-lKe,hits];rfl) t,by simp[l],fun x hx=> ?_⟩
    (rcases lJr.mp hx with rfl | hx)
    ·rcases jJp (show jYc u x=true from hv) with ⟨i,tk,_,rfl⟩ | ⟨i,tk,rfl,rfl⟩
     ·exact Looks.of_pure rfl
     ·simp[intT,intS,intK] at h3
    ·exact hf x hx
  | .inr u::ks,hb,h3,hi=>
   cases (show b=false from hb)
   generalize hits:its1.toList=its at hi
   cases hi with
   | @cons _ v _ vs hv ht=>
    obtain⟨p2,o2,its2,n2,e2,ho2,hc2,hd2,hi2⟩:=(show kJe _ _ u v from hv)
    subst e2
    refine⟨.ref p2::fs,.cons ho1 hc1 hd1 (by rw[<-lKe,hits];rfl) t,by simp[l],fun x hx=> ?_⟩
    (rcases lJr.mp hx with rfl | hx)
    ·have:=(Looks.ld (M:=model prog w) (part:=none) ho2).andThen (f:=fun o=>pure o.cls) .now
     rw[hc2] at this
     exact this
    ·exact hf x hx
theorem qZw {b:Bool} {es:List (TKey×Addr)} (h:∀e,e∈es->(jJn prog w).is s.heap e.1 e.2/\kQz e.1 b/\intT e.1=true) (hne:0<es.length) {Q:SortKind->Shared->Prop} (hq:Q (tuples' b) s):wpAny (model prog w) A (keyKind' (List.toArray (es.map fun e=>Value.ref e.2))) Q E s:=by
 obtain⟨fs,t,l,hf⟩:=kQu es h
 refine kat_kind (T:=tyOf b) t (by omega) hf (by cases b<;>decide) ?_
 rw[show (tyOf b != Value.type "tuple")=b by cases b<;>decide]
 exact hq
end
theorem jV1 {α β:Type} {f:α->β} {l l':List β} (h:l.Perm l'):∀es:List α,l'=es.map f->∃es':List α,es'.Perm es/\l=es'.map f:=by
 induction h with
 | nil=>intro es e;cases es with | nil=>exact⟨[],.refl _,rfl⟩ | cons _ _=>cases e
 | cons x _ ih=>
  intro es e
  cases es with
  | nil=>cases e
  | cons a es=>
   rw[lJq,lX5] at e
   obtain⟨es',h1,h2⟩:=ih es e.2
   exact⟨a::es',h1.cons a,by rw[lJq,e.1,h2]⟩
 | swap x y l=>
  intro es e
  match es,e with
  | a::b::es,e=>
   rw[lJq,lJq,lX5,lX5] at e
   exact⟨b::a::es,.swap _ _ _,by rw[lJq,lJq,e.1,e.2.1,e.2.2]⟩
 | trans _ _ ih1 ih2=>
  intro es e
  obtain⟨es',h1,h2⟩:=ih2 es e
  obtain⟨es'',h3,h4⟩:=ih1 es' h2
  exact⟨es'',h3.trans h1,h4⟩
section
variable {prog:Program} {w:World} {A:Around} {E:Value->Shared->Prop} {s:Shared}
end
def SKey (b:Bool) (ts:List T) (k:TKey):Prop:=jQy ts=some k/\kQz k b/\intT k=true
theorem qJa {K:PySem.W.Frag} {H:Hp} {b:Bool}:∀ {tks:List (List T×TKey)} {vs:List V} {its:List Value},(∀e,e∈tks->SKey b e.1 e.2)->Reps K H (tks.map fun e=> .tup e.1) vs->Vals vs its->
  ∃tb:List ((List T×TKey)×Addr),tb.map (·.1)=tks/\vs=tb.map (fun e=> .ref e.2)/\its=tb.map (fun e=>Value.ref e.2)/\∀e,e∈tb->TKeyAt H e.1.2 e.2/\Rep K H (.tup e.1.1) (.ref e.2)
 | [],_,_,_,r,v=>by
  cases (show _=[] from r)
  cases v
  exact⟨[],rfl,rfl,rfl,fun e he=>absurd he (lKt)⟩
 | (ts,k)::tks,_,its,hk,⟨v,ws,e,r1,r2⟩,vv=>by
  subst e
  cases vv with
  | @cons _ u _ us hr hrs=>
  obtain⟨tb,h1,h2,h3,h4⟩:=qJa (fun e he=>hk e (lJ1 _ he)) r2 hrs
  obtain⟨a,vs',e,ha,hrep⟩:=(show ∃a vs',v= .ref a/\H a=some (.tup vs')/\Reps K H ts vs' from r1)
  subst e
  cases (show u=Value.ref a from hr)
  refine⟨((ts,k),a)::tb,by rw[lJq,h1],by rw[lJq,h2],by rw[lJq,h3],fun e he=> ?_⟩
  (rcases lJr.mp he with rfl | he)
  ·exact⟨jUd (hk _ (lJx ..)).1 ha hrep,r1⟩
  ·exact h4 e he
theorem qJw {K:PySem.W.Frag} {H:Hp}:∀(tb:List ((List T×TKey)×Addr)),(∀e,e∈tb->Rep K H (.tup e.1.1) (.ref e.2))->Reps K H (tb.map fun e=> .tup e.1.1) (tb.map fun e=>V.ref e.2)
 | [],_=>rfl
 | e::tb,h=>⟨_,_,rfl,h e (lJx ..),qJw tb fun x hx=>h x (lJ1 _ hx)⟩
theorem kJr:∀(bs:List ((List T×TKey)×Addr)),Vals (bs.map fun e=>V.ref e.2) (bs.map fun e=>Value.ref e.2)
 | []=> .nil
 | e::bs=> .cons rfl (kJr bs)
section
variable {X:Cx}
end
section
variable {prog:Program} {w:World} {A:Around} {E:Value->Shared->Prop} {s:Shared}
def entN (e:Int×Tok):Int×Value:=(hashInt e.1,.int e.1 e.2)
structure SetN (prog:Program) (w:World) (h:Heap) (a:Addr) (o:Obj) (arr:Array (Int×Value)) (ep:Nat) (t:SetTable) (es:List (Int×Tok)):Prop where
 get:h.get? a=some o
 exact_:o.ExactSet
 data:o.data= .set arr ep t
 arr_:arr.toList=es.map entN
 ris:St.Ris t.place
 len:t.place.size=es.length
 dum:t.dummies= #[]
 mask:MaskOk t.mask es.length
 plain:t.plain=true
theorem SetN.size {h:Heap} {a:Addr} {o:Obj} {arr:Array (Int×Value)} {ep:Nat} {t:SetTable} {es:List (Int×Tok)} (d:SetN prog w h a o arr ep t es):arr.size=es.length:=by
 rw[<-lKg,d.arr_,lJf]
theorem qQt {t:SetTable} {n:Nat} (hd:t.dummies= #[]) (hl:t.place.size=n) (hm:n<=t.mask):t.fits n=true:=by
 simp only[SetTable.fits,SetTable.fill,hd,hl,lKv,beq_iff_eq,lKm]
 exact⟨trivial,by simpa using hm⟩
theorem SetN.fits {h:Heap} {a:Addr} {o:Obj} {arr:Array (Int×Value)} {ep:Nat} {t:SetTable} {es:List (Int×Tok)} (d:SetN prog w h a o arr ep t es):t.fits arr.size=true:=
 qQt d.dum (d.len.trans d.size.symm) (by rw[d.size];exact d.mask.full.2.1)
theorem SetN.state {a:Addr} {o:Obj} {arr:Array (Int×Value)} {ep:Nat} {t:SetTable} {es:List (Int×Tok)} (d:SetN prog w s.heap a o arr ep t es) {Q:(Array (Int×Value)×Nat×SetTable)->Shared->Prop} (h:Q (arr,ep,t) s):wpAny (model prog w) A (setState a) Q E s:=
 wpAny_setState_of d.get d.data d.fits h
theorem SetN.move {h h':Heap} {a:Addr} {o:Obj} {arr:Array (Int×Value)} {ep:Nat} {t:SetTable} {es:List (Int×Tok)} (d:SetN prog w h a o arr ep t es) (hg:h'.get? a=some o):SetN prog w h' a o arr ep t es:=
 ⟨hg,d.exact_,d.data,d.arr_,d.ris,d.len,d.dum,d.mask,d.plain⟩
theorem SetN.elems {h:Heap} {a:Addr} {o:Obj} {arr:Array (Int×Value)} {ep:Nat} {t:SetTable} {es:List (Int×Tok)} (d:SetN prog w h a o arr ep t es):ElemsOf (intKind prog w) arr.toList:=by
 intro e he
 rw[d.arr_] at he
 obtain⟨x,_,rfl⟩:=lJl.mp he
 exact⟨⟨x.1,intKind_is _ _ _ _,rfl⟩,rfl⟩
theorem kZq {t:SetTable} {n:Nat} (hd:t.dummies= #[]) (hr:St.Ris t.place) (hl:t.place.size=n) (hm:MaskOk t.mask n) (h:Int):∃j,t.freeSlot h=some (j,false)/\j∉t.place.toList:=by
 obtain⟨hf,hmm,_⟩:=hm.full
 obtain⟨j,hj,ej⟩:=free_j (t:=t) hd (by omega)
 obtain⟨m,hm1,em⟩:=St.met hf h hj
 rcases St.pgo_ok hd (fun _=>h+1) h m (10*SetTable.turns t.mask) (t.probeStart h) (by rw[em];exact ej) (by unfold SetTable.turns;omega) rfl with ⟨q,_,e1,_,e3⟩ | ⟨q,i,_,_,e2,_⟩
 ·refine⟨(itr t.advance q (t.probeStart h)).j,?_,?_⟩
  ·unfold SetTable.freeSlot
   rw[show t.probe (fun _=>h+1) h (t.probeStart h)=_ from e3]
   rfl
  ·rcases St.slot_cases hd (itr t.advance q (t.probeStart h)).j with c | ⟨i,c,_⟩
   ·exact c.2 hr
   ·rw[c] at e1;cases e1
 ·exact absurd e2 (by omega)
def putN (p:Nat) (e:Int×Tok) (es:List (Int×Tok)):List (Int×Tok):=es.take p++e::es.drop p
theorem jZo (p:Nat) (e:Int×Tok) (es:List (Int×Tok)):(putN p e es).Perm (e::es):=by
 unfold putN
 refine List.perm_middle.trans ?_
 rw[lK6]
theorem relayN {arr:Array (Int×Value)} {t:SetTable} {es:List (Int×Tok)} (ha:arr.toList=es.map entN) {wanted mask:Nat} (hw:SetTable.sizeAbove wanted-1=mask) (hM:MaskOk mask es.length):
  ∃(arr':Array (Int×Value)) (t':SetTable) (es':List (Int×Tok)),relayAll t arr wanted=(arr',t',false)/\es'.Perm es/\arr'.toList=es'.map entN/\St.Ris t'.place/\t'.place.size=es.length/\t'.dummies= #[]/\t'.mask=mask/\t'.led=t.led/\t'.plain=t.plain:=by
 have hsz:arr.size=es.length:=by rw[<-lKg,ha,lJf]
 obtain⟨hfull,hle,_⟩:=hM.full
 obtain⟨t',order,e1,e2,e3,e4,e5,e6⟩:=St.laid_ok hfull t.finger (t.movedTo mask) t.led t.plain (arr.map (·.1)) (by rw[Array.size_map,hsz];exact hle)
 have e1':t.relaid (arr.map (·.1)) wanted=some (t',order):=by unfold SetTable.relaid;rw[hw];exact e1
 rw[Array.size_map,hsz] at e5
 have em:(order.filterMap (arr[·]?)).toList=(order.toList.filterMap (es[·]?)).map entN:=by
  rw[Array.toList_filterMap,jZv,<-ha]
  exact St.fm_congr fun x _=>by rw[lKe]
 have pe:(order.toList.filterMap (es[·]?)).Perm es:=kJx e5
 have sz2:(order.filterMap (arr[·]?)).size=es.length:=by rw[<-lKg,em,lJf,pe.length_eq]
 have pl:t'.place.size=es.length:=by
  have hl:((arr.map (·.1)).toList).length=es.length:=by rw[lKg,Array.size_map,hsz]
  have e7:order.toList.filterMap ((arr.map (·.1))[·]?)=order.toList.filterMap ((arr.map (·.1)).toList[·]?):=St.fm_congr fun x _=>by rw[lKe]
  have:=(kJx (xs:=(arr.map (·.1)).toList) (l:=order.toList) (by rw[hl];exact e5)).length_eq
  rw[e6.len,e7,this,hl]
 refine⟨order.filterMap (arr[·]?),t',_,?_,pe,em,e6.ris,pl,e6.dum,e2,e3,e4⟩
 unfold relayAll
 rw[e1']
 dsimp only
 rw[lJc]
 rw[lKv]
 refine⟨?_,qQt e6.dum (pl.trans sz2.symm) (by rw[sz2,e2];exact hle)⟩
 unfold coversAll
 rw[hsz]
 exact List.isPerm_iff.mpr e5
theorem uJ3 {a:Addr} {o:Obj} {arr:Array (Int×Value)} {ep:Nat} {t:SetTable} {es:List (Int×Tok)} (d:SetN prog w s.heap a o arr ep t es) {k:Int} {tk:Tok} (hn:es.length<64) {Q:Bool->Shared->Prop}
  (h1:k∈es.map (·.1)->Q false s)
  (h2:k∉es.map (·.1)->∀h' o' arr' ep' t' es',Heap.SameBut a s.heap h'->es'.Perm ((k,tk)::es)->t'.led=t.led->SetN prog w h' a o' arr' ep' t' es'->Q true {s with heap:=h'}):
  wpAny (model prog w) A (setAddHashed a (.int k tk) (hashInt k)) Q E s:=by
 have hk:(intKind prog w).is k (.int k tk)=true:=intKind_is _ _ _ _
 have hsz:=d.size
 have hb:arr.size<scanBound:=by rw[hsz];show _<4096;omega
 (unfold setAddHashed setAddHashedIn)
 refine lKx (lJa (d.state ?_))
 dsimp only
 rw[byScan_of (knd:=intKind prog w) rfl hb d.elems]
 simp only[↓reduceIte]
 unfold setAddByScan
 refine lJa ?_
 refine lJa (lQd ?_)
 refine lJa (wpAny_setScan_of (knd:=intKind prog w) hk d.get d.data d.fits d.elems ?_)
 have hmem:(∃e∈arr.toList,(intKind prog w).is k e.2=true)↔k∈es.map (·.1):=by
  rw[d.arr_]
  constructor
  ·rintro⟨e,he,hp⟩
   obtain⟨x,hx,rfl⟩:=lJl.mp he
   have:k=x.1:=(intKind prog w).inj _ _ _ hp (intKind_is _ _ _ _)
   exact lJl.mpr ⟨x,hx,this.symm⟩
  ·intro hm
   (obtain⟨x,hx,rfl⟩:=lJl.mp hm)
   exact⟨entN x,lJl.mpr ⟨x,hx,rfl⟩,intKind_is _ _ _ _⟩
 cases hr:List.findIdx? (fun e=>(intKind prog w).is k e.2) arr.toList with
 | some j=>
  dsimp only
  (obtain⟨hj,hpj,_⟩:=List.findIdx?_eq_some_iff_getElem.mp hr)
  exact lJd (lJd (h1 (hmem.mp ⟨arr.toList[j],lV4 hj,hpj⟩)))
 | none=>
  dsimp only
  have hnk:k∉es.map (·.1):=by
   intro z
   obtain⟨e,he,hp⟩:=hmem.mpr z
   (have:=List.findIdx?_eq_none_iff.mp hr e he)
   rw[hp] at this;exact Bool.noConfusion this
  obtain⟨j,ej,hj⟩:=kZq d.dum d.ris d.len d.mask (hashInt k)
  have ae:(SetTable.insertAt arr (t.put j).2 (hashInt k,Value.int k tk)).toList=(putN (t.put j).2 (k,tk) es).map entN:=by
   rw[SetTable.toList_insertAt,d.arr_]
   unfold putN
   rw[lKl,lJq,List.map_take,List.map_drop]
   rfl
  have pl:=(jZo (t.put j).2 (k,tk) es).length_eq
  rw[lJ5] at pl
  have asz:(SetTable.insertAt arr (t.put j).2 (hashInt k,Value.int k tk)).size=es.length+1:=by
   rw[<-lKg,ae,lJf,pl]
  have ep_:(t.put j).1.place=SetTable.insertAt t.place (SetTable.below t.place j) j:=rfl
  have plc:(t.put j).1.place.size=es.length+1:=by
   rw[ep_,<-lKg,SetTable.toList_insertAt]
   have:=d.len
   simp
   omega
  have rs:St.Ris (t.put j).1.place:=by rw[ep_];exact St.insertAt_ris d.ris hj
  have dm:(t.put j).1.dummies= #[]:=by
   show (if SetTable.has t.dummies j=true then _ else t.dummies)= #[]
   rw[d.dum,St.has_nil];rfl
  have mk:(t.put j).1.mask=t.mask:=rfl
  have hpl:(t.put j).1.plain=true:=d.plain
  have lm:es.length+1<=t.mask:=by rcases d.mask with ⟨e,z⟩ | ⟨e,z⟩ | ⟨e,z⟩<;>omega
  have ft:(t.put j).1.fits (SetTable.insertAt arr (t.put j).2 (hashInt k,Value.int k tk)).size=true:=qQt dm (plc.trans asz.symm) (by rw[asz];exact lm)
  have eL:layNew t arr (hashInt k) (.int k tk)=(SetTable.insertAt arr (t.put j).2 (hashInt k,Value.int k tk),(t.put j).1,false,false):=by
   unfold layNew
   rw[ej]
   dsimp only
   unfold SetTable.orStandIn
   rw[lJc ft,ft]
   rfl
  rw[eL]
  dsimp only
  have fl:(t.put j).1.fill=es.length+1:=by
   unfold SetTable.fill
   rw[dm,plc];rfl
  refine lJa (lJd ?_)
  rw[lJc hpl]
  refine lJa (lJd ?_)
  simp only[↓reduceIte]
  refine lJa (wpAny_storeSet_of d.get d.data ?_ (by rw[asz,lKy];omega))
  have sb1:=lVm s.heap a (Obj.putSet (SetTable.insertAt arr (t.put j).2 (hashInt k,Value.int k tk)) (t.put j).1)
  have ob1:=qKa d.get d.data (SetTable.insertAt arr (t.put j).2 (hashInt k,Value.int k tk)) (t.put j).1
  by_cases full:(t.put j).1.tooFull=true
  ·rw[full]
   simp only[Bool.not_false,Bool.and_self,↓reduceIte]
   have full':(es.length+1)*5>=t.mask*3:=by
    unfold SetTable.tooFull at full
    rw[fl,mk] at full
    exact lY6 full
   have w1:MaskOk (SetTable.sizeAbove (SetTable.grown (es.length+1))-1) (putN (t.put j).2 (k,tk) es).length:=by
    rw[pl]
    rcases d.mask with ⟨e,z⟩ | ⟨e,z⟩ | ⟨e,z⟩
    ·have:es.length=4:=by omega
     rw[this];exact .inr (.inl ⟨by decide,by omega⟩)
    ·have:es.length=18:=by omega
     rw[this];exact .inr (.inr ⟨by decide,by omega⟩)
    ·omega
   rw[asz]
   obtain⟨arr',t',es',q1,q2,q3,q4,q5,q6,q7,q8,q9⟩:=relayN (t:=(t.put j).1) ae rfl w1
   rw[q1]
   dsimp only
   have l':es'.length=es.length+1:=by rw[q2.length_eq,pl]
   have a':arr'.size=es.length+1:=by rw[<-lKg,q3,lJf,l']
   refine lJa (lJd (lJa (wpAny_storeSet_of (s:={s with heap:=s.heap.update a (Obj.putSet (SetTable.insertAt arr (t.put j).2 (hashInt k,Value.int k tk)) (t.put j).1)}) ob1 rfl (lJd (lJd ?_)) (by rw[a',lKy];omega))))
   refine h2 hnk _ _ _ _ t' es' (sb1.trans (lVm _ a _)) (q2.trans (jZo _ _ _)) q8 ⟨qKa ob1 rfl _ _,d.exact_,rfl,q3,q4,by rw[q5,pl,l'],q6,?_,q9.trans hpl⟩
   rw[q7,l'];rw[pl] at w1;exact w1
  ·rw[show (t.put j).1.tooFull=false from by simpa using full]
   simp only[Bool.and_false,lKf,↓reduceIte]
   have full':(es.length+1)*5<t.mask*3:=by
    unfold SetTable.tooFull at full
    rw[fl,mk] at full
    simpa using full
   refine lJd (lJd (h2 hnk _ _ _ _ (t.put j).1 _ sb1 (jZo _ _ _) rfl ⟨ob1,d.exact_,rfl,ae,rs,by rw[plc,pl],dm,?_,hpl⟩))
   rw[pl,mk]
   rcases d.mask with ⟨e,_⟩ | ⟨e,_⟩ | ⟨e,_⟩
   ·exact .inl ⟨e,by omega⟩
   ·exact .inr (.inl ⟨e,by omega⟩)
   ·exact .inr (.inr ⟨e,by omega⟩)
end
section
variable {w:World} {prog:Program}
structure PutN (es:List (Int×Tok)) (is:List Int):Prop where
 nod:(es.map (·.1)).Nodup
 mem:∀z,z∈es.map (·.1)↔z∈is
theorem PutN.old {es:List (Int×Tok)} {is:List Int} (p:PutN es is) {k:Int} (h:k∈es.map (·.1)):PutN es (is++[k]):=by
 refine⟨p.nod,fun z=> ?_⟩
 rw[p.mem,lJn,lJt]
 refine⟨.inl,fun q=>q.elim id fun e=> ?_⟩
 rw[e];exact (p.mem k).mp h
theorem PutN.new {es es':List (Int×Tok)} {is:List Int} (p:PutN es is) {k:Int} {tk:Tok} (h:k∉es.map (·.1)) (hp:es'.Perm ((k,tk)::es)):PutN es' (is++[k]):=by
 have hm:(es'.map (·.1)).Perm (k::es.map (·.1)):=hp.map _
 refine⟨hm.nodup_iff.mpr (lK2.mpr ⟨h,p.nod⟩),fun z=> ?_⟩
 rw[hm.mem_iff,lJr,p.mem,lJn,lJt]
 exact⟨Or.symm,Or.symm⟩
theorem PutN.few {es:List (Int×Tok)} {is us:List Int} (p:PutN es is) (h:∀z,z∈is->z∈us):es.length<=us.length:=by
 have h1:(es.map (·.1)) ⊆ us:=fun z hz=>h z ((p.mem z).mp hz)
 have:=p.nod.length_le_of_subset h1
 simpa using this
def SetNs (prog:Program) (w:World) (h:Heap) (a:Addr) (is:List Int):Prop:=∃o arr ep t es,SetN prog w h a o arr ep t es/\PutN es is/\t.led= !bt w
theorem SetNs.move {h h':Heap} {a:Addr} {is:List Int} (d:SetNs prog w h a is) (hg:∀o,h.get? a=some o->h'.get? a=some o):SetNs prog w h' a is:=by
 obtain⟨o,arr,ep,t,es,d,p,l⟩:=d
 exact⟨o,arr,ep,t,es,d.move (hg o d.get),p,l⟩
section
variable {A:Around} {R:Result->Shared->Prop} {I:Addr} {fp:List Addr} {G:Array GenState->Array GenState->Prop} {n:Nat} {P:Nat->Value->Prop} {St:Nat->Shared->Prop}
theorem qJq (W:WalksS prog w A.in1 I fp [I] G n P St) (S:Addr) (hSf:S∉fp) (kb:List Int)
  (hval:∀i v,P i v->∃k tk,kb[i]? =some k/\v= .int k tk) (hn:n=kb.length) {us:List Int} (hus:us.length<64) (hkus:∀z,z∈kb->z∈us):
  ∀(q i:Nat) (s:Shared),n-i=q->i<=n->St i s->SetNs prog w s.heap S (kb.take i)->
   (∀s',Moved (S::[I]) G s s'->SetNs prog w s'.heap S kb->R (.ok (.ret .none)) s')->codeAny (model prog w) A (.builtin "set.update.loop" ⟨[.ref S,.ref I],[]⟩) R s:=by
 have hSw:S∉[I]:=fun h=>hSf (W.sub _ h)
 have hsub:∀b∈[I],b∈S::[I]:=fun b hb=>lJ1 _ hb
 intro q
 induction q with
 | zero=>
  intro i s hq hi hst hS hR
  have hin:i=n:=by omega
  subst hin
  refine lQe PyProof.Rows.F.entry_set_update_loop ?_
  rw[lQj lYu _]
  refine (show wpAny _ A.in1 (pyNext (.ref I) >>= _) _ _ s from ?_)
  (refine lJa (W.done s _ _ hst fun s' hm=> ?_))
  refine (show wpAny _ A.in1 (ret Value.none) _ _ s' from ?_)
  refine lJd (hR s' (hm.mono hsub) ?_)
  rw[hn,lQq] at hS
  exact hS.move (fun o e=>hm.heap S o hSw e)
 | succ q ih=>
  intro i s hq hi hst hS hR
  have hlt:i<n:=by omega
  refine lQe PyProof.Rows.F.entry_set_update_loop ?_
  rw[lQj lYu _]
  refine (show wpAny _ A.in1 (pyNext (.ref I) >>= _) _ _ s from ?_)
  (refine lJa (W.item i s _ _ hlt hst fun v s' hP hst' hm=> ?_))
  obtain⟨k,b,he,rfl⟩:=hval i v hP
  have hmem:k∈kb:=lJu he
  have hS':=hS.move (h':=s'.heap) (fun o e=>hm.heap S o hSw e)
  refine (show wpAny _ A.in1 (holding [Value.int k b] (setAdd S (.int k b)) >>= _) _ _ s' from ?_)
  (refine lJa (lKx ?_))
  unfold setAdd
  refine lKx ?_
  refine lJa ((intKind prog w).pyHash (k:=k) (intKind_is _ _ _ _) ?_)
  obtain⟨o,arr,ep,t,es,d,p,l⟩:=hS'
  have hl:=p.few fun e he=>hkus e (lQz he)
  have tk1:kb.take (i+1)=kb.take i++[k]:=by
   rw[lQi,he];rfl
  refine uJ3 (s:={s' with toks:=s'.toks+1}) d (by omega) (fun z=> ?_) (fun z h' o' arr' ep' t' es' sb pe el d'=> ?_)
  ·refine lJd ⟨lQl lYu _,ih (i+1) _ (by omega) hlt (W.frame _ s' _ _ hst' (Nat.le_add_right _ _) fun b hb o e=>e) ?_ fun s'' hm'' hS''=> ?_⟩
   ·rw[tk1];exact⟨o,arr,ep,t,es,d,p.old z,l⟩
   ·exact hR s'' (Moved.trans W.gtrans ((hm.mono hsub).then_heap (Nat.le_add_right _ _) fun b o hb e=>e) hm'') hS''
  ·refine lJd ⟨lQl lYu _,ih (i+1) _ (by omega) hlt (W.frame _ s' _ _ hst' (Nat.le_add_right _ _) fun b hb o e=> ?_) ?_ fun s'' hm'' hS''=> ?_⟩
   ·exact (sb.2 b (fun z=>hSf (z▸hb))).trans e
   ·rw[tk1];exact⟨o',arr',ep',t',es',d',p.new z pe,el.trans l⟩
   ·refine hR s'' (Moved.trans W.gtrans ((hm.mono hsub).then_heap (Nat.le_add_right _ _) fun b o hb e=> ?_) hm'') hS''
    exact (sb.2 b (fun z=>hb (by rw[z];exact lJx ..))).trans e
end
section
variable {E:Value->Shared->Prop} {s:Shared} {A:Around}
theorem kY5 {led:Bool} (hl:led= !bt w) {h:Heap}:SetNs prog w (h.push {cls:= .type "set",dict:=none,data:= .set #[] 0 (.fresh 0 0 led)}) h.objs.size []:=
 ⟨_,#[],0,_,[],⟨lJ0 _ rfl,⟨rfl,rfl,rfl⟩,rfl,rfl,List.Pairwise.nil,rfl,rfl,.inl ⟨rfl,lJz _⟩,rfl⟩,⟨lVl,fun z=>Iff.rfl⟩,hl⟩
set_option maxHeartbeats 3201000 in
theorem qJr {l:Addr} {items:Array Value} {ps:List (Int×Tok)} {Q:Value->Shared->Prop} (hh:A.handled=none) (hl:s.heap.IsList l items) (hi:items.toList=ps.map fun e=> .int e.1 e.2) {us:List Int} (hus:us.length<64) (hkus:∀z,z∈ps.map (·.1)->z∈us)
  (h:∀(h':Heap) (tk:Nat),SetNs prog w h' s.heap.objs.size (ps.map (·.1))->(∀b o,s.heap.get? b=some o->h'.get? b=some o)->Q (.ref s.heap.objs.size) {s with heap:=h',toks:=tk}):wpAny (model prog w) A (call (.type "set") [.ref l]) Q E s:=by
 (obtain⟨c,tl,hmro⟩:=lVp.mro)
 (have hmade:=lVp.made)
 have hsub:=lVp.sub
 have hsz:items.size=(ps.map (·.1)).length:=by rw[<-lKg,hi,lJf,lJf]
 (refine wpAny_call (codeAny_of_tree ?_))
 refine (show wpAny _ _ (callAny (.type "set") _) _ _ _ from ?_)
 (refine lJd ⟨Code.quiet_builtin _ (by decide +kernel),lQe F.entry_type_call ?_⟩)
 (rw[Around.under_plain (weight_type_call_type "set" [.ref l] []) rfl])
 (have h1:=lVp.notType)
 (have h2:=lVp.canCreate)
 (have hct:=F.typeCall_set_1 (.ref l))
 (repeat (any_goals (first | assumption | wp_step)))
 refine codeAny_mono (qUz (.ref l) (E:=E) (Q₁:=fun obj s₁=>obj= .ref s.heap.objs.size/\s₁={s with heap:=s.heap.push (jVr w)}) ⟨rfl,rfl⟩) fun r s₁ hr=> ?_
 cases r with
 | error e=>exact hr
 | ok fl=>
  cases fl with
  | ret obj=>
   obtain⟨rfl,rfl⟩:=hr
   have hS:(s.heap.push (jVr w)).get? s.heap.objs.size=some (jVr w):=lJ0 _ rfl
   have hT:Shared.TypeIs {s with heap:=s.heap.push (jVr w)} (.ref s.heap.objs.size) "set":=⟨_,hS,rfl⟩
   (have hli:=lVp.init.lookup)
   (have hbi:=lVp.init.bind (.ref s.heap.objs.size))
   (repeat (any_goals (first | assumption | wp_step)))
   refine codeAny_mono (codeAny_call_builtin (R:=wants (fun r s₂=>r= .none/\∃h' tk,s₂={s with heap:=h',toks:=tk}/\SetNs prog w h' s.heap.objs.size (ps.map (·.1))/\(∀b o,s.heap.get? b=some o->h'.get? b=some o)) E) lVp.init.plain F.entry_set_init (check_set_init_1 hT ?_)) fun r₂ s₂ hr₂=> ?_
   ·(obtain⟨ol,hol,hcl,nl,hdl⟩:=hl)
    (obtain⟨ocls,odict,odata,oslots⟩:=ol)
    simp only at hcl hdl
    subst hcl;subst hdl
    have hol':(s.heap.push (jVr w)).get? l=some {cls:= .type "list",dict:=odict,data:= .seq items nl,slots:=oslots}:=lJk _ hol
    have hsls:=F.sub_list_set
    (have hslf:=F.sub_list_frozenset)
    (have hne:(Value.type "list" == Value.type "dict")=false:=by decide)
    have hl1:(s.heap.push (jVr w)).IsList l items:=⟨_,hol',rfl,nl,rfl⟩
    (unfold Builtin.«set.__init__» noKeywords Builtin.Frozenset.updateFrom)
    generalize hPI:pyIter=PI
    unfold jVr at hS hol' hl1 ⊢
    wp_walk
    subst hPI
    (refine lYf hl1 ?_)
    (refine lJa (wpAny_runValue ?_))
    (have hlS:l<s.heap.objs.size:=lJi hol)
    (have hh3:A.in1.in1.in1.handled=none:=by simp[hh])
    have hneI:l≠(s.heap.push (jVr w)).objs.size:=by
     (rw[lVn];exact lJm (Nat.lt_succ_of_lt hlS))
    have hSf:s.heap.objs.size∉[(s.heap.push (jVr w)).objs.size,l]:=by
     rw[lVn];simp only[lJr,lKt,lQk,not_or]
     (exact⟨lJm (Nat.lt_succ_self _),lK7 hlS⟩)
    have hval:∀(i:Nat) (v:Value),items[i]? =some v->∃k tk,(ps.map (·.1))[i]? =some k/\v= .int k tk:=by
     intro i v hv
     rw[<-lKe,hi,lKj] at hv
     obtain⟨e,e1,e2⟩:=lQ7.mp hv
     exact⟨e.1,e.2,by rw[lKj,e1];rfl,e2.symm⟩
    have up:∀b o,s.heap.get? b=some o->((s.heap.push (jVr w)).push {cls:= .type "list_iterator",data:= .fields #[.ref l,.int 0 0]}).get? b=some o:=fun b o e=>lJk _ (lJk _ e)
    refine qJq (A:=A.in1.in1) ((Walks.list hh3 _ l hneI items).toS) s.heap.objs.size hSf (ps.map (·.1)) hval hsz hus hkus (items.size-0) 0 _ (by omega) (lJz _) ⟨⟨_,lJ0 _ rfl,rfl,rfl⟩,(hl1.push _)⟩ ?hS0 ?hR
    case hS0=>
     exact (kY5 (prog:=prog) (w:=w) rfl (h:=s.heap)).move (fun o e=>lJk _ e)
    case hR=>
     intro s' hm hS'
     (obtain⟨h',g',d',tk',os'⟩:=s')
     cases (show g'=s.gens from hm.gens)
     cases (show d'=s.drawn from hm.drawn)
     cases (show os'=s.os from hm.os)
     refine (show wpAny _ _ _ _ _ _ from lJd ?_)
     refine (show wpAny _ _ (ret Value.none) _ _ _ from lJd ⟨rfl,h',tk',rfl,hS',fun b o e=> ?_⟩)
     have hb:=lJi e
     refine hm.heap b o ?_ (up b o e)
     simp only[lJr,lKt,lQk,not_or]
     exact⟨lJm hb,by rw[lVn];exact lJm (Nat.lt_succ_of_lt hb)⟩
   ·cases r₂ with
    | error e=>exact hr₂
    | ok fl₂=>
     cases fl₂ with
     | ret r=>
      (obtain⟨rfl,h',tk,rfl,hS',hk'⟩:=hr₂)
      (repeat (any_goals (first | assumption | wp_step)))
      exact h _ _ hS' hk'
     | _=>exact hr₂.elim
  | _=>exact hr.elim
end
end
section
variable {prog:Program} {w:World} {A:Around} {E:Value->Shared->Prop} {s:Shared}
theorem kV7 {t:SetTable} (g:St.Ris t.place) (hb:bt w=false) {i:Nat} (hi:i<=t.place.size):SetTable.below t.place (jVn w t i)=i:=by
 unfold jVn
 rw[hb,lJb (by decide)]
 by_cases c:i=0
 ·subst c;exact St.below_zero g
 ·rw[lJb c,St.getD_at (by omega),St.below_next g (by omega)]
  omega
theorem SetN.stateB {h0:Heap} {S:Addr} {o:Obj} {arr:Array (Int×Value)} {ep:Nat} {t:SetTable} {es:List (Int×Tok)} (d:SetN prog w h0 S o arr ep t es) (hg:s.heap.get? S=some o) {Q:(Array (Int×Value)×Nat×SetTable)->Shared->Prop} (h:Q (arr,ep,t) s):wpAny (model prog w) A (setState S) Q E s:=
 wpAny_setState_of hg d.data d.fits h
theorem qQb {S:Addr} {o:Obj} {arr:Array (Int×Value)} {ep:Nat} {t:SetTable} {es:List (Int×Tok)} (d:SetN prog w s.heap S o arr ep t es) {Q:Value->Shared->Prop}
  (hQ:Q (.ref s.heap.objs.size) {s with heap:=s.heap.push {cls:= .type "set_iterator",data:= .fields #[.int 0 0,.int 0 0,.ref S,.int es.length 0,.int ep 0]} }):wpAny (model prog w) A (pyIter (.ref S)) Q E s:=by
 have hT:s.TypeIs (.ref S) "set":=⟨o,d.get,d.exact_.1⟩
 refine wpAny_pyIter_slot hT PySem.F.slot_set_iter (lQa PySem.F.slot_set_iter hT Si.entry_iter ?_ (PySem.F.args_set_iter_1 _))
 unfold Builtin.«frozenset.__iter__» Builtin.Frozenset.slot0 slotArgs
 (simp only[List.isEmpty_nil,Bool.not_true,lKf,↓reduceIte,bind_assoc,lQp,bne_self_eq_false])
 (unfold Builtin.Frozenset.addrOf Builtin.Frozenset.sizeOf)
 refine lJa (lJd ?_)
 try dsimp only
 refine lJa (lJd ?_)
 simp only[setEntries,setDrawn,bind_assoc]
 refine lJa (d.state ?_)
 refine lJa (lJd (lJa (lJd (lJa (d.state ?_)))))
 dsimp only[setsByText]
 refine lJa (lJa (lYk (lJd (lJa (lJd ?_)))))
 rw[lJb (fun z=> ?_)]
 ·(refine lJa (lJd ?_))
  unfold setEpoch
  refine lJa (lJa (d.state (lJd ?_)))
  refine lJa (lK0 (lJd ⟨_,rfl,"set_iterator",_,⟨_,lJ0 _ rfl,rfl⟩,Si.slot_next.lookup,?_⟩))
  have:=d.size
  simpa[rawInt,this] using hQ
 ·have z':(!(w.params.followText "set-order")&&(!t.plain&&decide (arr.size>1)))=true:=z
  rw[d.plain] at z'
  simp at z'
theorem jZb {h0:Heap} {S:Addr} {o:Obj} {arr:Array (Int×Value)} {ep:Nat} {t:SetTable} {es:List (Int×Tok)} (d:SetN prog w h0 S o arr ep t es) (hg:s.heap.get? S=some o) (hl:t.led= !bt w) {i:Nat} (hi:i<=arr.size) {Q:Option (Value×Nat)->Shared->Prop}
  (hQ:Q (((ordS w S ep arr)[i]?).map fun e=>(e.2,jVn w t (i+1))) s):wpAny (model prog w) A (setNext S (jVn w t i) i ep) Q E s:=by
 have hp:t.place.size=arr.size:=by
  rw[d.len,d.size]
 unfold setNext
 refine lJa (d.stateB hg ?_)
 dsimp only[setsByText]
 (refine lJa (lJa (lYk (lJd ?_))))
 refine (show wpAny _ _ (if bt w=true then _ else _) _ _ _ from ?_)
 cases hb:bt w with
 | true=>
  rw[lJc rfl,lJb (by simp)]
  unfold setWalk
  refine lJa (lJa (d.stateB hg ?_))
  dsimp only[setsByText]
  (refine lJa (lJa (lYk (lJd ?_))))
  refine (show wpAny _ _ (if bt w=true then _ else _) _ _ _ from ?_)
  rw[hb,lJc rfl]
  refine lJa (lYk (lJd (lJd ?_)))
  have e1:jVn w t i=jVn w t (i+1):=by unfold jVn;rw[hb];rfl
  unfold ordS at hQ
  rw[hb,lJc rfl,<-e1] at hQ
  exact hQ
 | false=>
  rw[lJb (by decide)]
  rw[lJb (fun z=> ?_)]
  ·refine lJa (m:=(if (!t.led&& !arr.isEmpty)=true then unsupported "set:maker-not-led" else pure ())) ?_
   rw[hl,hb]
   simp only[Bool.not_false,Bool.not_true,Bool.false_and,lKf,↓reduceIte]
   (refine lJd (lJd ?_))
   rw[kV7 d.ris hb (by omega)]
   unfold ordS at hQ
   rw[hb,lJb (by decide)] at hQ
   by_cases c:i<arr.size
   ·have hi':i<t.place.size:=by omega
    rw[lK3 c,lK3 hi']
    rw[lK3 c] at hQ
    dsimp only
    have e1:jVn w t (i+1)=t.place[i]+1:=by
     unfold jVn
     rw[hb,lJb (by decide),lJb (by omega),lYv,St.getD_at hi']
    rw[e1] at hQ
    exact hQ
   ·rw[lQy (by omega)]
    rw[lQy (by omega)] at hQ
    exact hQ
  ·have z':(!t.plain&&decide (arr.size>1))=true:=z
   rw[d.plain] at z'
   simp at z'
theorem qKw {h0:Heap} {S I:Addr} {o:Obj} {arr:Array (Int×Value)} {ep:Nat} {t:SetTable} {es:List (Int×Tok)} (d:SetN prog w h0 S o arr ep t es) (hl:t.led= !bt w) (hg:s.heap.get? S=some o) {i:Nat} (hI:s.heap.get? I=some (kZo S ep arr.size (jVn w t i) i)) {e:Int×Value} (he:(ordS w S ep arr)[i]? =some e) {Q:Option Value->Shared->Prop}
  (hQ:∀h',Heap.SameBut I s.heap h'->h'.get? I=some (kZo S ep arr.size (jVn w t (i+1)) (i+1))->Q (some e.2) {s with heap:=h'}):wpAny (model prog w) A (pyNext (.ref I)) Q E s:=by
 have hT:s.TypeIs (.ref I) "set_iterator":=⟨_,hI,rfl⟩
 have hsz:(ordS w S ep arr).size=arr.size:=by rw[<-lKg,(jXk w S ep arr).length_eq,lKg]
 have hi:i<arr.size:=by have:=(lY9.mp he).1;omega
 unfold pyNext
 refine lJa (lV9 (lVi (name:=Str.ofString "__next__") hT Si.slot_next (lQa Si.slot_next hT Si.entry_next ?_ (Si.args_next _))))
 unfold Builtin.«set_iterator.__next__»
 refine lJa (lJd ?_)
 refine lJa (lXq hI rfl ?_)
 dsimp only
 unfold setEntries
 refine lJa (lJa (d.stateB hg (lJd ?_)))
 dsimp only
 rw[lJb (by simp)]
 simp only[lVz]
 refine lJa (jZb d hg hl (lVw hi) ?_)
 rw[he]
 dsimp only[Option.map_some]
 refine lJa (wpAny_setField_rec hI (by simp) fun h1 e1 sb1=> ?_)
 refine lJa (wpAny_setField_rec (s:={s with heap:=h1}) e1 (by simp) fun h2 e2 sb2=> ?_)
 refine lJd ⟨_,rfl,lJd (hQ h2 (sb1.trans sb2) ?_)⟩
 simpa[rawInt,kZo] using e2
theorem qXe {h0:Heap} {S I:Addr} {o:Obj} {arr:Array (Int×Value)} {ep:Nat} {t:SetTable} {es:List (Int×Tok)} (d:SetN prog w h0 S o arr ep t es) (hl:t.led= !bt w) (hh:A.handled=none) (hg:s.heap.get? S=some o) (hI:s.heap.get? I=some (kZo S ep arr.size (jVn w t arr.size) arr.size)) {Q:Option Value->Shared->Prop}
  (hQ:∀h',Heap.ExtBut I s.heap h'->Q none {s with heap:=h'}):wpAny (model prog w) A (pyNext (.ref I)) Q E s:=by
 have hT:s.TypeIs (.ref I) "set_iterator":=⟨_,hI,rfl⟩
 have hsz:(ordS w S ep arr).size=arr.size:=by rw[<-lKg,(jXk w S ep arr).length_eq,lKg]
 unfold pyNext
 refine lJa (lV9 (lVi (name:=Str.ofString "__next__") hT Si.slot_next (lQa Si.slot_next hT Si.entry_next ?_ (Si.args_next _))))
 unfold Builtin.«set_iterator.__next__»
 refine lJa (lJd ?_)
 refine lJa (lXq hI rfl ?_)
 dsimp only
 unfold setEntries
 refine lJa (lJa (d.stateB hg (lJd ?_)))
 dsimp only
 rw[lJb (by simp)]
 simp only[lVz]
 refine lJa (jZb d hg hl (lJg _) ?_)
 rw[lQy (by omega)]
 dsimp only[Option.map_none]
 refine lJa (wpAny_setField_rec hI (by simp) fun h1 e1 sb1=> ?_)
 refine (show wpAny _ _ (newExc (.type "StopIteration") [] >>= _) _ _ _ from lJa ?_)
 simp only[newExc,newTuple];refine lJa (lK0 ?_ (by size_fits));refine lJa (m:=firstArgMember _ _) (wpAny_of_eq (a:=Value.none) (by first | rfl | (simp only[firstArgMember];rfl)) (lK0 ?_ (by size_fits)))
 simp only[raiseNew];refine lJa (wpAny_handled ?_);rw[show A.in1.handled=none from hh];refine lJa (lJd (wpAny_throw ?_))
 exact lJa (lV6 (T:="StopIteration") (b:=true) ⟨_,lJ0 _ rfl,rfl⟩ isSubtype_stop (lJd (hQ _ ((sb1.extBut.push _).push _))))
theorem kYx {h0:Heap} {S I:Addr} {o:Obj} {arr:Array (Int×Value)} {ep:Nat} {t:SetTable} {es:List (Int×Tok)} (d:SetN prog w h0 S o arr ep t es) (hl:t.led= !bt w) (hh:A.handled=none) (hIS:I≠S):
  WalksS prog w A I [I,S] [I] (fun a b=>b=a) arr.size (fun i v=>((ordS w S ep arr)[i]?).map (·.2)=some v) (fun i s=>s.heap.get? S=some o/\s.heap.get? I=some (kZo S ep arr.size (jVn w t i) i)) where
 sub:=fun b hb=>by rw[lJt.mp hb];exact lJx ..
 grefl:=fun _=>rfl
 gtrans:=fun _ _ _ h1 h2=>(h2.trans h1)
 frame:=fun i s h' _ st _ hk=>⟨hk S (by simp) _ st.1,hk I (by simp) _ st.2⟩
 item:=by
  intro i s Q E hi st hQ
  have hsz:(ordS w S ep arr).size=arr.size:=by rw[<-lKg,(jXk w S ep arr).length_eq,lKg]
  refine qKw d hl st.1 st.2 (e:=(ordS w S ep arr)[i]) (lK3 (by omega)) fun h' sb e=> ?_
  refine hQ _ _ (by rw[lK3 (by omega)];rfl) ⟨(sb.2 S (fun z=>hIS z.symm)).trans st.1,e⟩ ⟨fun b ob hb e=> ?_,rfl,rfl,rfl,lJg _⟩
  exact (sb.2 b (fun z=>hb (lJt.mpr z))).trans e
 done:=by
  intro s Q E st hQ
  refine qXe d hl hh st.1 st.2 fun h' eb=>hQ _ ⟨fun b ob hb e=> ?_,rfl,rfl,rfl,lJg _⟩
  exact eb b ob (fun z=>hb (lJt.mpr z)) e
 self:=by
  intro i s Q E st hQ
  have hT:s.TypeIs (.ref I) "set_iterator":=⟨_,st.2,rfl⟩
  refine wpAny_pyIter_slot hT Si.slot_iter (lQa Si.slot_iter hT Si.entry_it ?_ (Si.args_it _))
  exact (show wpAny _ _ (ret (.ref I)) _ _ s from lJd ⟨_,rfl,"set_iterator",_,hT,Si.slot_next.lookup,hQ⟩)
theorem kVy {R:Result->Shared->Prop} {S L:Addr} {o:Obj} {arr:Array (Int×Value)} {ep:Nat} {t:SetTable} {es:List (Int×Tok)} (d:SetN prog w s.heap S o arr ep t es) (hl:t.led= !bt w) (hh:A.handled=none) (res:Value) (c0:Nat)
  (hL:s.heap.get? L=some {cls:= .type "list",data:= .seq #[] c0}) (hLS:L≠S)
  (hR:∀(g:Heap) (tk:Nat) (acc:Array Value) (c':Nat),(∀b ob,b≠L->s.heap.get? b=some ob->g.get? b=some ob)->g.get? L=some {cls:= .type "list",dict:=none,data:= .seq acc c',slots:= #[]}->ItemsOf (fun i v=>((ordS w S ep arr)[i]?).map (·.2)=some v) acc arr.size->R (.ok (.ret res)) {s with heap:=g,toks:=tk}):
  wpAny (model prog w) A.in1 (Builtin.List.listExtendWith (.ref L) (.ref S) res) (fun fin z=>match fin with | .done f=>R (.ok f) z | .again c'=>c'.quiet=true/\codeAny (model prog w) A c' R z) (fun e z=>R (.error e) z) s:=by
 have hT:s.TypeIs (.ref S) "set":=⟨o,d.get,d.exact_.1⟩
 have hIS:s.heap.objs.size≠S:=lK7 (lJi d.get)
 have hIL:L≠s.heap.objs.size:=lJm (lJi hL)
 have hSf:L∉[s.heap.objs.size,S]:=by simp[hIL,hLS]
 have asz:arr.size<=sizeLine:=by
  rw[d.size,lKy]
  rcases d.mask with ⟨_,z⟩ | ⟨_,z⟩ | ⟨_,z⟩<;>omega
 (unfold Builtin.List.listExtendWith)
 (refine lJa (lQw hT ?_))
 have z1:Builtin.List.listSameRef (.ref L) (.ref S)=false:=by simp[Builtin.List.listSameRef,hLS]
 have z2:(Value.type "set" == Value.type "list")=false:=by decide
 have z3:(Value.type "set" == Value.type "tuple")=false:=by decide
 simp only[z1,z2,z3,Bool.or_false,lKf,lJ6]
 refine lJa (qQb d ?_)
 refine lJa (lKx (qV4 (o:=o) (lJk _ d.get) d.exact_.1 ?_))
 refine lXa (fun _=> ?_) fun z=>absurd (by decide +kernel) z
 refine lJa (lQd ?_)
 generalize hg1:s.heap.push {cls:=Value.type "set_iterator",data:=Data.fields #[Value.int 0 0,Value.int 0 0,Value.ref S,Value.int (es.length:Int) 0,Value.int (ep:Int) 0]}=h1
 have hI1:h1.get? s.heap.objs.size=some (kZo S ep arr.size (jVn w t 0) 0):=by
  rw[<-hg1,d.size,show jVn w t 0=0 by unfold jVn;split<;>rfl]
  exact lJ0 _ rfl
 have up:∀b ob,s.heap.get? b=some ob->h1.get? b=some ob:=fun b ob e=>by rw[<-hg1];exact lJk _ e
 have hL1:=up L _ hL
 refine lJa ?_
 refine (show wpAny _ A.in1 (updateSeq L (·.push .none) >>= fun _=>updateSeq L (·.pop)) _ _ {s with heap:=h1} from ?_)
 refine lJa (wpAny_updateSeq hL1 rfl ?_)
 have hL2:=lVx (Obj.mapSeq (·.push Value.none)) hL1 rfl
 refine wpAny_updateSeq (s:={s with heap:=h1.update L (Obj.mapSeq (·.push Value.none))}) hL2 rfl ?_
 have hL3:=lVx (Obj.mapSeq (·.pop)) hL2 rfl
 have oth:∀b ob,b≠L->h1.get? b=some ob->((h1.update L (Obj.mapSeq (·.push Value.none))).update L (Obj.mapSeq (·.pop))).get? b=some ob:=
  fun b ob hb e=>(lYn _ _ (Ne.symm hb)).trans ((lYn _ _ (Ne.symm hb)).trans e)
 refine lJd ⟨lQl F.plain_extend_loop _,?_⟩
 refine codeAny_extend_loopS (kYx (A:=A.in1) d hl hh hIS) asz L hSf res arr.size 0 _ #[] _ rfl (lJz _) ⟨oth S o (Ne.symm hLS) (up S o d.get),oth _ _ (Ne.symm hIL) hI1⟩ hL3 (ItemsOf.nil _) fun z acc c' hm hL' hacc=> ?_
 rw[Moved.eq_with hm]
 refine hR z.heap z.toks acc c' (fun b ob hb e=>hm.heap b ob ?_ (oth b ob hb (up b ob e))) hL' hacc
 simp only[lJr,lKt,lQk,not_or]
 exact⟨hb,lJm (lJi e)⟩
theorem kQ8 {S:Addr} {o:Obj} {arr:Array (Int×Value)} {ep:Nat} {t:SetTable} {es:List (Int×Tok)} (d:SetN prog w s.heap S o arr ep t es) (hl:t.led= !bt w) (hh:A.handled=none) {Q:List Value->Shared->Prop}
  (hQ:∀(g:Heap) (tk:Nat) (acc:List Value),(∀b ob,s.heap.get? b=some ob->g.get? b=some ob)->s.heap.objs.size<g.objs.size->acc.Perm (es.map fun e=> .int e.1 e.2)->Q acc {s with heap:=g,toks:=tk}):wpAny (model prog w) A (collect (.ref S)) Q E s:=by
 have hLS:s.heap.objs.size≠S:=lK7 (lJi d.get)
 have key:∀R:Result->Shared->Prop,(∀(g:Heap) (tk:Nat) (acc:Array Value) (c':Nat),(∀b ob,s.heap.get? b=some ob->g.get? b=some ob)->g.get? s.heap.objs.size=some {cls:= .type "list",dict:=none,data:= .seq acc c',slots:= #[]}->ItemsOf (fun i v=>((ordS w S ep arr)[i]?).map (·.2)=some v) acc arr.size->R (.ok (.ret (.ref s.heap.objs.size))) {s with heap:=g,toks:=tk})->
   codeAny (model prog w) A (.builtin "proto.collect" ⟨[.ref S],[]⟩) R s:=by
  intro R hR
  refine lQe F.entry_proto_collect ?_
  (rw[lQj F.plain_proto_collect _])
  refine (show wpAny _ A.in1 (newList [] >>= fun l=>again (.builtin "list.__iadd__" ⟨[l,.ref S],[]⟩)) _ _ s from lJa (lK0 (lJd ⟨lQl lYp _,lQe F.entry_list_iadd ?_⟩)))
  (rw[lQj lYp _])
  have hS1:(s.heap.push {cls:= .type "list",data:= .seq ([]:List Value).toArray}).get? s.heap.objs.size=some {cls:= .type "list",data:= .seq ([]:List Value).toArray}:=lJ0 _ rfl
  have d1:SetN prog w (s.heap.push {cls:= .type "list",data:= .seq ([]:List Value).toArray}) S o arr ep t es:=d.move (lJk _ d.get)
  exact kVy (A:=A) (R:=R) (s:={s with heap:=s.heap.push {cls:= .type "list",data:= .seq ([]:List Value).toArray} }) d1 hl hh (.ref s.heap.objs.size) 0 hS1 hLS fun g tk acc c' kp hL' hacc=>hR g tk acc c' (fun b ob e=>kp b ob (lJm (lJi e)) (lJk _ e)) hL' hacc
 unfold collect
 refine lJa (wpAny_runValue (key _ fun g tk acc c' kp hL' hacc=>(show wpAny _ A (load s.heap.objs.size >>= _) _ _ _ from lJa (wpAny_load hL' (lJd (hQ g tk acc.toList kp (lJi hL') ?_))))))
 have e1:acc.toList=(ordS w S ep arr).toList.map (·.2):=by
  have hsz:(ordS w S ep arr).size=arr.size:=by rw[<-lKg,(jXk w S ep arr).length_eq,lKg]
  apply lVk
  intro i
  rw[lKj,lKe,lKe]
  by_cases hi:i<acc.size
  ·have:=hacc.2 i acc[i] (lK3 hi)
   rw[lK3 hi]
   exact this.symm
  ·rw[lQy (by omega),lQy (by rw[hsz,<-hacc.1];omega)]
   rfl
 rw[e1]
 refine ((jXk w S ep arr).map _).trans ?_
 rw[d.arr_,lJy]
 exact .refl _
end
theorem kVu:∀(ps:List (Int×Tok)),IntsAre (ps.map fun p=>Value.int p.1 p.2) (ps.map (·.1))
 | []=> .nil
 | p::ps=> .cons _ _ (kVu ps)
theorem qZa {vs:List Value} {ns:List Int} (h:IntsAre vs ns):∃ps:List (Int×Tok),vs=ps.map (fun p=> .int p.1 p.2)/\ps.map (·.1)=ns:=by
 induction h with
 | nil=>exact⟨[],rfl,rfl⟩
 | @cons i t vs ns _ ih=>
  obtain⟨ps,e1,e2⟩:=ih
  exact⟨(i,t)::ps,by rw[lJq,e1],by rw[lJq,e2]⟩
theorem kZ3:∀(ps:List (Int×Tok)),Vals ((ps.map (·.1)).map V.int) (ps.map fun p=>Value.int p.1 p.2)
 | []=> .nil
 | p::ps=> .cons ⟨p.2,rfl⟩ (kZ3 ps)
theorem qJx {K:PySem.W.Frag} {H:Hp}:∀(is:List Int),Reps K H (is.map T.int) (is.map V.int)
 | []=>rfl
 | _::is=>⟨_,_,rfl,rfl,qJx is⟩
section
variable {prog:Program} {w:World} {A:Around} {E:Value->Shared->Prop} {s:Shared}
theorem kUz {S:Addr} {is us:List Int} (hS:SetNs prog w s.heap S is) (hh:A.handled=none) (hus:us.length<64) (hkus:∀z,z∈is->z∈us) {Q:Value->Shared->Prop}
  (k:∀(ps:List (Int×Tok)) (h':Heap) (tk:Nat) (D c:Nat),PutN ps is->s.heap.objs.size<=D->h'.get? D=some (seqObj "list" (List.toArray (ps.map fun e=>Value.int e.1 e.2)) c)->(∀p o,s.heap.get? p=some o->h'.get? p=some o)->Q (.ref D) {s with heap:=h',toks:=tk}):
  wpAny (model prog w) A (call (.builtin "sorted") [.ref S]) Q E s:=by
 obtain⟨o,arr,ep,t,es,d,p,l⟩:=hS
 have el:es.length<64:=Nat.lt_of_le_of_lt (p.few hkus) hus
 (refine Calls.call_function_entry kind_sorted plain_sorted entry_sorted (args_sorted1 _) ?_)
 unfold Builtin.«sorted»
 (refine lJa (m:=checkCount "sorted" 1 1 _) (lJd ?_))
 refine lJa (kQ8 (A:=A.in1) d l (by simpa using hh) fun g tk acc kp big pe=> ?_)
 obtain⟨es2,pe2,rfl⟩:=jV1 pe es rfl
 have l2:es2.length=es.length:=pe2.length_eq
 refine lJa (wpAny_newList ?_ (by rw[lJf,lKy];omega))
 have hoL:(g.push (seqObj "list" (List.toArray (es2.map fun e=>Value.int e.1 e.2)) 0)).get? g.objs.size=some (seqObj "list" (List.toArray (es2.map fun e=>Value.int e.1 e.2)) 0):=lJ0 _ rfl
 refine lJa (lKx (lQa slot_list_sort ⟨_,hoL,rfl⟩ entry_list_sort ?_ (args_list_sort _)))
 refine list_sort_tree (s:={s with heap:=g.push (seqObj "list" (List.toArray (es2.map fun e=>Value.int e.1 e.2)) 0),toks:=tk}) hoL (kVu es2) (by rw[lJf];omega) fun out ns' hI hp _=> ?_
 obtain⟨ps,e1,e2⟩:=qZa hI
 have eo:out=List.toArray (ps.map fun e=>Value.int e.1 e.2):=by rw[<-e1]
 subst eo
 subst e2
 have pp:(ps.map (·.1)).Perm (es.map (·.1)):=hp.trans (pe2.map _)
 have ho1:=get?_update_seq hoL fun _=>(#[]:Array Value)
 have ho2:=lJk (seqObj "list" #[] 0) (lJk (seqObj "tuple" (List.toArray (es2.map fun e=>Value.int e.1 e.2)) 0) ho1)
 have ho3:=get?_update_seq ho2 fun _=>List.toArray (ps.map fun (e:Int×Tok)=>Value.int e.1 e.2)
 refine⟨_,rfl,lJd ⟨_,rfl,k ps _ tk _ _ ⟨pp.nodup_iff.mpr p.nod,fun z=>pp.mem_iff.trans (p.mem z)⟩ (lVw big) ho3 fun q ob e=> ?_⟩⟩
 ·have ne:q≠g.objs.size:=lJm (lJ9 (lJi e) (lVw big))
  exact (lX6 _ _ _ _ ne).trans (lJk _ (lJk _ ((lX6 _ _ _ _ ne).trans (lJk _ (kp q ob e)))))
end
theorem kY2 {σ:List Int} {v:Int} (h:σ.Nodup):(step_dedup σ v).Nodup:=by
 unfold step_dedup
 split
 ·exact h
 ·rename_i c
  have hv:v∉σ:=fun z=>c (List.any_eq_true.mpr ⟨v,z,lYj _⟩)
  rw[lVa]
  refine⟨h,lK2.mpr ⟨lKt,lVl⟩,fun a ha b hb e=> ?_⟩
  rw[lJt.mp hb] at e
  exact hv (e▸ha)
theorem jVt (val:Nat->Int):∀i,(firstMet val i).Nodup
 | 0=>lVl
 | i+1=>by rw[firstMet_succ];exact kY2 (jVt val i)
theorem kQ1 (is:List Int) (z:Int):z∈firstMet (fun i=>is.getD i 0) is.length↔z∈is:=by
 have h:=firstMet_any (fun i=>is.getD i 0) is.length z
 have e:(List.range is.length).map (fun i=>is.getD i 0)=is:=by
  apply List.ext_getElem (by simp)
  intro i h1 h2
  simp[h2]
 rw[e] at h
 have c:∀l:List Int,l.any (· == z)=true↔z∈l:=fun l=>by
  rw[List.any_eq_true]
  exact⟨fun ⟨x,hx,q⟩=>(eq_of_beq q)▸hx,fun q=>⟨z,q,lYj z⟩⟩
 rw[<-c,<-c,h]
section
variable {X:Cx}
noncomputable def qJf (ta:TA3):TE3:=fun τ G Q=>ta τ G fun vs G1=>∃(x:T) (is:List Int),vs=[x]/\jQt G1 x=some (is.map T.int)/\is.length<=1000/\∀ys:List Int,ys.Nodup->(∀z,z∈ys↔z∈is)->Q (.int ys.length) G1
noncomputable def qJe (ta:TA3):TE3:=fun τ G Q=>ta τ G fun vs G1=>∃(x:T) (is:List Int),vs=[x]/\jQt G1 x=some (is.map T.int)/\is.length<=1000/\(∃us:List Int,us.length<64/\∀z,z∈is->z∈us)/\∀(p:Addr) (ys:List Int),G1 p=none->ys.Nodup->(∀z,z∈ys↔z∈is)->Q (.ref p) (gup G1 p (.lst (ys.map T.int)))
theorem uJi {pos pos' p p':Pos} {a:Expr} {ta:TA3} (hc:X.calm=true) (hu:X.A.units+20<cLine) (hl:Gl X "len") (hlm:X.mg "len"=none) (hlv:bootBuiltins "len"=some (.builtin "len")) (hg:Gl X "set") (hm:X.mg "set"=none) (hv:bootBuiltins "set"=some (.type "set")) (ha:PA3 X [a] ta) (hs:starEach [a] X.env=[(false,eval a X.env)]:=by rfl)
  (hs':starEach [Expr.Call (.Name "set" p) [a] [] pos] X.env=[(false,eval (.Call (.Name "set" p) [a] [] pos) X.env)]:=by rfl):
  PE3 X (.Call (.Name "len" p') [.Call (.Name "set" p) [a] [] pos] [] pos') (qJf ta):=by
 intro pins s τ G H Q I h
 obtain⟨σ,I0,_,_⟩:=id I
 refine Call_ (jUb I0 hl hlm hlv (lY8 ?_ hs' rfl))
 rw[hs']
 refine Calls.spliced_cons (Call_ (jUb I0 hg hm hv (lQ8 (thn (ha pos pins s τ G H _ I h) fun us s1 w_=>w_.el fun ys G1 H1 e1 i_ r_ q1=>i_.el fun σ1 I1 hs1 hg1=>r_.el fun as ras rvs=> ?_) hs rfl)))
 obtain⟨x,is,e,hx,hn,q⟩:=q1
 subst e
 obtain⟨v,rfl,rv⟩:=jQ8 ras
 obtain⟨u,rfl,ru⟩:=rvs.one
 obtain⟨pa,vs,rfl,hq,r⟩:=jUs hg1 rv hx
 cases ru
 cases jKu r
 obtain⟨its,rvv,pl,hz⟩:=I1.list hq
 obtain⟨ps,rfl,rfl⟩:=jQm rvv
 rw[lJf] at hn
 have sz:(ps.map fun p=>Value.int p.1 p.2).toArray.size=(ps.map (·.1)).length:=by simp
 refine call_set_list (I1.ok.hd hc) pl.isList (ns:=ps.map (·.1)) (by rw[List.toList_toArray];exact kVu ps) (by rw[sz,lJf];show _<4096;omega) fun h2 tk2 hS kp2=> ?_
 rw[sz] at hS
 obtain⟨o,es,ep,t,ho,hex,hd,_,_,hb,hf,en⟩:=hS
 refine Calls.spliced_nil ?_
 refine call_len_set (s:={s1 with heap:=h2,toks:=tk2}) ho hex hd hf (by have:es.size<4096:=hb;omega) ?_
 rw[en]
 refine⟨.int _,G1,H1,e1,⟨σ1,?_,hs1,hg1⟩,⟨.int _,rfl,⟨_,rfl⟩⟩,q _ (jVt _ _) (kQ1 _)⟩
 exact I1.kept fun b ob e=>kp2 b ob (lJi e) e
theorem uJh {pos pos' p p':Pos} {a:Expr} {ta:TA3} (hc:X.calm=true) (hu:X.A.units+20<cLine) (hl:Gl X "sorted") (hlm:X.mg "sorted"=none) (hlv:bootBuiltins "sorted"=some (.builtin "sorted")) (hg:Gl X "set") (hm:X.mg "set"=none) (hv:bootBuiltins "set"=some (.type "set")) (ha:PA3 X [a] ta) (hs:starEach [a] X.env=[(false,eval a X.env)]:=by rfl)
  (hs':starEach [Expr.Call (.Name "set" p) [a] [] pos] X.env=[(false,eval (.Call (.Name "set" p) [a] [] pos) X.env)]:=by rfl):
  PE3 X (.Call (.Name "sorted" p') [.Call (.Name "set" p) [a] [] pos] [] pos') (qJe ta):=by
 intro pins s τ G H Q I h
 obtain⟨σ,I0,_,_⟩:=id I
 refine Call_ (jUb I0 hl hlm hlv (lY8 ?_ hs' rfl))
 rw[hs']
 refine Calls.spliced_cons (Call_ (jUb I0 hg hm hv (lQ8 (thn (ha pos pins s τ G H _ I h) fun us s1 w_=>w_.el fun ys G1 H1 e1 i_ r_ q1=>i_.el fun σ1 I1 hs1 hg1=>r_.el fun as ras rvs=> ?_) hs rfl)))
 obtain⟨x,is,e,hx,hn,⟨us,hus,hkus⟩,q⟩:=q1
 subst e
 obtain⟨v,rfl,rv⟩:=jQ8 ras
 obtain⟨u,rfl,ru⟩:=rvs.one
 obtain⟨pa,vs,rfl,hq,r⟩:=jUs hg1 rv hx
 cases ru
 cases jKu r
 obtain⟨its,rvv,pl,hz⟩:=I1.list hq
 obtain⟨ps,rfl,rfl⟩:=jQm rvv
 refine qJr (ps:=ps) (I1.ok.hd hc) pl.isList (by rw[List.toList_toArray]) hus hkus fun h2 tk2 hS kp2=> ?_
 refine Calls.spliced_nil ?_
 have hS0:=hS
 refine kUz (s:={s1 with heap:=h2,toks:=tk2}) hS (I1.ok.hd hc) hus hkus fun ps' h3 tk3 D c hp hD hoD kp3=> ?_
 have kp:∀b o,s1.heap.get? b=some o->h3.get? b=some o:=fun b o e=>kp3 b o (kp2 b o e)
 have hD1:s1.heap.objs.size<=D:=by
  obtain⟨o,_,_,_,_,d,_⟩:=hS0
  exact lK1 (lVw (lJi d.get)) hD
 have fr:=I1.hok.fresh hD1
 have pl_:=hp.few hkus
 have I3:=I1.laid (a:=D) (o:= .lst ((ps'.map (·.1)).map V.int)) (h':=h3) (t':=tk3) kp hD1 ⟨by rw[lJf,lJf,lKy];omega,ps'.map fun e=>Value.int e.1 e.2,c,kZ3 ps',hoD⟩
 have ext:Ext H1 (upd H1 D (.lst ((ps'.map (·.1)).map V.int))):= .upd (.none fr)
 refine⟨.ref D,_,_,e1.trans ext,⟨σ1,I3,hs1.mono ext,hg1.lstNew (qJx _) (.none fr)⟩,⟨.ref D,rfl,rfl⟩,?_⟩
 exact q D (ps'.map (·.1)) (hg1.fresh fr) hp.nod hp.mem
end
end L3
namespace L3
open PySem PySem.Spec PyProof.Rows L2
section
variable {X:Cx}
noncomputable def jV0:T->List T->Gp->VK3->Prop:=fun x as G Q=>∃p q xs ys,x= .ref p/\as=[.ref q]/\G p=some (.lst xs)/\G q=some (.lst ys)/\xs.length+ys.length<=sizeLine/\Q .non (gup G p (.lst (xs++ys)))
theorem jXr:Mt3 X "list.extend" jV0:=by
 rintro pins s τ G H x as v us Q ⟨σ,I,hs,hg⟩ ⟨a,ra,rv⟩ ⟨bs,rbs,rus⟩ ⟨p,q,xs,ys,ex,ea,hp,hq,hz,k⟩
 subst ex;subst ea
 cases (show a= .ref p from ra);cases rv
 obtain⟨b1,rfl,r1⟩:=jQ8 rbs
 cases (show b1= .ref q from r1)
 obtain⟨u1,rfl,ru1⟩:=rus.one
 cases ru1
 obtain⟨vs,h1,h2⟩:=hg.lst hp
 obtain⟨ws,h3,h4⟩:=hg.lst hq
 obtain⟨z,its,n,r,hl,e⟩:=I.lstM h1
 obtain⟨z',its',n',r',hl',e'⟩:=I.lstM h3
 have hlen:=h2.length
 have hlen':=h4.length
 have q1:=r.length
 have q2:=r'.length
 have hc:¬(!its.toArray.isEmpty&&Builtin.List.listTooLong (its.toArray.size+its'.toArray.size))=true:=by
  have:Builtin.List.listTooLong (its.toArray.size+its'.toArray.size)=false:=by
   unfold Builtin.List.listTooLong
   (rw[lJw,lJw])
   exact lJv (by omega)
  rw[this,Bool.and_false];exact lJs
 refine call_meets F.slot_list_extend ⟨_,e,rfl⟩ F.entry_list_extend (F.args_list_extend_2 _ _) (AutoSeq1.list_extend_list_list_0 p its.toArray n q its'.toArray n' hc (by rw[lJw];omega) (by rw[lJw,lJw];omega)) ⟨e,e',?_⟩
 have e2:Ext H (upd H p (.lst (vs++ws))):= .upd (.lst h1)
 refine⟨.non,_,_,e2,⟨σ,I.lset (its':=its++its') h1 e ?_ (r.append r') ?_,hs.mono e2,hg.lstNew (xs:=xs++ys) (h2.append h4) (.lst h1)⟩,⟨.non,rfl,rfl⟩,k⟩
 ·simp
 ·rw[lKc];omega
end
section
variable {X:Cx}
end
section
variable {X:Cx}
def jZt (b:Int):List Int->Int
 | []=>b
 | x::xs=>jZt (if x>b then x else b) xs
theorem kZe (xs:List Int):∀(b y:Int),jZt b (xs++[y])=if y>jZt b xs then y else jZt b xs:=by
 induction xs with
 | nil=>intro b y;rfl
 | cons x xs ih=>intro b y;exact ih _ y
theorem kUg (f:Nat->Int):∀k,f (argBest (fun i j=>decide (f i>f j)) k)=jZt (f 0) ((List.range k).map fun i=>f (i+1)):=by
 intro k
 induction k with
 | zero=>rfl
 | succ k ih=>
  rw[lVc,lKl,List.map_singleton,kZe,<-ih]
  simp only[argBest,lKm]
  by_cases h:f (k+1)>f (argBest (fun i j=>decide (f i>f j)) k)
  ·rw[lJc h,lJc h]
  ·rw[lJb h,lJb h]
theorem qUe (hc:X.calm=true):kUr X (.builtin "max") (fun xs H Q=>∃p i is,xs=[.ref p]/\SqL X.K H p ((i::is).map V.int)/\Q (.int (jZt i is)) H):=by
 intro pins s σ H xs us Q I r h
 obtain⟨p,i,is,rfl,hx,q⟩:=h
 obtain⟨u,rfl,ru⟩:=kZ4 r
 cases ru
 obtain⟨its,r',pl,hz⟩:=I.list hx
 obtain⟨ps,e1,e2⟩:=jQm r'
 subst e1
 have hne:0<ps.toArray.size:=by
  have:=lJ8 List.length e2
  simp at this ⊢; omega
 have eI:(ps.map (fun p=>Value.int p.1 p.2)).toArray=intItems ps.toArray:=by simp[intItems]
 refine max_intList (xs:=ps.toArray) (I.ok.hd hc) (eI▸pl.isList) hne fun v h' tk hv k=> ?_
 obtain⟨t,rfl⟩:=(intItems_at hv)
 have hl:ps.toArray.size-1=is.length:=by
  have:=lJ8 List.length e2
  simp at this ⊢; omega
 have hn:∀j,numAt ps.toArray j=((i::is)[j]?).getD 0:=fun j=>by rw[<-e2];simp[numAt]
 refine⟨.int (jZt i is),H,I.kept k,?_,q⟩
 refine⟨t,?_⟩
 rw[kUg (numAt ps.toArray),hl]
 have a0:numAt ps.toArray 0=i:=by rw[hn];rfl
 have a1:((List.range is.length).map fun j=>numAt ps.toArray (j+1))=is:=by
  apply lVk ; intro j
  rw[lKj]
  by_cases hj:j<is.length
  ·rw[lX4 hj,lQh,hn,List.getElem?_cons_succ,lJp hj];rfl
  ·rw[lKo (by simpa using hj),lKo (by simpa using hj)];rfl
 rw[a0,a1]
def qY4:List T->Gp->VK3->Prop:=fun xs G Q=>∃p i is,xs=[.ref p]/\G p=some (.lst ((i::is).map T.int))/\Q (.int (jZt i is)) G
theorem c_maxL (hc:X.calm=true):Call3 X (.builtin "max") qY4:=
 Call3.of (qUe hc) fun H G xs as Q hg ra ⟨p,i,is,e,hG,q⟩=>by
  subst e
  obtain⟨v,rfl,rv⟩:=jQ8 ra
  cases (show v= .ref p from rv)
  obtain⟨vs,h1,h2⟩:=hg.lst hG
  have e:=jKu h2
  subst e
  exact⟨p,i,is,rfl,.of h1,.int _,G,.refl H,hg,rfl,q⟩
end
section
variable {X:Cx}
end
section
variable {X:Cx}
end
section
variable {X:Cx}
end
section
variable {P:Program} {w:World} {d:Addr}
end
section
variable {X:Cx}
end
section
variable {prog:Program} {w:World} {A:Around} {E:Value->Shared->Prop} {s:Shared}
end
section
variable {P:Program} {w:World} {A:Around} {E:Value->Shared->Prop} {s:Shared} {it l:Addr} {xs:Array Value}
end
section
variable {X:Cx}
end
end L3
namespace PySem
open Sem (wp)
set_option maxRecDepth 100000
theorem uJo:typeLookup (.type "list") "keys"=pure none:=by rw[lYg,lYh];kernel_rfl
theorem kQ5 {prog:Program} {w:World} {A:Around} {E:Value->Shared->Prop} {s:Shared} {a:Addr} {xs:Array Value} {k:Nat} {Q:Option Value->Shared->Prop} (hA:A.handled=none) (hx:s.heap.get? a=some {cls:= .type "list",dict:=none,data:= .seq xs k,slots:= #[]})
  (h:∀h' tk,(∀b o,s.heap.get? b=some o->h'.get? b=some o)->Q none {s with heap:=h',toks:=tk}):wpAny (model prog w) A (getAttr? (.ref a) "keys") Q E s:=by
 (obtain⟨hp,g,d,tk,os⟩:=s)
 (have hT:∀tk',(⟨hp,g,d,tk',os⟩:Shared).TypeIs (.ref a) "list":=fun _=>⟨_,hx,rfl⟩)
 have f1:=sub_AttributeError
 (have f3:=lZc.lookup)
 (have f4:=lZc.bind (.ref a))
 (have f5:=am_list_getattr_none)
 unfold getAttr? getAttrBy?
 (refine lJa (wpAny_mkText ?_))
 (refine lJa (lV9 ?_))
 unfold getAttrBy
 repeat (any_goals (first | assumption | exact hT _ | ((with_reducible show wpAny _ _ (call (Value.builtin "list.__getattribute__") _ _) _ _ _);refine call_meets lZc (hT _) am_entry_list_getattribute (F.args_list_getattribute_2 _ _) (meets_getattribute_miss_list a xs k #[] _ _ uJo (by decide +kernel) (by show 4+100<=sizeLine;rw[lKy];decide)) ⟨hx,hA,fun h' tk' e hx'=> ?_⟩) | wp_step))
 (obtain⟨t',u',he⟩:=hx'.there)
 refine (show wpAny _ _ (getattributeRaised _ _ _ _ _ _ _) _ _ _ from ?_)
 unfold getattributeRaised
 (repeat (any_goals (first | assumption | wp_step)))
 exact h _ _ hx'.keeps
end PySem
namespace L3
open PySem PySem.Spec PyProof.Rows L2
section
variable {prog:Program} {w:World} {A:Around} {E:Value->Shared->Prop} {s:Shared}
theorem jY1:entryFor table "dict.update.loop"=some Builtin.«dict.update.loop» :=entryFor_of_tree (by kernel_rfl)
theorem jQz:plainId "dict.update.loop"=true:=by decide +kernel
theorem qQ7 {p:Addr} {x y:Value} {Q:List Value->Shared->Prop} (hp:IsTup s.heap p #[x,y]) (k:Q [x,y] s):wpAny (model prog w) A (Builtin.Dict.pairItems (.ref p)) Q E s:=by
 obtain⟨o,ho,hc,n,hd⟩:=id hp
 unfold Builtin.Dict.pairItems
 refine lJa (lQw hp.typeIs ?_)
 rw[lJc (by decide)]
 exact lJa (wpAny_seqItems ho hd (lJd k))
theorem qQ6 {kvs:List (Key×Value)} {i:Int} {y:Value} (h:(Sum.inl i:Key)∉kvs.map (·.1)):stored kvs (.inl i) y=kvs++[(.inl i,y)]:=by
 unfold stored
 rw[lJb]
 intro z
 obtain⟨x,hx,e⟩:=List.any_eq_true.mp z
 exact h (lJl.mpr ⟨x,hx,lY6 e⟩)
structure DlAt (h:Heap) (l:Addr) (ts:List Addr) (ps:List ((Int×Tok)×Value)):Prop where
 li:h.IsList l (ts.map Value.ref).toArray
 len:ts.length=ps.length
 at_:∀(i:Nat) t p,ts[i]? =some t->ps[i]? =some p->IsTup h t #[.int p.1.1 p.1.2,p.2]
theorem DlAt.moved {h h':Heap} {l:Addr} {ts:List Addr} {ps:List ((Int×Tok)×Value)} (a:DlAt h l ts ps) (k:∀b o,h.get? b=some o->(o.cls= .type "tuple"\/b=l)->h'.get? b=some o):DlAt h' l ts ps:=
 ⟨a.li.at fun o e=>k _ o e (.inr rfl),a.len,fun i t p e1 e2=>let ⟨o,ho,hc,r⟩:=a.at_ i t p e1 e2;⟨o,k _ o ho (.inl hc),hc,r⟩⟩
def dlK (ps:List ((Int×Tok)×Value)):List (Key×Value):=ps.map fun p=>(Sum.inl p.1.1,p.2)
theorem uJn {R:Result->Shared->Prop} {it l d:Addr} {ts:List Addr} {ps:List ((Int×Tok)×Value)} (hh:A.handled=none) (dl:d≠l) (di:d≠it) (li:l≠it) (hn:(ps.map (·.1.1)).Nodup) (hs:ps.length<=sizeLine):
  ∀(k i:Nat) (s:Shared) (j:Int) (jt:Tok),ps.length-i=k->i<=ps.length->DlAt s.heap l ts ps->s.heap.IsListIter it l i->s.heap.DictOf (jJ4 prog w) d ((dlK ps).take i)->
   (∀h' t',h'.DictOf (jJ4 prog w) d (dlK ps)->(∀b o,b≠d->b≠it->s.heap.get? b=some o->h'.get? b=some o)->R (.ok (.ret .none)) {s with heap:=h',toks:=t'})->
   codeAny (model prog w) A (.builtin "dict.update.loop" ⟨[.ref d,.ref it,.int j jt,.none],[]⟩) R s:=by
 have zl:(dlK ps).length=ps.length:=by simp[dlK]
 intro k
 induction k with
 | zero=>
  intro i s j jt hk hi a hit hd hR
  have hin:i=ps.length:=by omega
  subst hin
  refine lQe jY1 ?_
  rw[lQj jQz _]
  refine (show wpAny _ A.in1 (pyNext (.ref it) >>= _) _ _ s from ?_)
  refine lJa (wpAny_pyNext_list_end (A:=A.in1) (by simpa using hh) hit a.li (by have:=a.len;simp;omega) fun h' kp=> ?_)
  refine (show wpAny _ A.in1 (Builtin.Dict.addKeywords d [] >>= _) _ _ _ from lJa (lJd (lJd ?_)))
  rw[<-zl,lQq] at hd
  have hd':h'.DictOf (jJ4 prog w) d (dlK ps):=by
   obtain⟨o',es,ep,ho',r⟩:=hd
   exact⟨o',es,ep,kp d o' di ho',r⟩
  exact hR h' s.toks hd' fun b o _ c1 e=>kp b o c1 e
 | succ k ih=>
  intro i s j jt hk hi a hit hd hR
  have hlt:i<ps.length:=by omega
  have hlt2:i<ts.length:=by rw[a.len];exact hlt
  have tp:=a.at_ i ts[i] ps[i] (lJp hlt2) (lJp hlt)
  refine lQe jY1 ?_
  rw[lQj jQz _]
  refine (show wpAny _ A.in1 (pyNext (.ref it) >>= _) _ _ s from ?_)
  refine lJa (wpAny_pyNext_list_item (A:=A.in1) hit a.li (x:= .ref ts[i]) (by simp[hlt2]) fun h' hit' sb=> ?_)
  have tne:∀b o,s.heap.get? b=some o->o.cls= .type "tuple"->b≠it:=fun b o ho hc=>by
   rintro rfl
   obtain⟨o',ho',hc',_⟩:=hit
   rw[ho] at ho';cases ho'
   rw[hc] at hc'
   exact absurd hc' (by decide)
  have kp1:∀b o,s.heap.get? b=some o->(o.cls= .type "tuple"\/b=l)->h'.get? b=some o:=fun b o e z=>(sb.2 b (z.elim (fun hc=>tne b o e hc) fun q=>by rw[q];exact li)).trans e
  have a':=a.moved kp1
  have hd':h'.DictOf (jJ4 prog w) d ((dlK ps).take i):=by
   obtain⟨o',es,ep,ho',r⟩:=hd
   exact⟨o',es,ep,(sb.2 d di).trans ho',r⟩
  have tp':IsTup h' ts[i] #[.int ps[i].1.1 ps[i].1.2,ps[i].2]:=a'.at_ i _ _ (lJp hlt2) (lJp hlt)
  have nk:(Sum.inl ps[i].1.1:Key)∉((dlK ps).take i).map (·.1):=by
   rw[List.map_take,dlK,lJy]
   intro z
   obtain⟨m,hm,e⟩:=lXk z
   rw[lQg] at hm
   have hm':m<ps.length:=by simp at hm;omega
   rw[lYr,List.getElem_map] at e
   have e':ps[m].1.1=ps[i].1.1:=Sum.inl.inj e
   have:=(List.getElem_inj (i:=m) (j:=i) (h₀:=by simpa using hm') (h₁:=by simpa using hlt) hn).mp (by simpa using e')
   simp at hm;omega
  have tk1:(dlK ps).take i++[(.inl ps[i].1.1,ps[i].2)]=(dlK ps).take (i+1):=by
   rw[lQi,lJp (by rw[zl];exact hlt)]
   simp[dlK]
  refine lJa (lKx (lJa (wpAny_tryCatch (qQ7 (s:={s with heap:=h'}) tp' (lKx (wpAny_dictSet_pairs (s:={s with heap:=h'}) (jZu prog w _ _) hd' (fun h2 hd2 sb2=> ?_) (by rw[lQg];omega)))))))
  rw[qQ6 nk,tk1] at hd2
  have dne:∀b o,h'.get? b=some o->o.cls= .type "tuple"->b≠d:=fun b o ho hc=>by
   rintro rfl
   obtain⟨o',ho',hc'⟩:=hd'.typeIs (s:={s with heap:=h'})
   rw[show h'.get? b=some o' from ho'] at ho;cases ho
   rw[hc] at hc'
   exact absurd hc' (by decide)
  refine lJd ⟨lQl jQz _,ih (i+1) _ _ _ (by omega) hlt (a'.moved fun b o e z=>(sb2.2 b (z.elim (fun hc=>dne b o e hc) fun q=>by rw[q];exact dl.symm)).trans e) (hit'.at fun o e=>(sb2.2 it di.symm).trans e) hd2 fun h3 t3 hd3 kp3=>hR h3 t3 hd3 fun b o c1 c2 e=>kp3 b o c1 c2 ((sb2.2 b c1).trans ((sb.2 b c2).trans e))⟩
theorem uJp {l:Addr} {ts:List Addr} {ps:List ((Int×Tok)×Value)} {c:Nat} (hh:A.handled=none) (hl:s.heap.get? l=some {cls:= .type "list",dict:=none,data:= .seq (ts.map Value.ref).toArray c,slots:= #[]}) (a:DlAt s.heap l ts ps) (hn:(ps.map (·.1.1)).Nodup) (hs:ps.length<=sizeLine) {Q:Value->Shared->Prop}
  (k:∀h' t',h'.DictOf (jJ4 prog w) s.heap.objs.size (dlK ps)->(∀b o,s.heap.get? b=some o->h'.get? b=some o)->Q (.ref s.heap.objs.size) {s with heap:=h',toks:=t'}):
  wpAny (model prog w) A (call (.type "dict") [.ref l]) Q E s:=by
 refine callType_codes (Q₁:=fun obj s₁=>obj= .ref s.heap.objs.size/\s₁={s with heap:=s.heap.push {cls:= .type "dict",data:= .dict #[]} }) PySem.F.kt_called_dict (lZd _) PySem.F.entry_dict_init (kt_code_dict_new _ ⟨rfl,rfl⟩) ?_
 rintro obj s₁ ⟨rfl,rfl⟩
 have hnew:(s.heap.push {cls:= .type "dict",data:= .dict #[]}).DictOf (jJ4 prog w) s.heap.objs.size []:=Heap.DictOf.new s.heap
 refine⟨hnew.typeIs,lZe _ _,?_⟩
 (unfold Builtin.«dict.__init__»)
 refine lJa ?_
 (unfold Builtin.Dict.selfAndRest)
 (refine lJa (lYi hnew.typeIs ?_))
 refine (show wpAny _ _ (pure (s.heap.objs.size,[Value.ref l])) _ _ _ from ?_)
 refine lJd ?_
 refine (show wpAny _ _ (Builtin.Dict.updateFrom "dict.__init__" s.heap.objs.size (.ref l) [] .none) _ _ _ from ?_)
 (unfold Builtin.Dict.updateFrom)
 have up:∀b o,s.heap.get? b=some o->(s.heap.push {cls:= .type "dict",data:= .dict #[]}).get? b=some o:=fun b o e=>lJk _ e
 have hl0:=up _ _ hl
 have hTl:Shared.TypeIs {s with heap:=s.heap.push {cls:= .type "dict",data:= .dict #[]} } (.ref l) "list":=⟨_,hl0,rfl⟩
 refine lJa (lQw hTl ?_)
 rw[lJc (by decide)]
 refine lJa (kQ5 (s:={s with heap:=s.heap.push {cls:= .type "dict",data:= .dict #[]} }) (by simpa using hh) hl0 fun g tk kp=> ?_)
 simp only[Option.isNone_none,lKh]
 refine lJa (lQd ?_)
 have kp':∀b o,s.heap.get? b=some o->g.get? b=some o:=fun b o e=>kp b o (up b o e)
 have a1:DlAt g l ts ps:=a.moved fun b o e _=>kp' b o e
 refine lJa (lYf (s:={s with heap:=g,toks:=tk}) a1.li ?_)
 have hd0:g.DictOf (jJ4 prog w) s.heap.objs.size []:=by
  obtain⟨o',es,ep,ho',r⟩:=hnew
  exact⟨o',es,ep,kp _ o' ho',r⟩
 have gd:s.heap.objs.size<g.objs.size:=by obtain⟨o',es,ep,ho',r⟩:=hd0;exact lJi ho'
 have ll:l<s.heap.objs.size:=lJi hl
 refine lJd ⟨lQl jQz _,uJn (A:=A.in1) (ts:=ts) (ps:=ps) (l:=l) (by simpa using hh) (lK7 ll) (lJm gd) (lJm (lQ6 ll gd)) hn hs ps.length 0 _ _ _ (by omega) (lJz _) (a1.moved fun b o e _=>lJk _ e) ⟨_,lJ0 _ rfl,rfl,rfl⟩ ?_ fun h4 t4 hd4 kp4=>⟨rfl,k h4 t4 hd4 fun b o e=>kp4 b o (lJm (lJi e)) (lJm (lQ6 (lJi e) gd)) (lJk _ (kp' b o e))⟩⟩
 obtain⟨o',es,ep,ho',r⟩:=hd0
 exact⟨o',es,ep,lJk _ ho',r⟩
end
theorem kXq {K:PySem.W.Frag} {H:Hp}:∀ {kvs:List (Int×T)} {vs:List V},Reps K H (kvs.map fun kv=>T.tup [.int kv.1,kv.2]) vs->∃qs:List (Addr×V),vs=qs.map (fun q=>V.ref q.1)/\Reps K H (kvs.map (·.2)) (qs.map (·.2))/\Paired (fun (kv:Int×T) (q:Addr×V)=>H q.1=some (.tup [.int kv.1,q.2])) kvs qs
 | [],_,h=>by cases h;exact⟨[],rfl,rfl,.nil⟩
 | kv::kvs,_,⟨v,ws,e,r,rs⟩=>by
  subst e
  obtain⟨a,us,e,h1,h2⟩:=(show ∃a us,v= .ref a/\H a=some (.tup us)/\Reps K H [.int kv.1,kv.2] us from r)
  subst e
  obtain⟨x,y,rfl,r1,r2⟩:=kY6 h2
  cases (show x= .int kv.1 from r1)
  obtain⟨qs,e1,e2,e3⟩:=kXq rs
  exact⟨(a,y)::qs,by rw[e1];rfl,⟨_,_,rfl,r2,e2⟩,.cons h1 e3⟩
theorem qVj {X:Cx} {pins:List (Addr×Obj)} {σ:L2.St} {H:Hp} {s:Shared} (I:Inv X pins σ H s) {kvs:List (Int×T)} {qs:List (Addr×V)} (h:Paired (fun (kv:Int×T) (q:Addr×V)=>H q.1=some (.tup [.int kv.1,q.2])) kvs qs):
  ∃ps:List ((Int×Tok)×Value),ps.map (·.1.1)=kvs.map (·.1)/\Vals (qs.map (·.2)) (ps.map (·.2))/\Paired (fun (q:Addr×V) (p:(Int×Tok)×Value)=>IsTup s.heap q.1 #[.int p.1.1 p.1.2,p.2]) qs ps:=by
 induction h with
 | nil=>exact⟨[],rfl,.nil,.nil⟩
 | @cons kv q kvs qs h t ih=>
  obtain⟨ps,e1,e2,e3⟩:=ih
  obtain⟨its,r,tp,_⟩:=I.tuple (.of h)
  obtain⟨u,v,rfl,ru,rv⟩:=r.two
  obtain⟨tk,rfl⟩:=ru
  exact⟨((kv.1,tk),v)::ps,by rw[lJq,e1];rfl,.cons rv e2,.cons tp e3⟩
theorem qKe {α β:Type} {R:α->β->Prop} {l:List α} {m:List β} (h:Paired R l m):∀(i:Nat) a b,l[i]? =some a->m[i]? =some b->R a b:=by
 induction h with
 | nil=>intro i a b e;simp at e
 | @cons x y l m r t ih=>
  intro i a b e1 e2
  cases i with
  | zero=>cases e1;cases e2;exact r
  | succ i=>exact ih i a b (by simpa using e1) (by simpa using e2)
theorem jY5:∀ {ts:List Addr} {us:List Value},Vals (ts.map V.ref) us->us=ts.map Value.ref
 | [],_,.nil=>rfl
 | t::ts,_,.cons r rs=>by rw[lJq,<-jY5 rs];exact lJ8 (· ::_) r
theorem kv_of {kvs:List (Int×T)} {ws:List V} {ps:List ((Int×Tok)×Value)} (h1:ps.map (·.1.1)=kvs.map (·.1)) (h2:Vals ws (ps.map (·.2))):KV ((kvs.map fun kv=>(Sum.inl kv.1:Key)).zip ws) (dlK ps):=by
 induction ps generalizing kvs ws with
 | nil=>cases kvs with
  | nil=>exact .nil
  | cons=>simp at h1
 | cons p ps ih=>cases kvs with
  | nil=>simp at h1
  | cons kv kvs=>
   cases h2 with
   | cons r rs=>
    simp only[lJq,lX5] at h1
    exact .cons ⟨(lJ8 Sum.inl h1.1).symm,r⟩ (ih h1.2 rs)
theorem qX6 {K:PySem.W.Frag} {H:Hp}:∀ {kvs:List (Int×T)} {ws:List V},Reps K H (kvs.map (·.2)) ws->PKV K H (kvs.map fun kv=>((Sum.inl kv.1:Key),kv.2)) ((kvs.map fun kv=>(Sum.inl kv.1:Key)).zip ws)
 | [],_,h=>by cases h;exact .nil
 | kv::kvs,_,⟨v,ws,e,r,rs⟩=>by subst e;exact .cons ⟨rfl,r⟩ (qX6 rs)
section
variable {X:Cx}
noncomputable def qJ8:List T->Gp->VK3->Prop:=fun vs G1 Q=>∃(p:Addr) (kvs:List (Int×T)),vs=[.ref p]/\G1 p=some (.lst (kvs.map fun kv=> .tup [.int kv.1,kv.2]))/\(kvs.map (·.1)).Nodup/\kvs.length<=1000/\∀q,G1 q=none->Q (.ref q) (gup G1 q (.dck (kvs.map fun kv=>(.inl kv.1,kv.2))))
theorem uJy (hc:X.calm=true):Call3 X (.type "dict") qJ8:=by
 rintro pins s τ G H xs us Q ⟨σ,I,hs,hg⟩ ⟨as,ras,rvs⟩ ⟨p,kvs,ex,hp,hnd,hl,q⟩
 subst ex
 obtain⟨v,rfl,rv⟩:=jQ8 ras
 obtain⟨u,rfl,ru⟩:=rvs.one
 cases (show v= .ref p from rv)
 cases ru
 obtain⟨vs,h1,h2⟩:=hg.lst hp
 obtain⟨qs,rfl,r2,pr⟩:=kXq h2
 obtain⟨hz,its,n,r,hlen,e⟩:=I.lstM h1
 obtain⟨ps,p1,p2,p3⟩:=qVj I pr
 have ei:=jY5 (ts:=qs.map (·.1)) (us:=its) (by rw[lJy];exact r)
 subst ei
 have lq:qs.length=ps.length:=lQn p3
 have lk:kvs.length=qs.length:=lQn pr
 have big:=I.big
 have hsl:=lKy
 refine uJp (s:=s) (ts:=qs.map (·.1)) (ps:=ps) (I.ok.hd hc) e ⟨⟨_,e,rfl,_,rfl⟩,by rw[lJf];exact lq,fun i t p e1 e2=> ?_⟩ (by rw[p1];exact hnd) (by omega) fun h' t' dd kp=> ?_
 ·rw[lKj] at e1
  cases e3:qs[i]? with
  | none=>rw[e3] at e1;cases e1
  | some q=>rw[e3] at e1;cases e1;exact qKe p3 i q p e3 e2
 ·have fr:=I.hok.fresh (lJg s.heap.objs.size)
  have I3:=I.laid (a:=s.heap.objs.size) (o:= .dK ((kvs.map fun kv=>(Sum.inl kv.1:Key)).zip (qs.map (·.2)))) (h':=h') (t':=t') kp (lJg _) ⟨by rw[lXn,lJf,lJf];omega,beq_eq_false_iff_ne.mpr (Ne.symm (lJm big)),dlK ps,kv_of p1 p2,dd⟩
  have ext:Ext H (upd H s.heap.objs.size (.dK ((kvs.map fun kv=>(Sum.inl kv.1:Key)).zip (qs.map (·.2))))):= .upd (.none fr)
  exact⟨.ref _,_,_,ext,⟨σ,I3,hs.mono ext,hg.upd (.none fr) (go:= .dck (kvs.map fun kv=>(.inl kv.1,kv.2))) ⟨_,jKb,(qX6 r2).mono ext⟩⟩,⟨.ref _,rfl,rfl⟩,q _ (hg.fresh fr)⟩
end
end L3
namespace L3
open PySem PySem.Spec PyProof.Rows L2 PySem.W
section
variable {prog:Program} {w:World} {A:Around} {E:Value->Shared->Prop} {s:Shared} {d:Addr} {o:Obj} {es:Array DictEntry} {ep:Nat}
theorem kQ3 {id:String} {Q:Array DictEntry->Shared->Prop} (ho:s.heap.get? d=some o) (hd:o.data= .dict es ep) (hall:∀e,e∈es.toList->(es.filter (·.hash == e.hash)).size<=1/\∃b,e.key= .ref b/\s.TypeIs (.ref b) "tuple") (h:Q es s):wpAny (model prog w) A (Builtin.Dict.entriesForEmpty id d) Q E s:=by
 (unfold Builtin.Dict.entriesForEmpty)
 (refine lJa (lVu ho hd ?_))
 refine lJa ?_
 rw[<-Array.forIn_toList]
 refine lYe _ (fun rest _ s'=>s'=s/\∀e,e∈rest->e∈es.toList) _ ?_ ?_ _ _ ⟨rfl,fun e he=>he⟩
 ·rintro e rest b s' ⟨rfl,hr⟩
  obtain⟨h1,p,h2,h3⟩:=hall e (hr e (lJx ..))
  rw[h2]
  refine lJa ?_
  unfold Builtin.Dict.quietEq
  refine lJa (lV5 h3 PySem.F.slot_tuple_eq.lookup (lJd ?_))
  rw[lJc (by decide),lJb (by omega)]
  exact lJd ⟨rfl,fun e he=>hr e (lJ1 _ he)⟩
 ·rintro b s' ⟨rfl,_⟩
  exact lJd h
theorem kZw {l:Addr} {Q:Value->Shared->Prop} (hl:(l == sysModules)=false) (ho:s.heap.get? l=some o) (hc:o.ExactDict) (hx:o.data= .dict es ep) (hz:es.size<=sizeLine) (hall:∀e,e∈es.toList->(es.filter (·.hash == e.hash)).size<=1/\∃b,e.key= .ref b/\s.TypeIs (.ref b) "tuple")
  (k:∀h' o' ep',h'.get? s.heap.objs.size=some o'->o'.ExactDict->o'.data= .dict es ep'->(∀b u,s.heap.get? b=some u->h'.get? b=some u)->Q (.ref s.heap.objs.size) {s with heap:=h'}):
  wpAny (model prog w) A (call (.type "dict") [.ref l]) Q E s:=by
 refine callType_codes (Q₁:=fun obj s₁=>obj= .ref s.heap.objs.size/\s₁={s with heap:=s.heap.push {cls:= .type "dict",data:= .dict #[]} }) PySem.F.kt_called_dict (lZd _) PySem.F.entry_dict_init (kt_code_dict_new _ ⟨rfl,rfl⟩) ?_
 rintro obj s₁ ⟨rfl,rfl⟩
 have hn:(s.heap.push {cls:= .type "dict",data:= .dict #[]}).get? s.heap.objs.size=some {cls:= .type "dict",data:= .dict #[]}:=lJ0 _ rfl
 have up:∀b u,s.heap.get? b=some u->(s.heap.push {cls:= .type "dict",data:= .dict #[]}).get? b=some u:=fun b u e=>lJk _ e
 have ho':=up _ _ ho
 have hTn:Shared.TypeIs {s with heap:=s.heap.push {cls:= .type "dict",data:= .dict #[]} } (.ref s.heap.objs.size) "dict":=⟨_,hn,rfl⟩
 have hTl:Shared.TypeIs {s with heap:=s.heap.push {cls:= .type "dict",data:= .dict #[]} } (.ref l) "dict":=⟨_,ho',hc.1⟩
 have hdl:s.heap.objs.size≠l:=fun e=>absurd (lJi ho) (by rw[e];exact lQo _)
 refine⟨hTn,lZe _ _,?_⟩
 (unfold Builtin.«dict.__init__»)
 refine lJa ?_
 (unfold Builtin.Dict.selfAndRest)
 refine lJa (lYi hTn ?_)
 refine (show wpAny _ _ (pure (s.heap.objs.size,[Value.ref l])) _ _ _ from ?_)
 refine lJd ?_
 refine (show wpAny _ _ (Builtin.Dict.updateFrom "dict.__init__" s.heap.objs.size (.ref l) [] .none) _ _ _ from ?_)
 (unfold Builtin.Dict.updateFrom)
 refine lJa (lQw hTl ?_)
 rw[lJb (by decide)]
 refine lJa ?_
 unfold Builtin.Dict.merge
 refine lJa ?_
 (unfold Builtin.Dict.readDirectly)
 refine lJa (lV6 hTl isSubtype_dict_dict ?_)
 (simp only[Bool.not_true,lKf,lJ6])
 refine lJa (lV5 hTl PySem.F.slot_dict_iter.lookup (lJd ?_))
 (simp only[lYj,lKh])
 refine lJa (lJd ?_)
 unfold Builtin.Dict.mergeDict
 rw[lJb (by simpa using hdl)]
 unfold Builtin.Dict.showsAll
 (rw[lJb (by rw[hl];exact lJs)])
 refine lJa (lJd ?_)
 refine lJa (lVu ho' hx ?_)
 dsimp only
 split
 ·refine lJa (lVu hn rfl ?_)
  rw[lJc (by rfl)]
  refine lJa (kQ3 ho' hx (fun e he=> ?_) ?_)
  ·obtain⟨h1,b,h2,u,h3,h4⟩:=hall e he
   exact⟨h1,b,h2,u,up _ _ h3,h4⟩
  have ex:Obj.ExactDict {cls:= .type "dict",data:= .dict #[]}:=⟨rfl,rfl,rfl⟩
  split
  ·refine lJa (wpAny_updateDictKeysTo hn rfl (lJd ?_) (by omega))
   exact lJa (lJd (lJd ⟨rfl,k _ _ _ (lVx _ hn (Obj.isFreed_of_dict (Obj.data_mapDictKeys rfl _))) (ex.mapDictKeys _) (Obj.data_mapDictKeys rfl _) fun b u e=>((lVm ..).2 b (lJm (lJi e))).trans (up b u e)⟩))
  ·rename_i he
   have h0:es= #[]:=Array.isEmpty_iff.mp (by simpa using he)
   subst h0
   exact lJd (lJa (lJd (lJd ⟨rfl,k _ _ _ hn ex rfl up⟩)))
 ·rename_i he
  have h0:es= #[]:=by
   obtain⟨l⟩:=es
   cases l with
   | nil=>rfl
   | cons e l=>
    obtain⟨_,b,h2,_⟩:=hall e (by simp)
    simp[h2,keyPart] at he
  subst h0
  refine lJa (wpAny_dictEpoch ho' hx ?_)
  refine lJa (lVu ho' hx ?_)
  refine lJa ?_
  (rw[Std.Legacy.Range.forIn_eq_forIn_range'])
  refine (show wpAny _ _ (forIn ([]:List Nat) PUnit.unit _) _ _ _ from ?_)
  rw[List.forIn_nil]
  exact lJd (lJd (lJa (lJd (lJd ⟨rfl,k _ _ _ hn ⟨rfl,rfl,rfl⟩ rfl up⟩))))
end
def hf (r d:Nat):Int:=reduceHash (Builtin.Tuple.tupleHashOf [hashInt r,hashInt d])
def hfs:List Int:=(List.range 12).flatMap fun r=>(List.range 12).map (hf r)
theorem qQg:hfs.Nodup:=by decide +kernel
theorem kYi {f:Nat->Nat->Int} {m:Nat}:∀ {n:Nat},((List.range n).flatMap fun r=>(List.range m).map (f r)).Nodup->∀ {r d r' d':Nat},r<n->d<m->r'<n->d'<m->f r d=f r' d'->r=r'/\d=d'
 | 0,_,_,_,_,_,hr,_,_,_,_=>absurd hr (lK5 _)
 | n+1,h,r,d,r',d',hr,hd,hr',hd',e=>by
  rw[lVc,lVq,lVa] at h
  obtain⟨h1,h2,h3⟩:=h
  have mem:∀ {r d:Nat},r<n->d<m->f r d∈(List.range n).flatMap fun r=>(List.range m).map (f r):=fun {r d} hr hd=>List.mem_flatMap.mpr ⟨r,lJ7.mpr hr,lJl.mpr ⟨d,lJ7.mpr hd,rfl⟩⟩
  have mem2:∀ {d:Nat},d<m->f n d∈([n]:List Nat).flatMap fun r=>(List.range m).map (f r):=fun {d} hd=>List.mem_flatMap.mpr ⟨n,lJt.mpr rfl,lJl.mpr ⟨d,lJ7.mpr hd,rfl⟩⟩
  rcases lQm r n with a | a
  ·rcases lQm r' n with b | b
   ·exact kYi h1 a hd b hd' e
   ·have:r'=n:=by omega
    subst this
    exact absurd e (h3 _ (mem a hd) _ (mem2 hd'))
  ·have:r=n:=by omega
   subst this
   rcases lQm r' r with b | b
   ·exact absurd e.symm (h3 _ (mem b hd') _ (mem2 hd))
   ·have:r'=r:=by omega
    subst this
    refine⟨rfl,?_⟩
    rw[List.flatMap_singleton,List.Nodup,lXm] at h2
    rcases lV1 d d' with q | q | q
    ·exact absurd e (lX2.mp h2 d d' (by simpa using hd) (by simpa using hd') q|>fun z=>by simpa using z)
    ·exact q
    ·exact absurd e.symm (lX2.mp h2 d' d (by simpa using hd') (by simpa using hd) q|>fun z=>by simpa using z)
def kUk (k:TKey):Prop:=∃r d:Nat,r<12/\d<12/\k=[.inl (.inl (r:Int)),.inl (.inl (d:Int))]
theorem qJo {prog:Program} {w:World} {k k':TKey} (h:kUk k) (h':kUk k') (e:(jJn prog w).hash k=(jJn prog w).hash k'):k=k':=by
 obtain⟨r,d,hr,hd,rfl⟩:=h
 obtain⟨r',d',hr',hd',rfl⟩:=h'
 obtain⟨rfl,rfl⟩:=kYi qQg hr hd hr' hd' (show hf r d=hf r' d' from e)
 rfl
theorem kXs {α:Type} {f:α->Int} {g:α->DictEntry} (hg:∀a,(g a).hash=f a):∀ {xs:List α},(∀a,a∈xs->∀b,b∈xs->f a=f b->a=b)->xs.Nodup->∀a,a∈xs->((xs.map g).filter fun e=>e.hash == (g a).hash).length<=1
 | [],_,_,a,ha=>absurd ha lKt
 | x::xs,hi,hn,a,ha=>by
  rw[lK2] at hn
  rw[lJq,lVd]
  have none:∀y,y∉xs->y∈x::xs->((xs.map g).filter fun e=>e.hash == (g y).hash)=[]:=fun y hy hm=>by
   rw[List.filter_eq_nil_iff]
   intro e he z
   obtain⟨b,hb,rfl⟩:=lJl.mp he
   have z:(g b).hash=(g y).hash:=by simpa using z
   rw[hg,hg] at z
   exact hy (hi b (lJ1 _ hb) y hm z▸hb)
  by_cases e:x=a
  ·subst e
   rw[lJc (by simp),none x hn.1 (lJx ..)]
   simp
  ·have hax:a∈xs:=(lJr.mp ha).resolve_left fun z=>e z.symm
   have ne:¬ ((g x).hash == (g a).hash)=true:=fun z=>by
    have z:(g x).hash=(g a).hash:=by simpa using z
    rw[hg,hg] at z
    exact e (hi x (lJx ..) a ha z)
   rw[lJb ne]
   exact kXs hg (fun a ha b hb=>hi a (lJ1 _ ha) b (lJ1 _ hb)) hn.2 a hax
section
variable {X:Cx}
end
end L3
namespace L3
open PySem PyProof.Rows
def qZ9:Bool->Keyed->Array Keyed->Nat->Nat->Nat->StateT SortSt Sem (Option Nat):=sortPriv%PySem.Builtin.gallop
def qVt:Array Keyed->Array Keyed->StateT SortSt Sem (Array Keyed):=sortPriv%PySem.Builtin.mergeLo
def qVu:Array Keyed->Array Keyed->StateT SortSt Sem (Array Keyed):=sortPriv%PySem.Builtin.mergeHi
section
variable {A:Around} {E:Value->Shared->Prop} {s:Shared} {M:Model}
structure Asks (M:Model) (A:Around) (s:Shared) (κ:SortKind) (mem:Keyed->Prop) (le:Keyed->Keyed->Prop) [∀x y,Decidable (le x y)]:Prop where
 ask:∀x y,mem x->mem y->∀(E:Value->Shared->Prop) (Q:Bool->Shared->Prop),Q (!decide (le y x)) s->wpAny M A (keyLt' κ x.1 y.1) Q E s
 tot:∀x y,mem x->mem y->le x y\/le y x
 tr:∀x y z,mem x->mem y->mem z->le x y->le y z->le x z
variable {κ:SortKind} {mem:Keyed->Prop} {le:Keyed->Keyed->Prop} [∀x y,Decidable (le x y)]
theorem qKz (H:Asks M A s κ mem le) {x y:Keyed} (hx:mem x) (hy:mem y) {st:SortSt} (hk:kindOf st=κ) {Q:Option Bool->SortSt->Prop} (h:Q (some (!decide (le y x))) st):wpS M A E s (lt' x y) Q st:=by
 rw[lt'_eq]
 refine lJe (lQf ?_)
 rw[hk]
 refine lJe (wpS_lift (lV9 (H.ask x y hx hy _ _ ?_)))
 exact⟨rfl,lJh h⟩
theorem jJ5 {arr:Array Keyed} {i:Nat} {x:Keyed} {st:SortSt} {Q:Keyed->SortSt->Prop} (hi:arr[i]? =some x) (h:Q x st):wpS M A E s (elem' arr i) Q st:=by
 rw[elem'_eq,hi];exact lJh h
def bey (le:Keyed->Keyed->Prop) [∀x y,Decidable (le x y)] (left:Bool) (key x:Keyed):Bool:=if left=true then !decide (le key x) else decide (le x key)
theorem qUk (H:Asks M A s κ mem le) {left:Bool} {key x:Keyed} {arr:Array Keyed} {b:Nat} {st:SortSt} {Q:Option Bool->SortSt->Prop} (hk:kindOf st=κ) (hkey:mem key) (hx:arr[b]? =some x) (hm:mem x) (h:Q (some (bey le left key x)) st):
  wpS M A E s (do let y <-elem' arr b;if left=true then lt' y key else do let r <-lt' key y;pure (r.map fun z=> !z)) Q st:=by
 refine lJe (jJ5 hx ?_)
 cases left with
 | true=>rw[lJc rfl];exact qKz H hm hkey hk h
 | false=>
  rw[lJb (by decide)]
  refine lJe (qKz H hkey hm hk (lJh ?_))
  simpa[bey] using h
theorem jUe {left:Bool} {key:Keyed} {arr:Array Keyed} {base n hint:Nat} {st:SortSt} {Q:Option Nat->SortSt->Prop} (H:Asks M A s κ mem le) (hk:kindOf st=κ) (hkey:mem key) {f:Nat->Keyed} (hf:∀i,i<n->arr[base+i]? =some (f i)) (hm:∀i,i<n->mem (f i)) (hs:∀i j,i<=j->j<n->le (f i) (f j)) (hh:hint<n)
  (h:∀k,k<=n->(∀i,i<k->bey le left key (f i)=true)->(∀i,k<=i->i<n->bey le left key (f i)=false)->Q (some k) st):
  wpS M A E s (qZ9 left key arr base n hint) Q st:=by
 have ask:∀(i:Nat) {Q:Option Bool->SortSt->Prop},i<n->Q (some (bey le left key (f i))) st->wpS M A E s (do let y <-elem' arr (base+i);if left=true then lt' y key else do let r <-lt' key y;pure (r.map fun z=> !z)) Q st:=fun i {Q} hi q=>qUk H hk hkey (hf i hi) (hm i hi) q
 have mono:∀i j,i<=j->j<n->bey le left key (f j)=true->bey le left key (f i)=true:=by
  intro i j hij hj hb
  unfold bey at hb ⊢
  cases left with
  | true=>
   rw[lJc rfl] at hb ⊢
   simp only[lVe,lXb] at hb ⊢
   exact fun z=>hb (H.tr _ _ _ hkey (hm i (by omega)) (hm j hj) z (hs i j hij hj))
  | false=>
   rw[lJb (by decide)] at hb ⊢
   rw[lKm] at hb ⊢
   exact H.tr _ _ _ (hm i (by omega)) (hm j hj) hkey (hs i j hij hj) hb
 refine lJe (ask hint hh ?_)
 cases hbh:bey le left key (f hint) with
 | true=>
  dsimp only
  rw[lJc rfl]
  refine lJe (lKq (lKr (I:=fun i (c:Option (Option Nat)×Nat×Nat) st'=>st=st'/\c.1=none/\c.2.1<c.2.2/\i+1<=c.2.2/\hint+c.2.1<n/\bey le left key (f (hint+c.2.1))=true)
   (Q:=fun (c:Option (Option Nat)×Nat×Nat) st'=>st=st'/\c.1=none/\c.2.1<c.2.2/\hint+c.2.1<n/\bey le left key (f (hint+c.2.1))=true/\(c.2.2<n-hint->bey le left key (f (hint+c.2.2))=false)) ?_ ?_ ⟨rfl,rfl,by decide,by decide,hh,hbh⟩) ?_)
  ·rintro x ⟨r,la,of⟩ st' _ hx ⟨rfl,rfl,i1,i2,i3,i4⟩
   dsimp only at i1 i2 i3 i4 ⊢
   by_cases c:of>=n-hint
   ·rw[lJc c]
    exact wpS_pure ⟨rfl,rfl,i1,i3,i4,fun z=>absurd c (by dsimp only at z;omega)⟩
   ·rw[lJb c]
    refine lJe (ask _ (by omega) ?_)
    cases hbo:bey le left key (f (hint+of)) with
    | false=>
     dsimp only
     (rw[lJc (show (!false)=true from rfl)])
     exact lJh ⟨rfl,rfl,i1,i3,i4,fun _=>hbo⟩
    | true=>
     dsimp only
     rw[lJb (by decide)]
     exact wpS_pure ⟨rfl,rfl,by dsimp only;omega,by dsimp only;omega,by dsimp only;omega,hbo⟩
  ·rintro⟨r,la,of⟩ st' ⟨rfl,rfl,i1,i2,i3,i4⟩
   dsimp only at i1 i2 i3 i4 ⊢
   exact⟨rfl,rfl,i1,i3,i4,fun z=>absurd z (by omega)⟩
  ·rintro⟨r,la,of⟩ st' ⟨rfl,rfl,i1,i3,i4,i5⟩
   dsimp only at i1 i3 i4 i5 ⊢
   have PL:∀i,i<hint+la+1->bey le left key (f i)=true:=fun i hi=>mono i _ (by omega) i3 i4
   have PH:∀i,hint+min of (n-hint)<=i->i<n->bey le left key (f i)=false:=fun i hi hin=>by
    have hon:=i5 (by omega)
    cases hbi:bey le left key (f i) with
    | false=>rfl
    | true=>rw[mono (hint+of) i (by omega) hin hbi] at hon;cases hon
   have LO:hint+la+1<=hint+min of (n-hint):=by omega
   have HI:hint+min of (n-hint)<=n:=by omega
   refine lJe (lKq (lKr (I:=fun i (c:Option (Option Nat)×Nat×Nat) st'=>st=st'/\c.1=none/\c.2.1<=c.2.2/\c.2.2<=n/\c.2.2-c.2.1<=n-i/\(∀i,i<c.2.1->bey le left key (f i)=true)/\(∀i,c.2.2<=i->i<n->bey le left key (f i)=false))
    (Q:=fun (c:Option (Option Nat)×Nat×Nat) st'=>st=st'/\c.1=none/\c.2.2<=n/\(∀i,i<c.2.2->bey le left key (f i)=true)/\(∀i,c.2.2<=i->i<n->bey le left key (f i)=false)) ?_ ?_ ⟨rfl,rfl,LO,HI,by dsimp only;omega,PL,PH⟩) ?_)
   ·rintro x ⟨r,lo,hi⟩ st' _ hx ⟨rfl,rfl,i1,i2,i3,i4,i5⟩
    dsimp only at i1 i2 i3 i4 i5 ⊢
    by_cases c:lo>=hi
    ·rw[lJc c]
     exact wpS_pure ⟨rfl,rfl,i2,fun i hi'=>i4 i (by dsimp only at hi';omega),i5⟩
    ·rw[lJb c]
     have hmm:lo+(hi-lo) / 2<hi:=by omega
     refine lJe (ask _ (by omega) ?_)
     cases hbm:bey le left key (f (lo+(hi-lo) / 2)) with
     | true=>
      dsimp only
      rw[lJc rfl]
      exact wpS_pure ⟨rfl,rfl,by dsimp only;omega,i2,by dsimp only;omega,fun i hi'=>mono i _ (by dsimp only at hi';omega) (by omega) hbm,i5⟩
     | false=>
      dsimp only
      rw[lJb (by decide)]
      refine wpS_pure ⟨rfl,rfl,by dsimp only;omega,by dsimp only;omega,by dsimp only;omega,i4,fun i hi' hin=> ?_⟩
      dsimp only at hi'
      cases hbi:bey le left key (f i) with
      | false=>rfl
      | true=>rw[mono _ i hi' hin hbi] at hbm;cases hbm
   ·rintro⟨r,lo,hi⟩ st' ⟨rfl,rfl,i1,i2,i3,i4,i5⟩
    dsimp only at i1 i2 i3 i4 i5 ⊢
    exact⟨rfl,rfl,i2,fun i hi'=>i4 i (by omega),i5⟩
   ·rintro⟨r,lo,hi⟩ st' ⟨rfl,rfl,i1,i2,i3⟩
    dsimp only at i1 i2 i3 ⊢
    exact lJh (h hi i1 i2 i3)
 | false=>
  dsimp only
  rw[lJb (by decide)]
  refine lJe (lKq (lKr (I:=fun i (c:Option (Option Nat)×Nat×Nat) st'=>st=st'/\c.1=none/\c.2.1<c.2.2/\i+1<=c.2.2/\c.2.1<=hint/\bey le left key (f (hint-c.2.1))=false)
   (Q:=fun (c:Option (Option Nat)×Nat×Nat) st'=>st=st'/\c.1=none/\c.2.1<c.2.2/\c.2.1<=hint/\bey le left key (f (hint-c.2.1))=false/\(c.2.2<hint+1->bey le left key (f (hint-c.2.2))=true)) ?_ ?_ ⟨rfl,rfl,by decide,by decide,lJz _,hbh⟩) ?_)
  ·rintro x ⟨r,la,of⟩ st' _ hx ⟨rfl,rfl,i1,i2,i3,i4⟩
   dsimp only at i1 i2 i3 i4 ⊢
   by_cases c:of>=hint+1
   ·rw[lJc c]
    exact wpS_pure ⟨rfl,rfl,i1,i3,i4,fun z=>absurd c (by dsimp only at z;omega)⟩
   ·rw[lJb c]
    refine lJe (ask _ (by omega) ?_)
    cases hbo:bey le left key (f (hint-of)) with
    | true=>
     dsimp only
     rw[lJc rfl]
     exact lJh ⟨rfl,rfl,i1,i3,i4,fun _=>hbo⟩
    | false=>
     dsimp only
     rw[lJb (by decide)]
     exact wpS_pure ⟨rfl,rfl,by dsimp only;omega,by dsimp only;omega,by dsimp only;omega,hbo⟩
  ·rintro⟨r,la,of⟩ st' ⟨rfl,rfl,i1,i2,i3,i4⟩
   dsimp only at i1 i2 i3 i4 ⊢
   exact⟨rfl,rfl,i1,i3,i4,fun z=>absurd z (by omega)⟩
  ·rintro⟨r,la,of⟩ st' ⟨rfl,rfl,i1,i3,i4,i5⟩
   dsimp only at i1 i3 i4 i5 ⊢
   have PL:∀i,i<hint+1-min of (hint+1)->bey le left key (f i)=true:=fun i hi=>mono i (hint-of) (by omega) (by omega) (i5 (by omega))
   have PH:∀i,hint-la<=i->i<n->bey le left key (f i)=false:=fun i hi hin=>by
    cases hbi:bey le left key (f i) with
    | false=>rfl
    | true=>rw[mono (hint-la) i hi hin hbi] at i4;cases i4
   have LO:hint+1-min of (hint+1)<=hint-la:=by omega
   have HI:hint-la<=n:=by omega
   refine lJe (lKq (lKr (I:=fun i (c:Option (Option Nat)×Nat×Nat) st'=>st=st'/\c.1=none/\c.2.1<=c.2.2/\c.2.2<=n/\c.2.2-c.2.1<=n-i/\(∀i,i<c.2.1->bey le left key (f i)=true)/\(∀i,c.2.2<=i->i<n->bey le left key (f i)=false))
    (Q:=fun (c:Option (Option Nat)×Nat×Nat) st'=>st=st'/\c.1=none/\c.2.2<=n/\(∀i,i<c.2.2->bey le left key (f i)=true)/\(∀i,c.2.2<=i->i<n->bey le left key (f i)=false)) ?_ ?_ ⟨rfl,rfl,LO,HI,by dsimp only;omega,PL,PH⟩) ?_)
   ·rintro x ⟨r,lo,hi⟩ st' _ hx ⟨rfl,rfl,i1,i2,i3,i4,i5⟩
    dsimp only at i1 i2 i3 i4 i5 ⊢
    by_cases c:lo>=hi
    ·rw[lJc c]
     exact wpS_pure ⟨rfl,rfl,i2,fun i hi'=>i4 i (by dsimp only at hi';omega),i5⟩
    ·rw[lJb c]
     have hmm:lo+(hi-lo) / 2<hi:=by omega
     refine lJe (ask _ (by omega) ?_)
     cases hbm:bey le left key (f (lo+(hi-lo) / 2)) with
     | true=>
      dsimp only
      rw[lJc rfl]
      exact wpS_pure ⟨rfl,rfl,by dsimp only;omega,i2,by dsimp only;omega,fun i hi'=>mono i _ (by dsimp only at hi';omega) (by omega) hbm,i5⟩
     | false=>
      dsimp only
      rw[lJb (by decide)]
      refine wpS_pure ⟨rfl,rfl,by dsimp only;omega,by dsimp only;omega,by dsimp only;omega,i4,fun i hi' hin=> ?_⟩
      dsimp only at hi'
      cases hbi:bey le left key (f i) with
      | false=>rfl
      | true=>rw[mono _ i hi' hin hbi] at hbm;cases hbm
   ·rintro⟨r,lo,hi⟩ st' ⟨rfl,rfl,i1,i2,i3,i4,i5⟩
    dsimp only at i1 i2 i3 i4 i5 ⊢
    exact⟨rfl,rfl,i2,fun i hi'=>i4 i (by omega),i5⟩
   ·rintro⟨r,lo,hi⟩ st' ⟨rfl,rfl,i1,i2,i3⟩
    dsimp only at i1 i2 i3 ⊢
    exact lJh (h hi i1 i2 i3)
end
section
variable {le:Keyed->Keyed->Prop} {a b out:Array Keyed} {ia ib k:Nat}
def Fin2 (le:Keyed->Keyed->Prop) (a b r:Array Keyed):Prop:=r.toList.Perm (a.toList++b.toList)/\r.toList.Pairwise le
structure Lw (le:Keyed->Keyed->Prop) (a b out:Array Keyed) (ia ib:Nat):Prop where
 perm:(out.toList++(a.toList.drop ia++b.toList.drop ib)).Perm (a.toList++b.toList)
 srt:out.toList.Pairwise le
 up:∀x,x∈out.toList->∀y,y∈a.toList.drop ia++b.toList.drop ib->le x y
theorem Lw.size (h:Lw le a b out ia ib):out.size+((a.size-ia)+(b.size-ib))=a.size+b.size:=by
 have:=h.perm.length_eq
 simpa using this
theorem jVh {arr:Array Keyed} {i j:Nat}:(arr.extract i j).toList=(arr.toList.drop i).take (j-i):=by simp[List.extract]
theorem qYh (h:k<=a.size):(a.extract ia (ia+k)).toList=(a.toList.drop ia).take k:=by rw[jVh];congr 1;omega
theorem kK1:(a.extract ia).toList=a.toList.drop ia:=by
 rw[jVh]
 (exact lQs (by simp))
theorem Lw.takeA (h:Lw le a b out ia ib) (sa:a.toList.Pairwise le) {o:Array Keyed} (ho:o.toList=out.toList++(a.toList.drop ia).take k) (hx:∀x,x∈(a.toList.drop ia).take k->∀y,y∈b.toList.drop ib->le x y):Lw le a b o (ia+k) ib:=by
 have e:a.toList.drop ia=(a.toList.drop ia).take k++a.toList.drop (ia+k):=by rw[<-List.drop_drop];exact (lK6 k _).symm
 have sd:(a.toList.drop ia).Pairwise le:=sa.sublist (lVb ..)
 have up:=h.up
 have perm:=h.perm
 rw[e] at sd up perm
 obtain⟨s1,s2,s3⟩:=lKk.mp sd
 refine⟨?_,?_,?_⟩
 ·rw[ho,lJo,<-lJo _ _ (b.toList.drop ib)];exact perm
 ·rw[ho]
  exact lKk.mpr ⟨h.srt,s1,fun x hx' y hy=>up x hx' y (lKd _ (lKd _ hy))⟩
 ·intro x hx' y hy
  rw[ho] at hx'
  rcases (lJn.mp hx') with z | z
  ·refine up x z y ?_
   rcases (lJn.mp hy) with w | w
   ·exact lKd _ (lJ3 _ w)
   ·exact lJ3 _ w
  ·rcases (lJn.mp hy) with w | w
   ·exact s3 x z y w
   ·exact hx x z y w
theorem Lw.takeB (h:Lw le a b out ia ib) (sb:b.toList.Pairwise le) {o:Array Keyed} (ho:o.toList=out.toList++(b.toList.drop ib).take k) (hx:∀x,x∈(b.toList.drop ib).take k->∀y,y∈a.toList.drop ia->le x y):Lw le a b o ia (ib+k):=by
 have e:b.toList.drop ib=(b.toList.drop ib).take k++b.toList.drop (ib+k):=by rw[<-List.drop_drop];exact (lK6 k _).symm
 have sd:(b.toList.drop ib).Pairwise le:=sb.sublist (lVb ..)
 have up:=h.up
 have perm:=h.perm
 rw[e] at sd up perm
 obtain⟨s1,s2,s3⟩:=lKk.mp sd
 refine⟨?_,?_,?_⟩
 ·rw[ho,lJo]
  refine List.Perm.trans (lXo _ ?_) perm
  (rw[<-lJo,<-lJo])
  (exact lX7 _ lYw)
 ·rw[ho]
  exact lKk.mpr ⟨h.srt,s1,fun x hx' y hy=>up x hx' y (lJ3 _ (lKd _ hy))⟩
 ·intro x hx' y hy
  rw[ho] at hx'
  rcases (lJn.mp hx') with z | z
  ·refine up x z y ?_
   rcases (lJn.mp hy) with w | w
   ·exact lKd _ w
   ·exact lJ3 _ (lJ3 _ w)
  ·rcases (lJn.mp hy) with w | w
   ·exact hx x z y w
   ·exact s3 x z y w
theorem jUv {arr:Array Keyed} {i:Nat} {x:Keyed} (h:arr[i]? =some x):arr.toList.drop i=x::arr.toList.drop (i+1):=by
 have hl:arr.toList[i]? =some x:=by rw[lKe];exact h
 obtain⟨h1,h2⟩:=lJj.mp hl
 rw[lYx h1,h2]
theorem Lw.pushA (h:Lw le a b out ia ib) (sa:a.toList.Pairwise le) {x:Keyed} (hi:a[ia]? =some x) (hx:∀y,y∈b.toList.drop ib->le x y):Lw le a b (out.push x) (ia+1) ib:=by
 have e:(a.toList.drop ia).take 1=[x]:=by rw[jUv hi];rfl
 refine h.takeA sa (k:=1) (by rw[e];simp) fun z hz y hy=> ?_
 rw[e,lJt] at hz
 rw[hz];exact hx y hy
theorem Lw.pushB (h:Lw le a b out ia ib) (sb:b.toList.Pairwise le) {x:Keyed} (hi:b[ib]? =some x) (hx:∀y,y∈a.toList.drop ia->le x y):Lw le a b (out.push x) ia (ib+1):=by
 have e:(b.toList.drop ib).take 1=[x]:=by rw[jUv hi];rfl
 refine h.takeB sb (k:=1) (by rw[e];simp) fun z hz y hy=> ?_
 rw[e,lJt] at hz
 rw[hz];exact hx y hy
theorem Lw.done (h:Lw le a b out ia ib) (sa:a.toList.Pairwise le) (sb:b.toList.Pairwise le) (hi:ib=b.size\/ia=a.size):Fin2 le a b (out++a.extract ia++b.extract ib):=by
 have e:(out++a.extract ia++b.extract ib).toList=out.toList++(a.toList.drop ia++b.toList.drop ib):=by rw[lQt,lQt,kK1,kK1,lJo]
 unfold Fin2
 rw[e]
 refine⟨h.perm,lKk.mpr ⟨h.srt,?_,h.up⟩⟩
 refine lKk.mpr ⟨sa.sublist (lVb ..),sb.sublist (lVb ..),fun x hx y hy=> ?_⟩
 rcases hi with z | z
 ·rw[z,lVr (by simp)] at hy;cases hy
 ·rw[z,lVr (by simp)] at hx;cases hx
theorem Lw.lastA (h:Lw le a b out ia ib) (sa:a.toList.Pairwise le) (sb:b.toList.Pairwise le) (hi:ia+1=a.size) (hl:∀x,a[ia]? =some x->∀y,y∈b.toList->le y x):Fin2 le a b (out++b.extract ib++a.extract ia):=by
 have e:(out++b.extract ib++a.extract ia).toList=out.toList++(b.toList.drop ib++a.toList.drop ia):=by rw[lQt,lQt,kK1,kK1,lJo]
 unfold Fin2
 rw[e]
 have hx:a[ia]? =some a[ia]:=lK3 (by omega)
 have ed:a.toList.drop ia=[a[ia]]:=by rw[jUv hx,lVr (by simp;omega)]
 refine⟨(lXo _ lYw).trans h.perm,lKk.mpr ⟨h.srt,?_,fun x hx' y hy=>h.up x hx' y ?_⟩⟩
 ·refine lKk.mpr ⟨sb.sublist (lVb ..),sa.sublist (lVb ..),fun x hx' y hy=> ?_⟩
  rw[ed,lJt] at hy
  rw[hy]
  exact hl _ hx x (lVo hx')
 ·rcases (lJn.mp hy) with w | w
  ·exact lJ3 _ w
  ·exact lKd _ w
end
section
variable {M:Model} {A:Around} {E:Value->Shared->Prop} {s:Shared} {κ:SortKind} {mem:Keyed->Prop} {le:Keyed->Keyed->Prop} [∀x y,Decidable (le x y)]
abbrev jKk (st:SortSt) (g:Nat):SortSt:=SortSt.mk' (kindOf st) (arrOf st) (pendingOf st) g (failedOf st)
theorem kKs {l:List Keyed} {i j:Nat} {x y:Keyed} (h:l.Pairwise le) (hi:l[i]? =some x) (hij:i<j) (hj:l[j]? =some y):le x y:=by
 obtain⟨a1,a2⟩:=lJj.mp hi
 obtain⟨b1,b2⟩:=lJj.mp hj
 have:=lX2.mp h i j a1 b1 hij
 rwa [a2,b2] at this
theorem jYd (H:Asks M A s κ mem le) {arr:Array Keyed} {i:Nat} {x y:Keyed} (hs:arr.toList.Pairwise le) (hm:∀x,x∈arr.toList->mem x) (hx:arr[i]? =some x) (hy:mem y) (h:le y x):∀z,z∈arr.toList.drop i->le y z:=by
 intro z hz
 rw[jUv hx] at hz
 rcases (lJr.mp hz) with rfl | hz
 ·exact h
 ·have hxl:x∈arr.toList:=by rw[Array.mem_toList_iff];exact Array.mem_of_getElem? hx
  have hzl:z∈arr.toList:=lVo hz
  have hd:(arr.toList.drop i).Pairwise le:=hs.sublist (lVb ..)
  rw[jUv hx] at hd
  exact H.tr _ _ _ hy (hm x hxl) (hm z hzl) h (List.rel_of_pairwise_cons hd hz)
theorem jKa {arr:Array Keyed} {i:Nat} {x:Keyed} (hx:arr[i]? =some x):x∈arr.toList:=by rw[Array.mem_toList_iff];exact Array.mem_of_getElem? hx
theorem jVs {arr:Array Keyed} {i:Nat} (h:i<arr.size):∃x,arr[i]? =some x:=⟨arr[i],lK3 h⟩
theorem kXc {arr:Array Keyed} {i k:Nat} {x:Keyed} (h:x∈(arr.toList.drop i).take k):∃j,j<k/\arr[i+j]? =some x:=by
 obtain⟨j,hj⟩:=lKa h
 rw[lQu] at hj
 split at hj
 ·rename_i hl
  rw[lXp,lKe] at hj
  exact⟨j,hl,hj⟩
 ·cases hj
theorem jJv {α:Type} {m n:Nat} {p q:StateT SortSt Sem α} {Q:α->SortSt->Prop} {st:SortSt} (h1:m=n->wpS M A E s p Q st) (h2:¬ m=n->wpS M A E s q Q st):wpS M A E s (if (m == n)=true then p else q) Q st:=by
 by_cases c:m=n
 ·rw[lJc (by simpa using c)];exact h1 c
 ·rw[lJb (by simpa using c)];exact h2 c
theorem qZ5 {α:Type} {c:Prop} [Decidable c] {F:Nat->StateT SortSt Sem α} {x y:Nat} {p q:StateT SortSt Sem α} {Q:α->SortSt->Prop} {st:SortSt} (h2:q=F y) (h1:p=F x) (h:∀z,wpS M A E s (F z) Q st):wpS M A E s (if c then p else q) Q st:=by
 split
 ·rw[h1];exact h x
 ·rw[h2];exact h y
theorem qYd {α γ δ:Type} {c:Prop} [Decidable c] {F:γ->δ->StateT SortSt Sem α} {p q:StateT SortSt Sem α} {Q:α->SortSt->Prop} {st:SortSt} (y1:γ) (y2:δ) (h2:q=F y1 y2) (R:γ->δ->Prop) (hn:¬ c->R y1 y2) (hp:c->(∀z1 z2,R z1 z2->wpS M A E s (F z1 z2) Q st)->wpS M A E s p Q st) (key:∀z1 z2,R z1 z2->wpS M A E s (F z1 z2) Q st):wpS M A E s (if c then p else q) Q st:=by
 by_cases h:c
 ·rw[lJc h];exact hp h key
 ·rw[lJb h,h2];exact key y1 y2 (hn h)
abbrev kd:Keyed:=(Value.none,Value.none)
theorem at_d {a:Array Keyed} {ja:Nat} (i:Nat) (hi:i<a.size-ja):a[ja+i]? =some (a.getD (ja+i) kd):=by simp[Array.getD,show ja+i<a.size by omega]
theorem srt_d (H:Asks M A s κ mem le) {a:Array Keyed} {ja:Nat} (sa:a.toList.Pairwise le) (ma:∀x,x∈a.toList->mem x) (i j:Nat) (hij:i<=j) (hj:j<a.size-ja):le (a.getD (ja+i) kd) (a.getD (ja+j) kd):=by
 have h1:=at_d (a:=a) (ja:=ja) i (by omega)
 have h2:=at_d (a:=a) (ja:=ja) j hj
 rcases lK8 hij with q | rfl
 ·exact kKs sa (i:=ja+i) (j:=ja+j) (by rw[lKe];exact h1) (by omega) (by rw[lKe];exact h2)
 ·exact (H.tot _ _ (ma _ (jKa h1)) (ma _ (jKa h1))).elim id id
variable {a b:Array Keyed}
theorem galA (H:Asks M A s κ mem le) {ja jb k:Nat} {y:Keyed} (sa:a.toList.Pairwise le) (ma:∀x,x∈a.toList->mem x) (sb:b.toList.Pairwise le) (mb:∀x,x∈b.toList->mem x) (hy:b[jb]? =some y) (hk1:k<=a.size-ja) (hk2:∀i,i<k->bey le false y (a.getD (ja+i) kd)=true) (hk3:∀i,k<=i->i<a.size-ja->bey le false y (a.getD (ja+i) kd)=false):
  (∀x,x∈(a.toList.drop ja).take k->∀z,z∈b.toList.drop jb->le x z)/\(ja+k<a.size->∀z,z∈a.toList.drop (ja+k)->le y z):=by
 have my:=mb y (jKa hy)
 simp only[bey,lKf,lJ6,lKm,lXb] at hk2 hk3
 refine⟨fun x hx z hz=> ?_,fun hlt=> ?_⟩
 ·obtain⟨j,hj,hxj⟩:=kXc hx
  have e:=at_d (a:=a) (ja:=ja) j (by omega)
  rw[hxj] at e
  have hle:=hk2 j hj
  rw[<-lJ2 e] at hle
  exact jYd H sb mb hy (ma x (jKa hxj)) hle z hz
 ·have e:=at_d (a:=a) (ja:=ja) k (by omega)
  have hm:=ma _ (jKa e)
  exact jYd H sa ma e my ((H.tot _ _ hm my).resolve_left (hk3 k (lJg _) (by omega)))
theorem galB (H:Asks M A s κ mem le) {ja jb k:Nat} {x:Keyed} (sa:a.toList.Pairwise le) (ma:∀x,x∈a.toList->mem x) (sb:b.toList.Pairwise le) (mb:∀x,x∈b.toList->mem x) (hx:a[ja]? =some x) (hk1:k<=b.size-jb) (hk2:∀i,i<k->bey le true x (b.getD (jb+i) kd)=true) (hk3:∀i,k<=i->i<b.size-jb->bey le true x (b.getD (jb+i) kd)=false):
  (∀y,y∈(b.toList.drop jb).take k->∀z,z∈a.toList.drop ja->le y z)/\(jb+k<b.size->∀z,z∈b.toList.drop (jb+k)->le x z):=by
 have mx:=ma x (jKa hx)
 simp only[bey,lKh,lVe,lXb,Bool.not_eq_false',lKm] at hk2 hk3
 refine⟨fun y hy z hz=> ?_,fun hlt=> ?_⟩
 ·obtain⟨j,hj,hyj⟩:=kXc hy
  have e:=at_d (a:=b) (ja:=jb) j (by omega)
  rw[hyj] at e
  have hle:=hk2 j hj
  rw[<-lJ2 e] at hle
  have my:=mb y (jKa hyj)
  exact jYd H sa ma hx my ((H.tot _ _ mx my).resolve_left hle) z hz
 ·have e:=at_d (a:=b) (ja:=jb) k (by omega)
  exact jYd H sb mb e mx (hk3 k (lJg _) (by omega))
theorem kZf {st:SortSt} {Q:Array Keyed->SortSt->Prop} (H:Asks M A s κ mem le) (hk:kindOf st=κ) (hA:1<=a.size) (hB:1<=b.size) (sa:a.toList.Pairwise le) (sb:b.toList.Pairwise le) (ma:∀x,x∈a.toList->mem x) (mb:∀x,x∈b.toList->mem x)
  (hf:∀x,b[0]? =some x->∀y,y∈a.toList->le x y) (hl:∀x,a[a.size-1]? =some x->∀y,y∈b.toList->le y x) (h:∀r g,Fin2 le a b r->Q r (jKk st g)):
  wpS M A E s (qVt a b) Q st:=by
 obtain⟨x0,hb0⟩:=jVs (arr:=b) (i:=0) (by omega)
 have hl':∀i,i+1=a.size->∀x,a[i]? =some x->∀y,y∈b.toList->le y x:=fun i hi x hx=>hl x (by rw[show a.size-1=i by omega];exact hx)
 have L0:Lw le a b #[x0] 0 1:=by
  refine⟨?_,by simp,?_⟩
  ·rw[lX8]
   have:b.toList=x0::b.toList.drop 1:=by have:=jUv hb0;rwa [lX8] at this
   conv=>rhs;rw[this]
   show (x0::(a.toList++List.drop 1 b.toList)).Perm _
   exact List.perm_middle.symm
  ·intro x hx y hy
   simp at hx;subst hx
   rcases (lJn.mp hy) with z | z
   ·exact hf x hb0 y (lVo z)
   ·have hd:=sb
    have e:b.toList=x::b.toList.drop 1:=by have:=jUv hb0;rwa [lX8] at this
    rw[e] at hd
    exact List.rel_of_pairwise_cons hd z
 have fin0:∀r,Fin2 le a b r->Q r st:=fun r hr=>h r (gallopOf st) hr
 (refine lJe (wpS_lift (lQd ⟨rfl,?_⟩)))
 refine lJe (jJ5 hb0 ?_)
 dsimp only
 by_cases c1:1=b.size
 ·rw[lJc (by simpa using c1)]
  exact lJh (fin0 _ (L0.done sa sb (.inl c1)))
 rw[lJb (by simpa using c1)]
 by_cases c2:0+1=a.size
 ·rw[lJc (by simpa using c2)]
  exact lJh (fin0 _ (L0.lastA sa sb c2 (hl' 0 c2)))
 rw[lJb (by simpa using c2)]
 refine lJe (lQf ?_)
 refine lJe (lKq (lKr (I:=fun i (c:Option (Array Keyed)×Array Keyed×Nat×Nat×Nat) st'=>(∃g,jKk st g=st')/\c.1=none/\Lw le a b c.2.1 c.2.2.1 c.2.2.2.1/\c.2.2.1+1<a.size/\c.2.2.2.1<b.size/\i+1<=c.2.1.size)
  (Q:=fun (c:Option (Array Keyed)×Array Keyed×Nat×Nat×Nat) st'=>(∃g,jKk st g=st')/\∃r,c.1=some r/\Fin2 le a b r) ?_ ?_ ⟨⟨_,rfl⟩,rfl,L0,by dsimp only;omega,by dsimp only;omega,by simp⟩) ?_)
 ·rintro i ⟨r,out,ia,ib,mg⟩ st' _ hi ⟨⟨g,rfl⟩,rfl,L,ha,hb,hsz⟩
  dsimp only at L ha hb hsz ⊢
  refine lJe (lKq (lKr (I:=fun i1 (c:Option (Array Keyed)×Array Keyed×Nat×Nat×Nat×Nat) st'=>jKk st g=st'/\c.1=none/\Lw le a b c.2.1 c.2.2.1 c.2.2.2.1/\c.2.2.1+1<a.size/\c.2.2.2.1<b.size/\out.size+i1<=c.2.1.size)
   (Q:=fun (c:Option (Array Keyed)×Array Keyed×Nat×Nat×Nat×Nat) st'=>jKk st g=st'/\((∃r,c.1=some r/\Fin2 le a b r)\/(c.1=none/\Lw le a b c.2.1 c.2.2.1 c.2.2.2.1/\c.2.2.1+1<a.size/\c.2.2.2.1<b.size/\out.size+1<=c.2.1.size))) ?_ ?_ ⟨rfl,rfl,L,ha,hb,lJg _⟩) ?_)
  ·rintro i1 ⟨r,out1,ia1,ib1,ac,bc⟩ st' _ hi1 ⟨rfl,rfl,L1,ha1,hb1,hsz1⟩
   dsimp only at L1 ha1 hb1 hsz1 ⊢
   obtain⟨y,hy⟩:=jVs hb1
   obtain⟨x,hx⟩:=jVs (arr:=a) (i:=ia1) (by omega)
   have my:=mb y (jKa hy)
   have mx:=ma x (jKa hx)
   refine lJe (jJ5 hy (lJe (jJ5 hx (lJe (qKz (st:=jKk st g) H my mx hk ?_)))))
   by_cases w:le x y
   ·rw[lJ4 w]
    dsimp only
    rw[lJb (by decide)]
    refine lJe (jJ5 hx ?_)
    have L2:=L1.pushA sa hx (jYd H sb mb hy mx w)
    by_cases c3:ia1+1+1=a.size
    ·rw[lJc (by simpa using c3)]
     exact lJh ⟨rfl,.inl ⟨_,rfl,L2.lastA sa sb c3 (hl' _ c3)⟩⟩
    ·rw[lJb (by simpa using c3)]
     by_cases c4:ac+1>=mg
     ·rw[lJc c4]
      exact wpS_pure ⟨rfl,.inr ⟨rfl,L2,by dsimp only;omega,hb1,by simp;omega⟩⟩
     ·rw[lJb c4]
      exact wpS_pure ⟨rfl,rfl,L2,by dsimp only;omega,hb1,by simp;omega⟩
   ·rw[lJv w]
    dsimp only
    (rw[lJc (show (!false)=true from rfl)])
    refine lJe (jJ5 hy ?_)
    have w':le y x:=(H.tot x y mx my).resolve_left w
    have L2:=L1.pushB sb hy (jYd H sa ma hx my w')
    by_cases c3:ib1+1=b.size
    ·rw[lJc (by simpa using c3)]
     exact lJh ⟨rfl,.inl ⟨_,rfl,L2.done sa sb (.inl c3)⟩⟩
    ·rw[lJb (by simpa using c3)]
     by_cases c4:bc+1>=mg
     ·rw[lJc c4]
      exact wpS_pure ⟨rfl,.inr ⟨rfl,L2,ha1,by dsimp only;omega,by simp;omega⟩⟩
     ·rw[lJb c4]
      exact wpS_pure ⟨rfl,rfl,L2,ha1,by dsimp only;omega,by simp;omega⟩
  ·rintro⟨r,out1,ia1,ib1,ac,bc⟩ st' ⟨rfl,rfl,L1,ha1,hb1,hsz1⟩
   dsimp only at L1 ha1 hb1 hsz1 ⊢
   exact⟨rfl,.inr ⟨rfl,L1,ha1,hb1,by omega⟩⟩
  ·rintro⟨r,out1,ia1,ib1,ac,bc⟩ st' ⟨rfl,⟨r',rfl,fr⟩ | ⟨rfl,L1,ha1,hb1,hsz1⟩⟩
   ·dsimp only
    exact lJh ⟨⟨g,rfl⟩,r',rfl,fr⟩
   dsimp only at L1 ha1 hb1 hsz1 ⊢
   (refine lJe (wpS_lift (lQd ⟨rfl,?_⟩)))
   refine lJe (lKq (lKr (I:=fun _ (c:Option (Array Keyed)×Array Keyed×Nat×Nat×Nat×Nat×Nat) st'=>(∃g,jKk st g=st')/\c.1=none/\Lw le a b c.2.1 c.2.2.1 c.2.2.2.1/\c.2.2.1+1<a.size/\c.2.2.2.1<b.size/\out.size+1<=c.2.1.size)
    (Q:=fun (c:Option (Array Keyed)×Array Keyed×Nat×Nat×Nat×Nat×Nat) st'=>(∃g,jKk st g=st')/\((∃r,c.1=some r/\Fin2 le a b r)\/(c.1=none/\Lw le a b c.2.1 c.2.2.1 c.2.2.2.1/\c.2.2.1+1<a.size/\c.2.2.2.1<b.size/\out.size+1<=c.2.1.size))) ?_ ?_ ⟨⟨g,rfl⟩,rfl,L1,ha1,hb1,hsz1⟩) ?_)
   ·clear L1 ha1 hb1 hsz1
    rintro i1 ⟨r,o,ja,jb,mg1,ac1,bc1⟩ st' _ hi1 ⟨⟨g1,rfl⟩,rfl,L1,ha1,hb1,hsz1⟩
    dsimp only at L1 ha1 hb1 hsz1 ⊢
    obtain⟨y,hy⟩:=jVs hb1
    have my:=mb y (jKa hy)
    apply qZ5 (x:=mg1-1) (y:=mg1)
    case h2=>rfl
    case h1=>rfl
    intro mg2
    refine lJe (lKn ?_)
    refine lJe (jJ5 hy ?_)
    refine lJe (jUe (st:=jKk st _) (f:=fun i=>a.getD (ja+i) kd) H hk my at_d (fun i hi=>ma _ (jKa (at_d i hi))) (srt_d H sa ma) (by omega) fun k hk1 hk2 hk3=> ?_)
    obtain⟨takeK,beyK⟩:=galA H sa ma sb mb hy hk1 hk2 hk3
    clear hk2 hk3
    dsimp only
    apply qYd o ja (R:=fun o2 ja2=>Lw le a b o2 ja2 jb/\ja2+1<a.size/\out.size+1<=o2.size/\∀z,z∈a.toList.drop ja2->le y z)
    case h2=>rfl
    ·intro ck
     obtain rfl:k=0:=by omega
     have bk:=beyK (by omega)
     rw[lXi] at bk
     exact⟨L1,ha1,hsz1,bk⟩
    ·intro ck key
     have L2:Lw le a b (o++a.extract ja (ja+k)) (ja+k) jb:=L1.takeA sa (by rw[lQt,qYh (by omega)]) takeK
     refine jJv (fun d1=> ?_) fun d1=> ?_
     ·exact lJh ⟨⟨_,rfl⟩,.inl ⟨_,rfl,L2.lastA sa sb d1 (hl' _ d1)⟩⟩
     refine jJv (fun d2=> ?_) fun d2=> ?_
     ·exact lJh ⟨⟨_,rfl⟩,.inl ⟨_,rfl,L2.done sa sb (.inr d2)⟩⟩
     exact key _ _ ⟨L2,by omega,by rw[Array.size_append];omega,beyK (by omega)⟩
    intro o2 ja2 hR
    obtain⟨L2,hja,hos,bk⟩:=hR
    clear L1 takeK beyK hk1 ha1 hsz1
    refine lJe (jJ5 hy ?_)
    have L3:=L2.pushB sb hy bk
    refine jJv (fun d3=> ?_) fun d3=> ?_
    ·exact lJh ⟨⟨_,rfl⟩,.inl ⟨_,rfl,L3.done sa sb (.inl d3)⟩⟩
    obtain⟨x,hx⟩:=jVs (Nat.lt_of_succ_lt hja)
    have mx:=ma x (jKa hx)
    have hps:out.size+1<=(o2.push y).size:=by rw[Array.size_push];omega
    have hjb:jb+1<b.size:=by omega
    clear L2 bk hos d3 hb1
    refine lJe (jJ5 hx ?_)
    generalize o2.push y=o3 at *
    generalize jb+1=jb1 at *
    refine lJe (jUe (st:=jKk st _) (f:=fun i=>b.getD (jb1+i) kd) H hk mx at_d (fun i hi=>mb _ (jKa (at_d i hi))) (srt_d H sb mb) (by omega) fun k2 e1 e2 e3=> ?_)
    obtain⟨takeK,beyK⟩:=galB H sa ma sb mb hx e1 e2 e3
    clear e2 e3
    dsimp only
    apply qYd o3 jb1 (R:=fun o4 jb2=>Lw le a b o4 ja2 jb2/\jb2<b.size/\out.size+1<=o4.size/\∀z,z∈b.toList.drop jb2->le x z)
    case h2=>rfl
    ·intro ck
     obtain rfl:k2=0:=by omega
     have bk:=beyK (by omega)
     rw[lXi] at bk
     exact⟨L3,hjb,hps,bk⟩
    ·intro ck key
     have L4:=L3.takeB sb (k:=k2) (lQt.trans (lJ8 _ (qYh (ia:=jb1) (a:=b) (by omega)))) takeK
     refine jJv (fun d4=> ?_) fun d4=> ?_
     ·exact lJh ⟨⟨_,rfl⟩,.inl ⟨_,rfl,L4.done sa sb (.inl d4)⟩⟩
     exact key _ _ ⟨L4,by omega,by rw[Array.size_append];omega,beyK (by omega)⟩
    intro o4 jb2 hR
    obtain⟨L4,hjb2,hos,bk⟩:=hR
    clear L3 takeK beyK e1 hjb hps
    have L5:=L4.pushA sa hx bk
    refine lJe (jJ5 hx ?_)
    refine jJv (fun d5=> ?_) fun d5=> ?_
    ·exact lJh ⟨⟨_,rfl⟩,.inl ⟨_,rfl,L5.lastA sa sb d5 (hl' _ d5)⟩⟩
    have g5:ja2+1+1<a.size:=by omega
    have g6:out.size+1<=(o4.push x).size:=by rw[Array.size_push];omega
    split
    ·exact lJh ⟨⟨_,rfl⟩,.inr ⟨rfl,L5,g5,hjb2,g6⟩⟩
    ·exact lJh ⟨⟨_,rfl⟩,rfl,L5,g5,hjb2,g6⟩
   ·rintro⟨r,o,ja,jb,mg1,ac1,bc1⟩ st' ⟨⟨g1,rfl⟩,rfl,L1,ha1,hb1,hsz1⟩
    dsimp only at L1 ha1 hb1 hsz1 ⊢
    exact⟨⟨g1,rfl⟩,.inr ⟨rfl,L1,ha1,hb1,hsz1⟩⟩
   ·rintro⟨r,o,ja,jb,mg1,ac1,bc1⟩ st' ⟨⟨g1,rfl⟩,⟨r',rfl,fr⟩ | ⟨rfl,L1,ha1,hb1,hsz1⟩⟩
    ·dsimp only
     exact lJh ⟨⟨g1,rfl⟩,r',rfl,fr⟩
    ·dsimp only at L1 ha1 hb1 hsz1 ⊢
     refine lJe (lKn ?_)
     exact wpS_pure ⟨⟨_,rfl⟩,rfl,L1,ha1,hb1,by dsimp only;omega⟩
 ·rintro⟨r,out,ia,ib,mg⟩ st' ⟨⟨g,rfl⟩,rfl,L,ha,hb,hsz⟩
  have:=L.size
  dsimp only at this hsz ha hb
  exfalso
  rw[Nat.zero_max] at hsz
  omega
 ·rintro⟨r,out,ia,ib,mg⟩ st' ⟨⟨g,rfl⟩,r',rfl,fr⟩
  dsimp only
  exact lJh (h _ _ fr)
end
section
variable {le:Keyed->Keyed->Prop} {a b out:Array Keyed} {na nb k:Nat}
structure Hw (le:Keyed->Keyed->Prop) (a b out:Array Keyed) (na nb:Nat):Prop where
 perm:((a.toList.take na++b.toList.take nb)++out.toList.reverse).Perm (a.toList++b.toList)
 srt:out.toList.reverse.Pairwise le
 up:∀x,x∈a.toList.take na++b.toList.take nb->∀y,y∈out.toList->le x y
theorem Hw.size (h:Hw le a b out na nb) (h1:na<=a.size) (h2:nb<=b.size):na+nb+out.size=a.size+b.size:=by
 have:=h.perm.length_eq
 simp at this
 omega
theorem kJt {l:List Keyed} (h:k<=na):l.take na=l.take k++(l.take na).drop k:=by
 conv=>lhs;rw[<-lK6 k (l.take na)]
 rw[List.take_take,Nat.min_eq_left h]
theorem Hw.takeA (h:Hw le a b out na nb) (sa:a.toList.Pairwise le) (hk:k<=na) {o:Array Keyed} (ho:o.toList.reverse=(a.toList.take na).drop k++out.toList.reverse) (hx:∀x,x∈b.toList.take nb->∀y,y∈(a.toList.take na).drop k->le x y):Hw le a b o k nb:=by
 have sd:(a.toList.take na).Pairwise le:=sa.sublist (lQ3 ..)
 have up:=h.up
 have perm:=h.perm
 have e:=kJt (l:=a.toList) hk
 generalize hd:(a.toList.take na).drop k=d at *
 rw[e] at sd up perm
 obtain⟨s1,s2,s3⟩:=lKk.mp sd
 have mo:∀y,y∈o.toList->y∈d\/y∈out.toList:=fun y hy=>by
  have:y∈o.toList.reverse:=lVs.mpr hy
  rw[ho] at this
  exact (lJn.mp this).imp id lVs.mp
 refine⟨?_,?_,?_⟩
 ·rw[ho]
  refine List.Perm.trans ?_ perm
  rw[<-lJo,lJo,lJo,lJo,lJo]
  (refine lXo _ ?_)
  (rw[<-lJo,<-lJo])
  (exact lX7 _ lYw)
 ·rw[ho]
  exact lKk.mpr ⟨s2,h.srt,fun x hx' y hy=>up x (lKd _ (lJ3 _ hx')) y (lVs.mp hy)⟩
 ·intro x hx' y hy
  rcases mo y hy with z | z
  ·rcases (lJn.mp hx') with w | w
   ·exact s3 x w y z
   ·exact hx x w y z
  ·refine up x ?_ y z
   rcases (lJn.mp hx') with w | w
   ·exact lKd _ (lKd _ w)
   ·exact lJ3 _ w
theorem Hw.takeB (h:Hw le a b out na nb) (sb:b.toList.Pairwise le) (hk:k<=nb) {o:Array Keyed} (ho:o.toList.reverse=(b.toList.take nb).drop k++out.toList.reverse) (hx:∀x,x∈a.toList.take na->∀y,y∈(b.toList.take nb).drop k->le x y):Hw le a b o na k:=by
 have sd:(b.toList.take nb).Pairwise le:=sb.sublist (lQ3 ..)
 have up:=h.up
 have perm:=h.perm
 have e:=kJt (l:=b.toList) hk
 generalize hd:(b.toList.take nb).drop k=d at *
 rw[e] at sd up perm
 obtain⟨s1,s2,s3⟩:=lKk.mp sd
 have mo:∀y,y∈o.toList->y∈d\/y∈out.toList:=fun y hy=>by
  have:y∈o.toList.reverse:=lVs.mpr hy
  rw[ho] at this
  exact (lJn.mp this).imp id lVs.mp
 refine⟨?_,?_,?_⟩
 ·rw[ho]
  refine List.Perm.trans ?_ perm
  rw[<-lJo,lJo,lJo,lJo,lJo]
 ·rw[ho]
  exact lKk.mpr ⟨s2,h.srt,fun x hx' y hy=>up x (lJ3 _ (lJ3 _ hx')) y (lVs.mp hy)⟩
 ·intro x hx' y hy
  rcases mo y hy with z | z
  ·rcases (lJn.mp hx') with w | w
   ·exact hx x w y z
   ·exact s3 x w y z
  ·refine up x ?_ y z
   rcases (lJn.mp hx') with w | w
   ·exact lKd _ w
   ·exact lJ3 _ (lKd _ w)
theorem jYx {arr:Array Keyed} {i:Nat} {x:Keyed} (h:arr[i]? =some x):(arr.toList.take (i+1)).drop i=[x]:=by
 have hl:arr.toList[i]? =some x:=by rw[lKe];exact h
 obtain⟨h1,h2⟩:=lJj.mp hl
 have hs:i<arr.size:=by simpa using h1
 rw[lQi,hl,lYy (by simp;omega),lVr (by simp;omega)]
 rfl
theorem Hw.pushA (h:Hw le a b out (na+1) nb) (sa:a.toList.Pairwise le) {x:Keyed} (hi:a[na]? =some x) (hx:∀y,y∈b.toList.take nb->le y x):Hw le a b (out.push x) na nb:=by
 refine h.takeA sa (k:=na) (by omega) (by rw[jYx hi];simp) fun z hz y hy=> ?_
 rw[jYx hi,lJt] at hy
 rw[hy];exact hx z hz
theorem Hw.pushB (h:Hw le a b out na (nb+1)) (sb:b.toList.Pairwise le) {x:Keyed} (hi:b[nb]? =some x) (hx:∀y,y∈a.toList.take na->le y x):Hw le a b (out.push x) na nb:=by
 refine h.takeB sb (k:=nb) (by omega) (by rw[jYx hi];simp) fun z hz y hy=> ?_
 rw[jYx hi,lJt] at hy
 rw[hy];exact hx z hz
theorem jYz:(a.extract 0 na).toList=a.toList.take na:=by rw[jVh];simp
theorem Hw.done (h:Hw le a b out na nb) (sa:a.toList.Pairwise le) (sb:b.toList.Pairwise le) (hi:na=0\/nb=0):Fin2 le a b (a.extract 0 na++b.extract 0 nb++out.reverse):=by
 have e:(a.extract 0 na++b.extract 0 nb++out.reverse).toList=(a.toList.take na++b.toList.take nb)++out.toList.reverse:=by rw[lQt,lQt,jYz,jYz,Array.toList_reverse]
 unfold Fin2
 rw[e]
 refine⟨h.perm,lKk.mpr ⟨?_,h.srt,fun x hx y hy=>h.up x hx y (lVs.mp hy)⟩⟩
 refine lKk.mpr ⟨sa.sublist (lQ3 ..),sb.sublist (lQ3 ..),fun x hx y hy=> ?_⟩
 rcases hi with z | z
 ·rw[z] at hx;cases hx
 ·rw[z] at hy;cases hy
theorem Hw.firstB (h:Hw le a b out na nb) (sa:a.toList.Pairwise le) (sb:b.toList.Pairwise le) (hi:nb=1) (hl:∀x,b[0]? =some x->∀y,y∈a.toList->le x y):Fin2 le a b (b.extract 0 nb++a.extract 0 na++out.reverse):=by
 have e:(b.extract 0 nb++a.extract 0 na++out.reverse).toList=(b.toList.take nb++a.toList.take na)++out.toList.reverse:=by rw[lQt,lQt,jYz,jYz,Array.toList_reverse]
 unfold Fin2
 rw[e]
 refine⟨(lX7 _ lYw).trans h.perm,lKk.mpr ⟨?_,h.srt,fun x hx y hy=>h.up x ?_ y (lVs.mp hy)⟩⟩
 ·refine lKk.mpr ⟨sb.sublist (lQ3 ..),sa.sublist (lQ3 ..),fun x hx y hy=> ?_⟩
  rw[hi] at hx
  (obtain⟨j,hj⟩:=lKa hx)
  rw[lQu] at hj
  split at hj
  ·rename_i hlt
   obtain rfl:j=0:=by omega
   rw[lKe] at hj
   exact hl x hj y (lQz hy)
  ·cases hj
 ·rcases (lJn.mp hx) with w | w
  ·exact lJ3 _ w
  ·exact lKd _ w
end
section
variable {M:Model} {A:Around} {E:Value->Shared->Prop} {s:Shared} {κ:SortKind} {mem:Keyed->Prop} {le:Keyed->Keyed->Prop} [∀x y,Decidable (le x y)] {a b:Array Keyed}
theorem kKd (H:Asks M A s κ mem le) {arr:Array Keyed} {i:Nat} {x y:Keyed} (hs:arr.toList.Pairwise le) (hm:∀x,x∈arr.toList->mem x) (hx:arr[i]? =some x) (hy:mem y) (h:le x y):∀z,z∈arr.toList.take (i+1)->le z y:=by
 intro z hz
 have hzl:z∈arr.toList:=lQz hz
 obtain⟨j,hj⟩:=lKa hz
 rw[lQu] at hj
 split at hj
 ·rename_i hlt
  rcases lK8 (lQc hlt) with q | rfl
  ·exact H.tr _ _ _ (hm z hzl) (hm x (jKa hx)) hy (kKs hs hj q (by rw[lKe];exact hx)) h
  ·rw[lKe,hx] at hj;cases hj;exact h
 ·cases hj
theorem qYk {arr:Array Keyed} {n k:Nat} {x:Keyed} (h:x∈(arr.toList.take n).drop k):∃j,k<=j/\j<n/\arr[j]? =some x:=by
 obtain⟨j,hj⟩:=lKa h
 rw[lXp,lQu] at hj
 split at hj
 ·rename_i hl
  rw[lKe] at hj
  exact⟨k+j,by omega,hl,hj⟩
 ·cases hj
theorem qXw {arr:Array Keyed} {n:Nat} {x:Keyed} (h:x∈arr.toList.take n):∃j,j<n/\arr[j]? =some x:=by
 obtain⟨j,hj⟩:=lKa h
 rw[lQu] at hj
 split at hj
 ·rename_i hl
  rw[lKe] at hj
  exact⟨j,hl,hj⟩
 ·cases hj
theorem at_e {a:Array Keyed} {n:Nat} (hn:n<=a.size) (i:Nat) (hi:i<n):a[0+i]? =some (a.getD i kd):=by rw[lV0];simp[Array.getD,show i<a.size by omega]
theorem srt_e (H:Asks M A s κ mem le) {a:Array Keyed} {n:Nat} (hn:n<=a.size) (sa:a.toList.Pairwise le) (ma:∀x,x∈a.toList->mem x) (i j:Nat) (hij:i<=j) (hj:j<n):le (a.getD i kd) (a.getD j kd):=by
 have h1:=at_e hn i (by omega)
 have h2:=at_e hn j hj
 rw[lV0] at h1 h2
 rcases lK8 hij with q | rfl
 ·exact kKs sa (i:=i) (j:=j) (by rw[lKe];exact h1) q (by rw[lKe];exact h2)
 ·exact (H.tot _ _ (ma _ (jKa h1)) (ma _ (jKa h1))).elim id id
theorem galAh (H:Asks M A s κ mem le) {na nb k:Nat} {y:Keyed} (ma:∀x,x∈a.toList->mem x) (sb:b.toList.Pairwise le) (mb:∀x,x∈b.toList->mem x) (hna:na<=a.size) (hy:b[nb]? =some y) (hk1:k<=na) (hk2:∀i,i<k->bey le false y (a.getD i kd)=true) (hk3:∀i,k<=i->i<na->bey le false y (a.getD i kd)=false):
  (∀z,z∈b.toList.take (nb+1)->∀x,x∈(a.toList.take na).drop k->le z x)/\(∀z,z∈a.toList.take k->le z y):=by
 have my:=mb y (jKa hy)
 simp only[bey,lKf,lJ6,lKm,lXb] at hk2 hk3
 refine⟨fun z hz x hx=> ?_,fun z hz=> ?_⟩
 ·obtain⟨j,h1,h2,h3⟩:=qYk hx
  have e:=at_e hna j h2
  rw[lV0,h3] at e
  have hle:=hk3 j h1 h2
  rw[<-lJ2 e] at hle
  have mx:=ma x (jKa h3)
  exact kKd H sb mb hy mx ((H.tot _ _ mx my).resolve_left hle) z hz
 ·obtain⟨j,h1,h2⟩:=qXw hz
  have e:=at_e hna j (by omega)
  rw[lV0,h2] at e
  have hle:=hk2 j h1
  rwa [<-lJ2 e] at hle
theorem galBh (H:Asks M A s κ mem le) {na nb k:Nat} {x:Keyed} (sa:a.toList.Pairwise le) (ma:∀x,x∈a.toList->mem x) (mb:∀x,x∈b.toList->mem x) (hnb:nb<=b.size) (hx:a[na]? =some x) (hk1:k<=nb) (hk2:∀i,i<k->bey le true x (b.getD i kd)=true) (hk3:∀i,k<=i->i<nb->bey le true x (b.getD i kd)=false):
  (∀z,z∈a.toList.take (na+1)->∀y,y∈(b.toList.take nb).drop k->le z y)/\(∀z,z∈b.toList.take k->le z x):=by
 have mx:=ma x (jKa hx)
 simp only[bey,lKh,lVe,lXb,Bool.not_eq_false',lKm] at hk2 hk3
 refine⟨fun z hz y hy=> ?_,fun z hz=> ?_⟩
 ·obtain⟨j,h1,h2,h3⟩:=qYk hy
  have e:=at_e hnb j h2
  rw[lV0,h3] at e
  have hle:=hk3 j h1 h2
  rw[<-lJ2 e] at hle
  exact kKd H sa ma hx (mb y (jKa h3)) hle z hz
 ·obtain⟨j,h1,h2⟩:=qXw hz
  have e:=at_e hnb j (by omega)
  rw[lV0,h2] at e
  have hle:=hk2 j h1
  rw[<-lJ2 e] at hle
  exact (H.tot _ _ mx (mb z (jKa h2))).resolve_left hle
theorem qJv {arr o:Array Keyed} {n k:Nat}:(o++(arr.extract k n).reverse).toList.reverse=(arr.toList.take n).drop k++o.toList.reverse:=by
 rw[lQt,List.reverse_append,Array.toList_reverse,List.reverse_reverse,jVh,List.drop_take]
theorem kZg {st:SortSt} {Q:Array Keyed->SortSt->Prop} (H:Asks M A s κ mem le) (hk:kindOf st=κ) (hA:1<=a.size) (hB:1<=b.size) (sa:a.toList.Pairwise le) (sb:b.toList.Pairwise le) (ma:∀x,x∈a.toList->mem x) (mb:∀x,x∈b.toList->mem x)
  (hf:∀x,b[0]? =some x->∀y,y∈a.toList->le x y) (hl:∀x,a[a.size-1]? =some x->∀y,y∈b.toList->le y x) (h:∀r g,Fin2 le a b r->Q r (jKk st g)):
  wpS M A E s (qVu a b) Q st:=by
 obtain⟨x0,hb0⟩:=jVs (arr:=a) (i:=a.size-1) (by omega)
 have La:Hw le a b #[] (a.size-1+1) b.size:=by
  refine⟨?_,by simp,fun x _ y hy=> ?_⟩
  ·rw[lQs (by simp;omega),lQs (by simp)];simp
  ·simp at hy
 have L0:Hw le a b #[x0] (a.size-1) b.size:=La.pushA sa hb0 fun y hy=>hl x0 hb0 y (lQz hy)
 have fin0:∀r,Fin2 le a b r->Q r st:=fun r hr=>h r (gallopOf st) hr
 (refine lJe (wpS_lift (lQd ⟨rfl,?_⟩)))
 refine lJe (jJ5 hb0 ?_)
 dsimp only
 refine jJv (fun c1=> ?_) fun c1=> ?_
 ·exact lJh (fin0 _ (L0.done sa sb (.inl c1)))
 refine jJv (fun c2=> ?_) fun c2=> ?_
 ·exact lJh (fin0 _ (L0.firstB sa sb c2 hf))
 refine lJe (lQf ?_)
 refine lJe (lKq (lKr (I:=fun i (c:Option (Array Keyed)×Nat×Nat×Array Keyed×Nat) st'=>(∃g,jKk st g=st')/\c.1=none/\Hw le a b c.2.2.2.1 c.2.1 c.2.2.1/\1<=c.2.1/\c.2.1<=a.size/\2<=c.2.2.1/\c.2.2.1<=b.size/\i+1<=c.2.2.2.1.size)
  (Q:=fun (c:Option (Array Keyed)×Nat×Nat×Array Keyed×Nat) st'=>(∃g,jKk st g=st')/\∃r,c.1=some r/\Fin2 le a b r) ?_ ?_ ⟨⟨_,rfl⟩,rfl,L0,by dsimp only;omega,by dsimp only;omega,by dsimp only;omega,by dsimp only;omega,by simp⟩) ?_)
 ·rintro i ⟨r,na,nb,out,mg⟩ st' _ hi ⟨⟨g,rfl⟩,rfl,L,ha,ha',hb,hb',hsz⟩
  dsimp only at L ha ha' hb hb' hsz ⊢
  refine lJe (lKq (lKr (I:=fun i1 (c:Option (Array Keyed)×Nat×Nat×Array Keyed×Nat×Nat) st'=>jKk st g=st'/\c.1=none/\Hw le a b c.2.2.2.1 c.2.1 c.2.2.1/\1<=c.2.1/\c.2.1<=a.size/\2<=c.2.2.1/\c.2.2.1<=b.size/\out.size+i1<=c.2.2.2.1.size)
   (Q:=fun (c:Option (Array Keyed)×Nat×Nat×Array Keyed×Nat×Nat) st'=>jKk st g=st'/\((∃r,c.1=some r/\Fin2 le a b r)\/(c.1=none/\Hw le a b c.2.2.2.1 c.2.1 c.2.2.1/\1<=c.2.1/\c.2.1<=a.size/\2<=c.2.2.1/\c.2.2.1<=b.size/\out.size+1<=c.2.2.2.1.size))) ?_ ?_ ⟨rfl,rfl,L,ha,ha',hb,hb',lJg _⟩) ?_)
  ·rintro i1 ⟨r,n1,m1,out1,ac,bc⟩ st' _ hi1 ⟨rfl,rfl,L1,p1,p2,p3,p4,hsz1⟩
   dsimp only at L1 p1 p2 p3 p4 hsz1 ⊢
   obtain⟨n1,rfl⟩:∃k,n1=k+1:=⟨n1-1,by omega⟩
   obtain⟨m1,rfl⟩:∃k,m1=k+1:=⟨m1-1,by omega⟩
   simp only[lYv]
   obtain⟨y,hy⟩:=jVs (arr:=b) (i:=m1) (by omega)
   obtain⟨x,hx⟩:=jVs (arr:=a) (i:=n1) (by omega)
   have my:=mb y (jKa hy)
   have mx:=ma x (jKa hx)
   refine lJe (jJ5 hy (lJe (jJ5 hx (lJe (qKz (st:=jKk st g) H my mx hk ?_)))))
   by_cases w:le x y
   ·rw[lJ4 w]
    dsimp only
    rw[lJb (by decide)]
    refine lJe (jJ5 hy ?_)
    have L2:=L1.pushB sb hy (kKd H sa ma hx my w)
    refine jJv (fun c3=> ?_) fun c3=> ?_
    ·exact lJh ⟨rfl,.inl ⟨_,rfl,L2.firstB sa sb c3 hf⟩⟩
    ·split
     ·exact wpS_pure ⟨rfl,.inr ⟨rfl,L2,p1,p2,by dsimp only;omega,by dsimp only;omega,by simp;omega⟩⟩
     ·exact wpS_pure ⟨rfl,rfl,L2,p1,p2,by dsimp only;omega,by dsimp only;omega,by simp;omega⟩
   ·rw[lJv w]
    dsimp only
    (rw[lJc (show (!false)=true from rfl)])
    refine lJe (jJ5 hx ?_)
    have L2:=L1.pushA sa hx (kKd H sb mb hy mx ((H.tot x y mx my).resolve_left w))
    refine jJv (fun c3=> ?_) fun c3=> ?_
    ·exact lJh ⟨rfl,.inl ⟨_,rfl,L2.done sa sb (.inl c3)⟩⟩
    ·split
     ·exact wpS_pure ⟨rfl,.inr ⟨rfl,L2,by dsimp only;omega,by dsimp only;omega,p3,p4,by simp;omega⟩⟩
     ·exact wpS_pure ⟨rfl,rfl,L2,by dsimp only;omega,by dsimp only;omega,p3,p4,by simp;omega⟩
  ·rintro⟨r,n1,m1,out1,ac,bc⟩ st' ⟨rfl,rfl,L1,p1,p2,p3,p4,hsz1⟩
   dsimp only at L1 p1 p2 p3 p4 hsz1 ⊢
   exact⟨rfl,.inr ⟨rfl,L1,p1,p2,p3,p4,by omega⟩⟩
  ·rintro⟨r,n1,m1,out1,ac,bc⟩ st' ⟨rfl,⟨r',rfl,fr⟩ | ⟨rfl,L1,p1,p2,p3,p4,hsz1⟩⟩
   ·dsimp only
    exact lJh ⟨⟨g,rfl⟩,r',rfl,fr⟩
   dsimp only at L1 p1 p2 p3 p4 hsz1 ⊢
   (refine lJe (wpS_lift (lQd ⟨rfl,?_⟩)))
   refine lJe (lKq (lKr (I:=fun _ (c:Option (Array Keyed)×Nat×Nat×Array Keyed×Nat×Nat×Nat) st'=>(∃g,jKk st g=st')/\c.1=none/\Hw le a b c.2.2.2.1 c.2.1 c.2.2.1/\1<=c.2.1/\c.2.1<=a.size/\2<=c.2.2.1/\c.2.2.1<=b.size/\out.size+1<=c.2.2.2.1.size)
    (Q:=fun (c:Option (Array Keyed)×Nat×Nat×Array Keyed×Nat×Nat×Nat) st'=>(∃g,jKk st g=st')/\((∃r,c.1=some r/\Fin2 le a b r)\/(c.1=none/\Hw le a b c.2.2.2.1 c.2.1 c.2.2.1/\1<=c.2.1/\c.2.1<=a.size/\2<=c.2.2.1/\c.2.2.1<=b.size/\out.size+1<=c.2.2.2.1.size))) ?_ ?_ ⟨⟨g,rfl⟩,rfl,L1,p1,p2,p3,p4,hsz1⟩) ?_)
   ·clear L1 p1 p2 p3 p4 hsz1
    rintro i1 ⟨r,ja,jb,o,mg1,ac1,bc1⟩ st' _ hi1 ⟨⟨g1,rfl⟩,rfl,L1,p1,p2,p3,p4,hsz1⟩
    dsimp only at L1 p1 p2 p3 p4 hsz1 ⊢
    obtain⟨jb,rfl⟩:∃k,jb=k+1:=⟨jb-1,by omega⟩
    simp only[lYv]
    obtain⟨y,hy⟩:=jVs (arr:=b) (i:=jb) (by omega)
    have my:=mb y (jKa hy)
    by_cases cg:mg1>1
    all_goals first | rw[lJc cg] | rw[lJb cg]
    all_goals refine lJe (lKn ?_)
    all_goals refine lJe (jJ5 hy ?_)
    all_goals refine lJe (jUe (st:=jKk st _) (f:=fun i=>a.getD i kd) H hk my (at_e p2) (fun i hi=>ma _ (jKa (at_e p2 i hi))) (srt_e H p2 sa ma) (by omega) fun k hk1 hk2 hk3=> ?_)
    all_goals obtain⟨takeK,beyK⟩:=galAh H ma sb mb p2 hy hk1 hk2 hk3
    all_goals dsimp only
    all_goals by_cases ck:ja-k>0
    all_goals first | rw[lJc ck] | rw[lJb ck]
    all_goals first
     | (have L2:Hw le a b (o++(a.extract k ja).reverse) k (jb+1):=L1.takeA sa hk1 qJv takeK
        refine jJv (fun d1=> ?_) fun d1=> ?_
        ·exact lJh ⟨⟨_,rfl⟩,.inl ⟨_,rfl,L2.done sa sb (.inl d1)⟩⟩
        have q1:1<=k:=by omega
        have q2:k<=a.size:=by omega
        have hos:out.size+1<=(o++(a.extract k ja).reverse).size:=by rw[Array.size_append];omega
        have bk:=beyK
        clear L1 hk1 hk2 hk3 takeK beyK
        generalize ja-k=kk at *
        generalize o++(a.extract k ja).reverse=o2 at *
        skip)
     | (obtain rfl:k=ja:=by omega
        have L2:=L1
        have q1:=p1
        have q2:=p2
        have hos:=hsz1
        have bk:=beyK
        clear L1 hk1 hk2 hk3 takeK beyK
        skip)
    all_goals refine lJe (jJ5 hy ?_)
    all_goals have L3:=L2.pushB sb hy bk
    all_goals refine jJv (fun d3=> ?_) fun d3=> ?_
    all_goals first
     | exact lJh ⟨⟨_,rfl⟩,.inl ⟨_,rfl,L3.firstB sa sb d3 hf⟩⟩
     | skip
    all_goals obtain⟨k',rfl⟩:∃n,k=n+1:=⟨k-1,by omega⟩
    all_goals obtain⟨x,hx⟩:=jVs (arr:=a) (i:=k') (by omega)
    all_goals have mx:=ma x (jKa hx)
    all_goals have r4:jb<=b.size:=by omega
    all_goals simp only[lYv]
    all_goals refine lJe (jJ5 hx ?_)
    all_goals refine lJe (jUe (st:=jKk st _) (f:=fun i=>b.getD i kd) H hk mx (at_e r4) (fun i hi=>mb _ (jKa (at_e r4 i hi))) (srt_e H r4 sb mb) (by omega) fun k2 e1 e2 e3=> ?_)
    all_goals obtain⟨takeK,beyK⟩:=galBh H sa ma mb r4 hx e1 e2 e3
    all_goals dsimp only
    all_goals by_cases ck2:jb-k2>0
    all_goals first | rw[lJc ck2] | rw[lJb ck2]
    all_goals first
     | (have L4:=L3.takeB sb e1 qJv takeK
        refine jJv (fun d4=> ?_) fun d4=> ?_
        ·exact lJh ⟨⟨_,rfl⟩,.inl ⟨_,rfl,L4.firstB sa sb d4 hf⟩⟩
        refine jJv (fun d5=> ?_) fun d5=> ?_
        ·exact lJh ⟨⟨_,rfl⟩,.inl ⟨_,rfl,L4.done sa sb (.inr d5)⟩⟩
        have L5:=L4.pushA sa hx beyK
        have r1:2<=k2:=by omega
        have r2:k2<=b.size:=by omega
        skip)
     | (obtain rfl:k2=jb:=by omega
        have L5:=L3.pushA sa hx beyK
        have r1:2<=k2:=by omega
        have r2:k2<=b.size:=by omega
        skip)
    all_goals refine lJe (jJ5 hx ?_)
    all_goals clear takeK beyK e1 e2 e3
    all_goals first
     | (refine jJv (fun d5=> ?_) fun d5=> ?_
        ·exact lJh ⟨⟨_,rfl⟩,.inl ⟨_,rfl,L5.done sa sb (.inl d5)⟩⟩
        ·split
         ·exact wpS_pure ⟨⟨_,rfl⟩,.inr ⟨rfl,L5,by dsimp only;omega,by dsimp only;omega,r1,r2,by simp;omega⟩⟩
         ·exact wpS_pure ⟨⟨_,rfl⟩,rfl,L5,by dsimp only;omega,by dsimp only;omega,r1,r2,by simp;omega⟩)
     | trace_state
   ·rintro⟨r,ja,jb,o,mg1,ac1,bc1⟩ st' ⟨⟨g1,rfl⟩,rfl,L1,p1,p2,p3,p4,hsz1⟩
    dsimp only at L1 p1 p2 p3 p4 hsz1 ⊢
    exact⟨⟨g1,rfl⟩,.inr ⟨rfl,L1,p1,p2,p3,p4,hsz1⟩⟩
   ·rintro⟨r,ja,jb,o,mg1,ac1,bc1⟩ st' ⟨⟨g1,rfl⟩,⟨r',rfl,fr⟩ | ⟨rfl,L1,p1,p2,p3,p4,hsz1⟩⟩
    ·dsimp only
     exact lJh ⟨⟨g1,rfl⟩,r',rfl,fr⟩
    ·dsimp only at L1 p1 p2 p3 p4 hsz1 ⊢
     refine lJe (lKn ?_)
     exact wpS_pure ⟨⟨_,rfl⟩,rfl,L1,p1,p2,p3,p4,by dsimp only;omega⟩
 ·rintro⟨r,na,nb,out,mg⟩ st' ⟨⟨g,rfl⟩,rfl,L,ha,ha',hb,hb',hsz⟩
  dsimp only at L ha ha' hb hb' hsz
  have:=L.size ha' hb'
  exfalso
  rw[Nat.zero_max] at hsz
  omega
 ·rintro⟨r,na,nb,out,mg⟩ st' ⟨⟨g,rfl⟩,r',rfl,fr⟩
  dsimp only
  exact lJh (h _ _ fr)
end
section
theorem jZc {α:Type}:∀(m:List α) (base:Nat) (arr:Array α) (k:Nat),base+k+m.length<=arr.size->
  ((m.zipIdx k).foldl (fun (a:Array α) (x:α×Nat)=>a.setIfInBounds (base+x.2) x.1) arr).toList=arr.toList.take (base+k)++m++arr.toList.drop (base+k+m.length)
 | [],base,arr,k,h=>by simp
 | p::m,base,arr,k,h=>by
  rw[List.zipIdx_cons,lXf]
  have hl:base+k<arr.size:=by simp at h;omega
  rw[jZc m base _ (k+1) (by rw[lZb];simp at h;omega)]
  rw[Array.toList_setIfInBounds,show base+(k+1)=(base+k)+1 by omega]
  have h1:(arr.toList.set (base+k) p).take (base+k+1)=arr.toList.take (base+k)++[p]:=by
   rw[lQi,List.take_set_of_le (lJg _),lXs (by simpa using hl)];rfl
  have h2:(arr.toList.set (base+k) p).drop (base+k+1+m.length)=arr.toList.drop (base+k+1+m.length):=List.drop_set_of_lt (by omega)
  rw[h1,h2]
  simp only[lJ5,lJo,List.singleton_append,List.cons_append]
  rw[show base+k+(m.length+1)=base+k+1+m.length by omega]
  rfl
end
section
variable {M:Model} {A:Around} {E:Value->Shared->Prop} {s:Shared} {κ:SortKind} {mem:Keyed->Prop} {le:Keyed->Keyed->Prop} [∀x y,Decidable (le x y)]
theorem qYn {σ:Type} {Q:PUnit->σ->Prop} {st st':σ} (h:Q ⟨⟩ st'):wpS M A E s (set st':StateT σ Sem PUnit) Q st:=by
 unfold wpS;rw[StateT.run_set];exact lJd ⟨rfl,h⟩
theorem jJ7 {l:List Keyed} {i:Nat} (h:i<l.length):l[i]? =some (l.getD i kd):=by simp[List.getD,h]
theorem jYv (H:Asks M A s κ mem le) {l:List Keyed} (hs:l.Pairwise le) (hm:∀x,x∈l->mem x) (i j:Nat) (hij:i<=j) (hj:j<l.length):le (l.getD i kd) (l.getD j kd):=by
 have h1:=jJ7 (l:=l) (i:=i) (by omega)
 have h2:=jJ7 hj
 rcases lK8 hij with q | rfl
 ·exact kKs hs h1 q h2
 ·exact (H.tot _ _ (hm _ (lJu h1)) (hm _ (lJu h1))).elim id id
theorem kZh {st:SortSt} {Q:Bool->SortSt->Prop} {i sa na sb nb pw pw2:Nat} {P X Y S:List Keyed} (H:Asks M A s κ mem le) (hk:kindOf st=κ) (hfl:failedOf st=none) (hp1:(pendingOf st)[i]? =some (sa,na,pw)) (hp2:(pendingOf st)[i+1]? =some (sb,nb,pw2))
  (harr:(arrOf st).toList=P++(X++Y)++S) (h1:P.length=sa) (h2:X.length=na) (h3:sb=sa+na) (h4:Y.length=nb) (hX:1<=na) (hY:1<=nb) (sX:X.Pairwise le) (sY:Y.Pairwise le) (mX:∀x,x∈X->mem x) (mY:∀x,x∈Y->mem x)
  (h:∀Z st',Z.Perm (X++Y)->Z.Pairwise le->(arrOf st').toList=P++Z++S->kindOf st'=κ->failedOf st'=none->pendingOf st'=((pendingOf st).setIfInBounds i (sa,na+nb,pw)).eraseIdxIfInBounds (i+1)->Q true st'):wpS M A E s (mergeAt' i) Q st:=by
 have fX:∀j,j<na->(arrOf st)[sa+j]? =some (X.getD j kd):=fun j hj=>by
  rw[<-lKe,harr,lJo,lKu (by omega),h1,lYz,lJo,lKi (by omega)]
  exact jJ7 (by omega)
 have fY:∀j,j<nb->(arrOf st)[sb+j]? =some (Y.getD j kd):=fun j hj=>by
  rw[<-lKe,harr,lJo,lKu (by omega),h1,lJo,lKu (by omega),h2,lKi (by omega),show sb+j-sa-na=j by omega]
  exact jJ7 (by omega)
 have mX':∀j,j<na->mem (X.getD j kd):=fun j hj=>mX _ (lJu (jJ7 (by omega)))
 have mY':∀j,j<nb->mem (Y.getD j kd):=fun j hj=>mY _ (lJu (jJ7 (by omega)))
 refine lJe (lQf ?_)
 simp only[hp1,hp2]
 refine lJe (qYn ?_)
 have hy0:=fY 0 (by omega)
 rw[lXi] at hy0
 refine lJe (jJ5 hy0 ?_)
 refine lJe (jUe (f:=fun j=>X.getD j kd) H (by exact hk) (mY' 0 (by omega)) fX mX' (fun p q hpq hq=>jYv H sX mX p q hpq (by omega)) (by omega) fun k hk1 hk2 hk3=> ?_)
 dsimp only
 simp only[bey,lKf,lJ6,lKm,lXb] at hk2 hk3
 have inX:∀x,x∈X->∃j,j<na/\x=X.getD j kd:=fun x hx=>by
  (obtain⟨j,hj⟩:=lKa hx)
  have hl:=(lJj.mp hj).1
  exact⟨j,by omega,by rw[jJ7 hl] at hj;exact (lJ2 hj).symm⟩
 have inY:∀x,x∈Y->∃j,j<nb/\x=Y.getD j kd:=fun x hx=>by
  (obtain⟨j,hj⟩:=lKa hx)
  have hl:=(lJj.mp hj).1
  exact⟨j,by omega,by rw[jJ7 hl] at hj;exact (lJ2 hj).symm⟩
 have y0:∀y,y∈Y->le (Y.getD 0 kd) y:=fun y hy=>by
  obtain⟨j,hj,rfl⟩:=inY y hy
  exact jYv H sY mY 0 j (lJz _) (by omega)
 have xl:∀x,x∈X->le x (X.getD (na-1) kd):=fun x hx=>by
  obtain⟨j,hj,rfl⟩:=inX x hx
  exact jYv H sX mX j (na-1) (by omega) (by omega)
 have lowX:∀x,x∈X.take k->∀y,y∈Y->le x y:=fun x hx y hy=>by
  (obtain⟨j,hj⟩:=lKa hx)
  rw[lQu] at hj
  split at hj
  ·rename_i hjk
   rw[jJ7 (by omega)] at hj
   have:=hk2 j hjk
   rw[lJ2 hj] at this
   exact H.tr _ _ _ (mX _ (lQz hx)) (mY' 0 (by omega)) (mY _ hy) this (y0 y hy)
  ·cases hj
 refine jJv (fun d1=> ?_) fun d1=> ?_
 ·refine lJh (h (X++Y) _ (.refl _) (lKk.mpr ⟨sX,sY,fun x hx y hy=>lowX x ?_ y hy⟩) harr hk hfl rfl)
  rw[lQs (by omega)];exact hx
 refine lJe (jJ5 (x:=X.getD (na-1) kd) (by rw[show sa+k+(na-k)-1=sa+(na-1) by omega];exact fX _ (by omega)) ?_)
 have mk:=mX' (na-1) (by omega)
 refine lJe (jUe (f:=fun j=>Y.getD j kd) H (by exact hk) mk fY mY' (fun p q hpq hq=>jYv H sY mY p q hpq (by omega)) (by omega) fun k2 e1 e2 e3=> ?_)
 dsimp only
 simp only[bey,lKh,lVe,lXb,Bool.not_eq_false',lKm] at e2 e3
 have highY:∀y,y∈Y.drop k2->∀x,x∈X->le x y:=fun y hy x hx=>by
  obtain⟨j,hj⟩:=lKa hy
  rw[lXp] at hj
  have hl:=(lJj.mp hj).1
  rw[jJ7 hl] at hj
  have:=e3 (k2+j) (by omega) (by omega)
  rw[lJ2 hj] at this
  exact H.tr _ _ _ (mX _ hx) mk (mY _ (lVo hy)) (xl x hx) this
 refine jJv (fun d2=> ?_) fun d2=> ?_
 ·refine lJh (h (X++Y) _ (.refl _) (lKk.mpr ⟨sX,sY,fun x hx y hy=>highY y ?_ x hx⟩) harr hk hfl rfl)
  rw[d2];exact hy
 have exX:((arrOf st).extract (sa+k) sb).toList=X.drop k:=by
  rw[jVh,harr,lJo,lJo,<-h1,List.drop_append,lVr (by omega),List.nil_append,lYz,lYy (by omega),lVt (by simp;omega),lQs (by simp;omega)]
 have exY:((arrOf st).extract sb (sb+k2)).toList=Y.take k2:=by
  rw[jVh,harr,lJo,lJo,<-lJo P,List.drop_append,lVr (by simp;omega),List.nil_append,show sb-(P++X).length=0 by simp;omega,lX8,lVt (by omega),lYz]
 have szX:((arrOf st).extract (sa+k) sb).size=na-k:=by rw[<-lKg,exX,lXt,h2]
 have szY:((arrOf st).extract sb (sb+k2)).size=k2:=by rw[<-lKg,exY,lQg,h4];omega
 have fin:∀(r:Array Keyed) g,Fin2 le ((arrOf st).extract (sa+k) sb) ((arrOf st).extract sb (sb+k2)) r->Q (failedOf (jKk st g)).isNone (SortSt.mk' (kindOf st) (r.toList.zipIdx.foldl (fun a x=>a.setIfInBounds (sa+k+x.snd) x.fst) (arrOf st)) (((pendingOf st).setIfInBounds i (sa,na+nb,pw)).eraseIdxIfInBounds (i+1)) g (failedOf st)):=by
  rintro r g ⟨fp,fs⟩
  rw[exX,exY] at fp
  have hrl:r.toList.length=(na-k)+k2:=by rw[fp.length_eq,lKc,lXt,lQg];omega
  have hal:(arrOf st).size=sa+(na+nb)+S.length:=by rw[<-lKg,harr];simp;omega
  have e:=jZc r.toList (sa+k) (arrOf st) 0 (by omega)
  have e2':(failedOf (jKk st g)).isNone=true:=by show (failedOf st).isNone=true;rw[hfl];rfl
  rw[e2']
  have inr:∀z,z∈r.toList->z∈X.drop k\/z∈Y.take k2:=fun z hz=>lJn.mp (fp.mem_iff.mp hz)
  refine h (X.take k++r.toList++Y.drop k2) _ ?_ ?_ ?_ hk hfl rfl
  ·have:(X.take k++r.toList++Y.drop k2).Perm (X.take k++(X.drop k++Y.take k2)++Y.drop k2):=lX7 _ (lXo _ fp)
   refine this.trans (List.Perm.of_eq ?_)
   rw[<-lJo,lK6,lJo,lK6]
  ·have sX':(X.take k++X.drop k).Pairwise le:=by rw[lK6];exact sX
   have sY':(Y.take k2++Y.drop k2).Pairwise le:=by rw[lK6];exact sY
   obtain⟨a1,a2,a3⟩:=lKk.mp sX'
   obtain⟨b1,b2,b3⟩:=lKk.mp sY'
   refine lKk.mpr ⟨lKk.mpr ⟨a1,fs,fun x hx z hz=> ?_⟩,b2,fun x hx y hy=> ?_⟩
   ·rcases inr z hz with w | w
    ·exact a3 x hx z w
    ·exact lowX x hx z (lQz w)
   ·rcases (lJn.mp hx) with w | w
    ·exact highY y hy x (lQz w)
    ·rcases inr x w with w | w
     ·exact highY y hy x (lVo w)
     ·exact b3 x w y hy
  ·show (List.foldl _ _ _:Array Keyed).toList=_
   rw[e,lXi,hrl,show sa+k+(na-k+k2)=sb+k2 by omega]
   have t1:(arrOf st).toList.take (sa+k)=P++X.take k:=by
    rw[harr,lJo,lJo,<-h1,List.take_append,lQs (by omega),lYz,lVt (by omega)]
   have t2:(arrOf st).toList.drop (sb+k2)=Y.drop k2++S:=by
    rw[harr,lJo,lJo,<-lJo P,List.drop_append,lVr (by simp;omega),List.nil_append,show sb+k2-(P++X).length=k2 by simp;omega,lYy (by omega)]
   rw[t1,t2]
   simp only[lJo]
 have pa:((arrOf st).extract (sa+k) sb).toList.Pairwise le:=by rw[exX];exact sX.sublist (lVb ..)
 have pb:((arrOf st).extract sb (sb+k2)).toList.Pairwise le:=by rw[exY];exact sY.sublist (lQ3 ..)
 have pma:∀x,x∈((arrOf st).extract (sa+k) sb).toList->mem x:=fun x hx=>by rw[exX] at hx;exact mX x (lVo hx)
 have pmb:∀x,x∈((arrOf st).extract sb (sb+k2)).toList->mem x:=fun x hx=>by rw[exY] at hx;exact mY x (lQz hx)
 have pf:∀x,((arrOf st).extract sb (sb+k2))[0]? =some x->∀y,y∈((arrOf st).extract (sa+k) sb).toList->le x y:=fun x hx y hy=>by
  rw[<-lKe,exY,lQu,lJc (by omega),jJ7 (by omega)] at hx
  rw[<-lJ2 hx]
  rw[exX] at hy
  obtain⟨j,hj⟩:=lKa hy
  rw[lXp] at hj
  have hl:=(lJj.mp hj).1
  rw[jJ7 hl] at hj
  have:=hk3 (k+j) (by omega) (by omega)
  rw[lJ2 hj] at this
  exact (H.tot _ _ (mX _ (lVo hy)) (mY' 0 (by omega))).resolve_left this
 have pl:∀x,((arrOf st).extract (sa+k) sb)[((arrOf st).extract (sa+k) sb).size-1]? =some x->∀y,y∈((arrOf st).extract sb (sb+k2)).toList->le y x:=fun x hx y hy=>by
  rw[szX,<-lKe,exX,lXp,show k+(na-k-1)=na-1 by omega,jJ7 (by omega)] at hx
  rw[<-lJ2 hx]
  rw[exY] at hy
  obtain⟨j,hj⟩:=lKa hy
  rw[lQu] at hj
  split at hj
  ·rename_i hjk
   rw[jJ7 (by omega)] at hj
   have:=e2 j hjk
   rw[lJ2 hj] at this
   exact (H.tot _ _ mk (mY _ (lQz hy))).resolve_left this
  ·cases hj
 have qa:1<=((arrOf st).extract (sa+k) sb).size:=by rw[szX];omega
 have qb:1<=((arrOf st).extract sb (sb+k2)).size:=by rw[szY];omega
 split
 ·refine lJe (kZf H (by exact hk) qa qb pa pb pma pmb pf pl fun r g fr=> ?_)
  refine lJe (lKn (lJe (lQf (lJh ?_))))
  exact fin r g fr
 ·refine lJe (kZg H (by exact hk) qa qb pa pb pma pmb pf pl fun r g fr=> ?_)
  refine lJe (lKn (lJe (lQf (lJh ?_))))
  exact fin r g fr
end
section
variable {M:Model} {A:Around} {E:Value->Shared->Prop} {s:Shared} {κ:SortKind} {mem:Keyed->Prop} {le:Keyed->Keyed->Prop} [∀x y,Decidable (le x y)]
structure SB (κ:SortKind) (a0:Array Keyed) (lo hi:Nat) (pe:Array (Nat×Nat×Nat)) (st:SortSt):Prop where
 kind:kindOf st=κ
 fail:failedOf st=none
 pend:pendingOf st=pe
 perm:(arrOf st).Perm a0
 out:∀p,(p<lo\/hi<=p)->(arrOf st)[p]? =a0[p]?
abbrev Vl (st:SortSt) (p:Nat):Keyed:=(arrOf st).getD p kd
def SrtA (le:Keyed->Keyed->Prop) (st:SortSt) (lo n:Nat):Prop:=∀p q,p<q->q<n->le (Vl st (lo+p)) (Vl st (lo+q))
variable {a0:Array Keyed} {lo hi:Nat} {pe:Array (Nat×Nat×Nat)} {st:SortSt}
theorem SB.size (h:SB κ a0 lo hi pe st):(arrOf st).size=a0.size:=h.perm.size_eq
theorem SB.at (h:SB κ a0 lo hi pe st) {p:Nat} (hp:p<a0.size):(arrOf st)[p]? =some (Vl st p):=by
 have:p<(arrOf st).size:=by rw[h.size];exact hp
 simp[Array.getD,this]
theorem SB.inn (h:SB κ a0 lo hi pe st) (hm:∀x,x∈a0.toList->mem x) {p:Nat} (hp:p<a0.size):mem (Vl st p):=by
 have:=jKa (h.at hp)
 exact hm _ ((Array.perm_iff_toList_perm.mp h.perm).mem_iff.mp this)
theorem jXz (H:Asks M A s κ mem le) (hm:∀x,x∈a0.toList->mem x) (h:SB κ a0 lo hi pe st) {i j:Nat} (hi:i<a0.size) (hj:j<a0.size) {Q:Option Bool->SortSt->Prop} (q:Q (some (!decide (le (Vl st j) (Vl st i)))) st):wpS M A E s (ltAt' i j) Q st:=by
 rw[ltAt'_eq]
 refine lJe (lQf ?_)
 exact lJe (jJ5 (h.at hi) (lJe (jJ5 (h.at hj) (qKz H (h.inn hm hi) (h.inn hm hj) h.kind q))))
theorem SB.set (h:SB κ a0 lo hi pe st) {xs:Array Keyed} (hp:xs.Perm (arrOf st)) (ho:∀p,(p<lo\/hi<=p)->xs[p]? =(arrOf st)[p]?):SB κ a0 lo hi pe (setArr st xs):=
 ⟨h.kind,h.fail,h.pend,hp.trans h.perm,fun p hp=>(ho p hp).trans (h.out p hp)⟩
theorem jZy {xs ys:Array Keyed} {i j:Nat} (h:xs[i]? =ys[j]?):xs.getD i kd=ys.getD j kd:=by
 rw[lXl,lXl,h]
theorem V_bub {k l p:Nat} (hs:lo+k<(arrOf st).size) (hl:l<=k):Vl (setArr st (bubble (arrOf st) (lo+k) (lo+k-(lo+l)))) (lo+p)=if p=l then Vl st (lo+k) else if l<p/\p<=k then Vl st (lo+(p-1)) else Vl st (lo+p):=by
 have e:=getElem?_bubble hs (lo+k-(lo+l)) (by omega) (lo+p)
 by_cases h1:p=l
 ·rw[lJc (by omega)] at e
  rw[lJc h1];exact jZy e
 ·rw[lJb (by omega)] at e
  rw[lJb h1]
  by_cases h2:l<p/\p<=k
  ·rw[lJc (by omega)] at e
   rw[lJc h2];exact jZy (e.trans (by rw[show lo+p-1=lo+(p-1) by omega]))
  ·rw[lJb (by omega)] at e
   rw[lJb h2];exact jZy e
theorem kK8 (H:Asks M A s κ mem le) (hm:∀x,x∈a0.toList->mem x) (h:SB κ a0 lo hi pe st) {n ok:Nat} (hok:1<=ok) (hn:ok<=n) (hl:lo+n<=hi) (hh:hi<=a0.size) (hs:SrtA le st lo ok) {Q:Bool->SortSt->Prop} (q:∀st',SB κ a0 lo hi pe st'->SrtA le st' lo n->Q true st'):wpS M A E s (binarySort' lo n ok) Q st:=by
 rw[binarySort'_eq]
 refine lJe (lKq (lKr (I:=fun k (c:Option Bool×Unit) st'=>c=(none,())/\SB κ a0 lo hi pe st'/\SrtA le st' lo k) (Q:=fun (c:Option Bool×Unit) st'=>c=(none,())/\SB κ a0 lo hi pe st'/\SrtA le st' lo n) ?_ ?_ ⟨rfl,h,by rw[Nat.max_eq_left hok];exact hs⟩) ?_)
 ·rintro k c st1 hk hkn ⟨rfl,B,S⟩
  have hks:lo+k<a0.size:=by omega
  dsimp only
  have mV:∀p,p<=k->mem (Vl st1 (lo+p)):=fun p hp=>B.inn hm (by omega)
  have S':∀p q,p<=q->q<k->le (Vl st1 (lo+p)) (Vl st1 (lo+q)):=fun p q hpq hq=>by
   rcases lK8 hpq with z | rfl
   ·exact S p q z hq
   ·exact (H.tot _ _ (mV p (by omega)) (mV p (by omega))).elim id id
  refine lJe (lKq (lKr (I:=fun i (c:Option Bool×Nat×Nat) st'=>st1=st'/\c.1=none/\c.2.1<=c.2.2/\c.2.2<=k/\c.2.2-c.2.1<=k-i/\(∀p,p<c.2.1->le (Vl st1 (lo+p)) (Vl st1 (lo+k)))/\(∀p,c.2.2<=p->p<k->le (Vl st1 (lo+k)) (Vl st1 (lo+p))))
   (Q:=fun (c:Option Bool×Nat×Nat) st'=>st1=st'/\c.1=none/\c.2.1<=k/\(∀p,p<c.2.1->le (Vl st1 (lo+p)) (Vl st1 (lo+k)))/\(∀p,c.2.1<=p->p<k->le (Vl st1 (lo+k)) (Vl st1 (lo+p)))) ?_ ?_ ⟨rfl,rfl,Nat.zero_le _,Nat.le_refl _,by dsimp only;omega,fun p hp=>absurd hp (Nat.not_lt_zero _),fun p h1 h2=>absurd h2 (by dsimp only at h1;omega)⟩) ?_)
  ·rintro i ⟨r0,l,r⟩ st2 _ hi2 ⟨rfl,rfl,i1,i2,i3,i4,i5⟩
   dsimp only at i1 i2 i3 i4 i5 ⊢
   by_cases c:l>=r
   ·rw[lJc c]
    exact wpS_pure ⟨rfl,rfl,by dsimp only;omega,i4,fun p h1 h2=>i5 p (by dsimp only at h1;omega) h2⟩
   ·rw[lJb c]
    have hmm:(l+r) / 2<k:=by omega
    refine lJe (jXz H hm B (by omega) (by omega) ?_)
    by_cases w:le (Vl st1 (lo+(l+r) / 2)) (Vl st1 (lo+k))
    ·rw[lJ4 w]
     dsimp only
     rw[lJb (by decide)]
     exact wpS_pure ⟨rfl,rfl,by dsimp only;omega,i2,by dsimp only;omega,fun p hp=>H.tr _ _ _ (mV p (by dsimp only at hp;omega)) (mV _ (by omega)) (mV k (Nat.le_refl _)) (S' p _ (by dsimp only at hp;omega) hmm) w,i5⟩
    ·rw[lJv w]
     dsimp only
     (rw[lJc (show (!false)=true from rfl)])
     have w':=(H.tot _ _ (mV _ (by omega)) (mV k (lJg _))).resolve_left w
     exact wpS_pure ⟨rfl,rfl,by dsimp only;omega,by dsimp only;omega,by dsimp only;omega,i4,fun p h1 h2=>H.tr _ _ _ (mV k (Nat.le_refl _)) (mV _ (by omega)) (mV p (by omega)) w' (S' _ p h1 h2)⟩
  ·rintro⟨r0,l,r⟩ st2 ⟨rfl,rfl,i1,i2,i3,i4,i5⟩
   dsimp only at i1 i2 i3 i4 i5 ⊢
   exact⟨rfl,rfl,by omega,i4,fun p h1 h2=>i5 p (by omega) h2⟩
  ·rintro⟨r0,l,r⟩ st2 ⟨rfl,rfl,i1,i2,i3⟩
   dsimp only at i1 i2 i3 ⊢
   rw[moveDown'_eq]
   have hsz:lo+k<(arrOf st1).size:=by rw[B.size];exact hks
   refine lJe (lKn (lJh ⟨rfl,B.set (bubble_perm ..) (fun p hp=> ?_),fun p q' hpq hq=> ?_⟩))
   ·rw[getElem?_bubble hsz _ (by omega),lJb (by omega),lJb (by omega)]
   ·rw[V_bub hsz i1,V_bub hsz i1]
    by_cases e1:p=l
    ·rw[lJc e1,lJb (by omega),lJc ⟨by omega,by omega⟩]
     exact i3 _ (by omega) (by omega)
    ·rw[lJb e1]
     by_cases e2:q'=l
     ·rw[lJc e2,lJb (by omega)]
      exact i2 p (by omega)
     ·rw[lJb e2]
      by_cases e3:l<p/\p<=k
      ·rw[lJc e3,lJc ⟨by omega,by omega⟩]
       exact S _ _ (by omega) (by omega)
      ·rw[lJb e3]
       by_cases e4:l<q'/\q'<=k
       ·rw[lJc e4]
        exact S' _ _ (by omega) (by omega)
       ·rw[lJb e4]
        exact S _ _ hpq (by omega)
 ·rintro c st1 ⟨rfl,B,S⟩
  refine⟨rfl,B,?_⟩
  rwa [show max (max ok 1) n=n by omega] at S
 ·rintro c st1 ⟨rfl,B,S⟩
  dsimp only
  exact lJh (q _ B S)
end
section
variable {M:Model} {A:Around} {E:Value->Shared->Prop} {s:Shared} {κ:SortKind} {mem:Keyed->Prop} {le:Keyed->Keyed->Prop} [∀x y,Decidable (le x y)]
variable {a0:Array Keyed} {lo hi:Nat} {pe:Array (Nat×Nat×Nat)} {st:SortSt}
def NInc (le:Keyed->Keyed->Prop) (st:SortSt) (lo n:Nat):Prop:=∀p q,p<q->q<n->le (Vl st (lo+q)) (Vl st (lo+p))
abbrev revS (st:SortSt) (i j:Nat):SortSt:=setArr st (mirror (arrOf st) i j ((j-i) / 2))
theorem jYr {i j p:Nat} (hj:lo+j<=(arrOf st).size):Vl (revS st (lo+i) (lo+j)) (lo+p)=if i<=p/\p<j then Vl st (lo+(i+j-1-p)) else Vl st (lo+p):=by
 have e:=getElem?_mirror_all (i:=lo+i) hj (lo+p)
 by_cases h:i<=p/\p<j
 ·rw[lJc (by omega)] at e
  rw[lJc h];exact jZy (e.trans (by rw[show lo+i+(lo+j)-1-(lo+p)=lo+(i+j-1-p) by omega]))
 ·rw[lJb (by omega)] at e
  rw[lJb h];exact jZy e
theorem SB.rev (h:SB κ a0 lo hi pe st) {i j:Nat} (hj:lo+j<=hi) (hh:hi<=a0.size):SB κ a0 lo hi pe (revS st (lo+i) (lo+j)):=
 h.set (mirror_perm ..) fun p hp=>by rw[getElem?_mirror_all (by rw[h.size];omega),lJb (by omega)]
theorem NInc.flip {n:Nat} (h:NInc le st lo n) (hn:lo+n<=(arrOf st).size):SrtA le (revS st (lo+0) (lo+n)) lo n:=fun p q hpq hq=>by
 rw[jYr hn,jYr hn,lJc ⟨lJz _,by omega⟩,lJc ⟨lJz _,hq⟩]
 exact h _ _ (by omega) (by omega)
theorem SrtA.flip {n:Nat} (h:SrtA le st lo n) (hn:lo+n<=(arrOf st).size):NInc le (revS st (lo+0) (lo+n)) lo n:=fun p q hpq hq=>by
 rw[jYr hn,jYr hn,lJc ⟨lJz _,hq⟩,lJc ⟨lJz _,by omega⟩]
 exact h _ _ (by omega) (by omega)
theorem NInc.part {n m:Nat} (h:NInc le st lo n) (hn:lo+n<=(arrOf st).size) (hm:m<=n) (he:∀p q,m<=p->p<n->m<=q->q<n->le (Vl st (lo+p)) (Vl st (lo+q))):NInc le (revS st (lo+m) (lo+n)) lo n:=fun p q hpq hq=>by
 rw[jYr hn,jYr hn]
 by_cases h1:m<=p
 ·rw[lJc ⟨by omega,hq⟩,lJc ⟨h1,by omega⟩]
  exact he _ _ (by omega) (by omega) (by omega) (by omega)
 ·rw[lJb (by omega:¬ (m<=p/\p<n))]
  by_cases h2:m<=q
  ·rw[lJc ⟨h2,hq⟩]
   exact h _ _ (by omega) (by omega)
  ·rw[lJb (by omega)]
   exact h _ _ hpq hq
def Seg (le:Keyed->Keyed->Prop) (st:SortSt) (lo i e:Nat):Prop:=∀p q,i-(e+1)<=p->p<i->i-(e+1)<=q->q<i->le (Vl st (lo+p)) (Vl st (lo+q))
theorem NInc.up (H:Asks M A s κ mem le) (hm:∀x,x∈a0.toList->mem x) {n:Nat} (B:SB κ a0 lo hi pe st) (hn1:1<=n) (hn:lo+n<a0.size) (h:NInc le st lo n) (w:le (Vl st (lo+n)) (Vl st (lo+(n-1)))):NInc le st lo (n+1):=fun p q hpq hq=>by
 rcases lK8 (lQc hq) with z | rfl
 ·exact h p q hpq z
 ·rcases lK8 (show p<=q-1 by omega) with y | rfl
  ·exact H.tr _ _ _ (B.inn hm hn) (B.inn hm (by omega)) (B.inn hm (by omega)) w (h p (q-1) y (by omega))
  ·exact w
theorem Seg.part {n e:Nat} (h:Seg le st lo n e) (N:NInc le st lo n) {hn:lo+n<=(arrOf st).size}:NInc le (revS st (lo+(n-(e+1))) (lo+n)) lo n:=N.part hn (by omega) h
theorem kV4 (H:Asks M A s κ mem le) (hm:∀x,x∈a0.toList->mem x) (h:SB κ a0 lo hi pe st) {nrem:Nat} (h1:1<=nrem) (hl:lo+nrem<=hi) (hh:hi<=a0.size) {Q:Option Nat->SortSt->Prop} (q:∀n st',SB κ a0 lo hi pe st'->1<=n->n<=nrem->SrtA le st' lo n->Q (some n) st'):wpS M A E s (countRun' lo nrem) Q st:=by
 rw[countRun'_eq]
 have up:∀(st':SortSt) n,SB κ a0 lo hi pe st'->1<=n->n<nrem->SrtA le st' lo n->le (Vl st' (lo+n-1)) (Vl st' (lo+n))->SrtA le st' lo (n+1):=fun st' n B hn hnr S w p q hpq hq=>by
  rcases lK8 (lQc hq) with z | rfl
  ·exact S p q hpq z
  ·rw[show lo+q-1=lo+(q-1) by omega] at w
   rcases lK8 (show p<=q-1 by omega) with y | rfl
   ·exact H.tr _ _ _ (B.inn hm (by omega)) (B.inn hm (by omega)) (B.inn hm (by omega)) (S p (q-1) y (by omega)) w
   ·exact w
 refine lJe (lKq (lKr (I:=fun i (c:Option (Option Nat)×Nat) st'=>st=st'/\c=(none,i)/\SrtA le st lo i) (Q:=fun (c:Option (Option Nat)×Nat) st'=>st=st'/\c.1=none/\1<=c.2/\c.2<=nrem/\SrtA le st lo c.2/\(c.2<nrem->¬ le (Vl st (lo+c.2-1)) (Vl st (lo+c.2)))) ?_ ?_ ⟨rfl,rfl,fun p q hpq hq=>absurd hq (by omega)⟩) ?_)
 ·rintro i c st1 hi1 hi2 ⟨rfl,rfl,S⟩
  dsimp only
  refine lJe (jXz H hm h (by omega) (by omega) ?_)
  by_cases w:le (Vl st (lo+i-1)) (Vl st (lo+i))
  ·rw[lJ4 w]
   dsimp only
   rw[lJb (by decide)]
   exact lJh ⟨rfl,rfl,up st i h hi1 hi2 S w⟩
  ·rw[lJv w]
   dsimp only
   (rw[lJc (show (!false)=true from rfl)])
   exact wpS_pure ⟨rfl,rfl,hi1,by dsimp only;omega,S,fun _=>w⟩
 ·rintro c st1 ⟨rfl,rfl,S⟩
  rw[show max 1 nrem=nrem by omega] at S ⊢
  exact⟨rfl,rfl,h1,lJg _,S,fun z=>absurd z (lQo _)⟩
 ·rintro⟨r,n⟩ st1 ⟨rfl,rfl,n1,n2,S,W⟩
  dsimp only at n1 n2 S W ⊢
  refine jJv (fun d=> ?_) fun d=> ?_
  ·exact lJh (q n st h n1 n2 S)
  have nlt:n<nrem:=by omega
  have en:lo+n-1=lo+(n-1):=by omega
  rw[en] at W
  have W':=(H.tot _ _ (h.inn hm (by omega)) (h.inn hm (by omega))).resolve_left (W nlt)
  by_cases cn:n>1
  ·rw[lJc cn]
   refine lJe (jXz H hm h (by omega) (by omega) ?_)
   rw[en]
   by_cases w:le (Vl st (lo+(n-1))) (Vl st lo)
   ·rw[lJ4 w]
    dsimp only
    rw[lJb (by decide),lVj]
    have hsz:lo+n<=(arrOf st).size:=by rw[h.size];omega
    have B2:=h.rev (i:=0) (j:=n) (by omega) hh
    have N2:NInc le (revS st (lo+0) (lo+n)) lo (n+1):=by
     refine (S.flip hsz).up H hm B2 n1 (by omega) ?_
     rw[jYr hsz,jYr hsz,lJb (by omega),lJc (by omega),show 0+n-1-(n-1)=0 by omega,lXi]
     exact H.tr _ _ _ (h.inn hm (by omega)) (h.inn hm (by omega)) (h.inn hm (by omega)) W' w
    refine lJe (lKn ?_)
    (refine lJe (wpS_lift (lQd ⟨rfl,?_⟩)))
    refine lJe (lKq (lKr (I:=fun i (c:Option (Option Nat)×Nat×Nat) st'=>SB κ a0 lo hi pe st'/\c.1=none/\c.2.1=i/\NInc le st' lo i/\c.2.2+1<=i/\Seg le st' lo i c.2.2)
     (Q:=fun (c:Option (Option Nat)×Nat×Nat) st'=>SB κ a0 lo hi pe st'/\c.1=none/\1<=c.2.1/\c.2.1<=nrem/\NInc le st' lo c.2.1/\c.2.2+1<=c.2.1/\Seg le st' lo c.2.1 c.2.2) ?_ ?_ ⟨B2,rfl,rfl,N2,by dsimp only;omega,fun p q a1 a2 a3 a4=>by
      obtain rfl:p=q:=by dsimp only at a1 a3;omega
      exact (H.tot _ _ (B2.inn hm (by omega)) (B2.inn hm (by omega))).elim id id⟩) ?_)
    ·rintro i ⟨r,i',e⟩ st3 hi1 hi2 ⟨B,rfl,rfl,N,he,sg⟩
     dsimp only at N he sg hi1 hi2 ⊢
     have ei:lo+i'-1=lo+(i'-1):=by omega
     refine lJe (jXz H hm B (by omega) (by omega) ?_)
     rw[ei]
     by_cases w:le (Vl st3 (lo+(i'-1))) (Vl st3 (lo+i'))
     ·rw[lJ4 w]
      dsimp only
      rw[lJb (by decide)]
      refine lJe (jXz H hm B (by omega) (by omega) ?_)
      by_cases w2:le (Vl st3 (lo+i')) (Vl st3 (lo+(i'-1)))
      ·rw[lJ4 w2]
       dsimp only
       rw[lJb (by decide)]
       refine wpS_pure ⟨B,rfl,rfl,N.up H hm B (by omega) (by omega) w2,by dsimp only;omega,fun p q a1 a2 a3 a4=> ?_⟩
       dsimp only at a1 a3
       have to:∀p,i'-(e+1)<=p->p<i'->le (Vl st3 (lo+p)) (Vl st3 (lo+i'))/\le (Vl st3 (lo+i')) (Vl st3 (lo+p)):=fun p b1 b2=>
        ⟨H.tr _ _ _ (B.inn hm (by omega)) (B.inn hm (by omega)) (B.inn hm (by omega)) (sg p (i'-1) b1 b2 (by omega) (by omega)) w,H.tr _ _ _ (B.inn hm (by omega)) (B.inn hm (by omega)) (B.inn hm (by omega)) w2 (sg (i'-1) p (by omega) (by omega) b1 b2)⟩
       by_cases ep:p=i'
       ·by_cases eq:q=i'
        ·rw[ep,eq];exact (H.tot _ _ (B.inn hm (by omega)) (B.inn hm (by omega))).elim id id
        ·rw[ep];exact (to q (by omega) (by omega)).2
       ·by_cases eq:q=i'
        ·rw[eq];exact (to p (by omega) (by omega)).1
        ·exact sg p q (by omega) (by omega) (by omega) (by omega)
      ·rw[lJv w2]
       dsimp only
       (rw[lJc (show (!false)=true from rfl)])
       exact wpS_pure ⟨B,rfl,by dsimp only;omega,by dsimp only;omega,N,he,sg⟩
     ·rw[lJv w]
      dsimp only
      (rw[lJc (show (!false)=true from rfl)])
      have w':=(H.tot _ _ (B.inn hm (by omega)) (B.inn hm (by omega))).resolve_left w
      have one:∀st4,SB κ a0 lo hi pe st4->Seg le st4 lo (i'+1) 0:=fun st4 B4 p q a1 a2 a3 a4=>by
       obtain rfl:p=q:=by omega
       exact (H.tot _ _ (B4.inn hm (by omega)) (B4.inn hm (by omega))).elim id id
      by_cases ce:e>0
      ·rw[lJc ce,lVj,show lo+i'-(e+1)=lo+(i'-(e+1)) by omega]
       have hsz:lo+i'<=(arrOf st3).size:=by rw[B.size];omega
       have B4:=B.rev (i:=i'-(e+1)) (j:=i') (by omega) hh
       have N4:=sg.part N (hn:=hsz)
       refine wpS_bind (wpS_modify (wpS_pure ⟨B4,rfl,rfl,N4.up H hm B4 (by omega) (by omega) ?_,by dsimp only;omega,one _ B4⟩))
       rw[jYr hsz,jYr hsz,lJb (by omega),lJc (by omega)]
       exact H.tr _ _ _ (B.inn hm (by omega)) (B.inn hm (by omega)) (B.inn hm (by omega)) w' (sg _ _ (by omega) (by omega) (by omega) (by omega))
      ·rw[lJb ce]
       exact wpS_pure ⟨B,rfl,rfl,N.up H hm B (by omega) (by omega) w',by dsimp only;omega,one _ B⟩
    ·rintro⟨r,i',e⟩ st3 ⟨B,rfl,rfl,N,he,sg⟩
     dsimp only at N he sg ⊢
     exact⟨B,rfl,by omega,by omega,N,he,sg⟩
    ·rintro⟨r,i',e⟩ st3 ⟨B,rfl,b1,b2,N,he,sg⟩
     dsimp only at b1 b2 N he sg ⊢
     have hsz:lo+i'<=(arrOf st3).size:=by rw[B.size];omega
     by_cases ce:e>0
     all_goals first | rw[lJc ce,lVj,lVj,show lo+i'-(e+1)=lo+(i'-(e+1)) by omega] | rw[lJb ce,lVj]
     all_goals first
      | (have N4:=sg.part N (hn:=hsz)
         have B4:=B.rev (i:=i'-(e+1)) (j:=i') (by omega) hh
         have S5:=N4.flip (by rw[B4.size];omega)
         have B5:=B4.rev (i:=0) (j:=i') (by omega) hh
         refine lJe (lKn (lJe (lKn ?_)))
         skip)
      | (have S5:=N.flip hsz
         have B5:=B.rev (i:=0) (j:=i') (by omega) hh
         refine lJe (lKn ?_)
         skip)
     all_goals refine lJe (lKq (lKr (I:=fun i (c:Option (Option Nat)×Nat) st'=>SB κ a0 lo hi pe st'/\c=(none,i)/\SrtA le st' lo i) (Q:=fun (c:Option (Option Nat)×Nat) st'=>SB κ a0 lo hi pe st'/\c.1=none/\1<=c.2/\c.2<=nrem/\SrtA le st' lo c.2) ?_ ?_ ⟨B5,rfl,S5⟩) ?_)
     all_goals first
      | (rintro i c st6 hi1 hi2 ⟨B6,rfl,S6⟩
         dsimp only
         refine lJe (jXz H hm B6 (by omega) (by omega) ?_)
         by_cases w:le (Vl st6 (lo+i-1)) (Vl st6 (lo+i))
         ·rw[lJ4 w]
          dsimp only
          rw[lJb (by decide)]
          exact lJh ⟨B6,rfl,up st6 i B6 (by omega) hi2 S6 w⟩
         ·rw[lJv w]
          dsimp only
          (rw[lJc (show (!false)=true from rfl)])
          exact wpS_pure ⟨B6,rfl,by dsimp only;omega,by dsimp only;omega,S6⟩)
      | (rintro c st6 ⟨B6,rfl,S6⟩
         rw[show max i' nrem=nrem by omega] at S6 ⊢
         exact⟨B6,rfl,h1,lJg _,S6⟩)
      | (rintro⟨r,k⟩ st6 ⟨B6,rfl,k1,k2,S6⟩
         dsimp only at k1 k2 S6 ⊢
         exact lJh (q k st6 B6 k1 k2 S6))
   ·rw[lJv w]
    dsimp only
    (rw[lJc (show (!false)=true from rfl)])
    exact lJh (q n st h n1 n2 S)
  ·rw[lJb cn]
   obtain rfl:n=1:=by omega
   have B2:=h
   have N2:NInc le st lo (1+1):=fun p q hpq hq=>by
    obtain rfl:p=0:=by omega
    obtain rfl:q=1:=by omega
    exact W'
   (refine lJe (wpS_lift (lQd ⟨rfl,?_⟩)))
   refine lJe (lKq (lKr (I:=fun i (c:Option (Option Nat)×Nat×Nat) st'=>SB κ a0 lo hi pe st'/\c.1=none/\c.2.1=i/\NInc le st' lo i/\c.2.2+1<=i/\Seg le st' lo i c.2.2)
    (Q:=fun (c:Option (Option Nat)×Nat×Nat) st'=>SB κ a0 lo hi pe st'/\c.1=none/\1<=c.2.1/\c.2.1<=nrem/\NInc le st' lo c.2.1/\c.2.2+1<=c.2.1/\Seg le st' lo c.2.1 c.2.2) ?_ ?_ ⟨B2,rfl,rfl,N2,by dsimp only;omega,fun p q a1 a2 a3 a4=>by
     obtain rfl:p=q:=by dsimp only at a1 a3;omega
     exact (H.tot _ _ (B2.inn hm (by omega)) (B2.inn hm (by omega))).elim id id⟩) ?_)
   ·rintro i ⟨r,i',e⟩ st3 hi1 hi2 ⟨B,rfl,rfl,N,he,sg⟩
    dsimp only at N he sg hi1 hi2 ⊢
    have ei:lo+i'-1=lo+(i'-1):=by omega
    refine lJe (jXz H hm B (by omega) (by omega) ?_)
    rw[ei]
    by_cases w:le (Vl st3 (lo+(i'-1))) (Vl st3 (lo+i'))
    ·rw[lJ4 w]
     dsimp only
     rw[lJb (by decide)]
     refine lJe (jXz H hm B (by omega) (by omega) ?_)
     by_cases w2:le (Vl st3 (lo+i')) (Vl st3 (lo+(i'-1)))
     ·rw[lJ4 w2]
      dsimp only
      rw[lJb (by decide)]
      refine wpS_pure ⟨B,rfl,rfl,N.up H hm B (by omega) (by omega) w2,by dsimp only;omega,fun p q a1 a2 a3 a4=> ?_⟩
      dsimp only at a1 a3
      have to:∀p,i'-(e+1)<=p->p<i'->le (Vl st3 (lo+p)) (Vl st3 (lo+i'))/\le (Vl st3 (lo+i')) (Vl st3 (lo+p)):=fun p b1 b2=>
       ⟨H.tr _ _ _ (B.inn hm (by omega)) (B.inn hm (by omega)) (B.inn hm (by omega)) (sg p (i'-1) b1 b2 (by omega) (by omega)) w,H.tr _ _ _ (B.inn hm (by omega)) (B.inn hm (by omega)) (B.inn hm (by omega)) w2 (sg (i'-1) p (by omega) (by omega) b1 b2)⟩
      by_cases ep:p=i'
      ·by_cases eq:q=i'
       ·rw[ep,eq];exact (H.tot _ _ (B.inn hm (by omega)) (B.inn hm (by omega))).elim id id
       ·rw[ep];exact (to q (by omega) (by omega)).2
      ·by_cases eq:q=i'
       ·rw[eq];exact (to p (by omega) (by omega)).1
       ·exact sg p q (by omega) (by omega) (by omega) (by omega)
     ·rw[lJv w2]
      dsimp only
      (rw[lJc (show (!false)=true from rfl)])
      exact wpS_pure ⟨B,rfl,by dsimp only;omega,by dsimp only;omega,N,he,sg⟩
    ·rw[lJv w]
     dsimp only
     (rw[lJc (show (!false)=true from rfl)])
     have w':=(H.tot _ _ (B.inn hm (by omega)) (B.inn hm (by omega))).resolve_left w
     have one:∀st4,SB κ a0 lo hi pe st4->Seg le st4 lo (i'+1) 0:=fun st4 B4 p q a1 a2 a3 a4=>by
      obtain rfl:p=q:=by omega
      exact (H.tot _ _ (B4.inn hm (by omega)) (B4.inn hm (by omega))).elim id id
     by_cases ce:e>0
     ·rw[lJc ce,lVj,show lo+i'-(e+1)=lo+(i'-(e+1)) by omega]
      have hsz:lo+i'<=(arrOf st3).size:=by rw[B.size];omega
      have B4:=B.rev (i:=i'-(e+1)) (j:=i') (by omega) hh
      have N4:=sg.part N (hn:=hsz)
      refine wpS_bind (wpS_modify (wpS_pure ⟨B4,rfl,rfl,N4.up H hm B4 (by omega) (by omega) ?_,by dsimp only;omega,one _ B4⟩))
      rw[jYr hsz,jYr hsz,lJb (by omega),lJc (by omega)]
      exact H.tr _ _ _ (B.inn hm (by omega)) (B.inn hm (by omega)) (B.inn hm (by omega)) w' (sg _ _ (by omega) (by omega) (by omega) (by omega))
     ·rw[lJb ce]
      exact wpS_pure ⟨B,rfl,rfl,N.up H hm B (by omega) (by omega) w',by dsimp only;omega,one _ B⟩
   ·rintro⟨r,i',e⟩ st3 ⟨B,rfl,rfl,N,he,sg⟩
    dsimp only at N he sg ⊢
    exact⟨B,rfl,by omega,by omega,N,he,sg⟩
   ·rintro⟨r,i',e⟩ st3 ⟨B,rfl,b1,b2,N,he,sg⟩
    dsimp only at b1 b2 N he sg ⊢
    have hsz:lo+i'<=(arrOf st3).size:=by rw[B.size];omega
    by_cases ce:e>0
    all_goals first | rw[lJc ce,lVj,lVj,show lo+i'-(e+1)=lo+(i'-(e+1)) by omega] | rw[lJb ce,lVj]
    all_goals first
     | (have N4:=sg.part N (hn:=hsz)
        have B4:=B.rev (i:=i'-(e+1)) (j:=i') (by omega) hh
        have S5:=N4.flip (by rw[B4.size];omega)
        have B5:=B4.rev (i:=0) (j:=i') (by omega) hh
        refine lJe (lKn (lJe (lKn ?_)))
        skip)
     | (have S5:=N.flip hsz
        have B5:=B.rev (i:=0) (j:=i') (by omega) hh
        refine lJe (lKn ?_)
        skip)
    all_goals refine lJe (lKq (lKr (I:=fun i (c:Option (Option Nat)×Nat) st'=>SB κ a0 lo hi pe st'/\c=(none,i)/\SrtA le st' lo i) (Q:=fun (c:Option (Option Nat)×Nat) st'=>SB κ a0 lo hi pe st'/\c.1=none/\1<=c.2/\c.2<=nrem/\SrtA le st' lo c.2) ?_ ?_ ⟨B5,rfl,S5⟩) ?_)
    all_goals first
     | (rintro i c st6 hi1 hi2 ⟨B6,rfl,S6⟩
        dsimp only
        refine lJe (jXz H hm B6 (by omega) (by omega) ?_)
        by_cases w:le (Vl st6 (lo+i-1)) (Vl st6 (lo+i))
        ·rw[lJ4 w]
         dsimp only
         rw[lJb (by decide)]
         exact lJh ⟨B6,rfl,up st6 i B6 (by omega) hi2 S6 w⟩
        ·rw[lJv w]
         dsimp only
         (rw[lJc (show (!false)=true from rfl)])
         exact wpS_pure ⟨B6,rfl,by dsimp only;omega,by dsimp only;omega,S6⟩)
     | (rintro c st6 ⟨B6,rfl,S6⟩
        rw[show max i' nrem=nrem by omega] at S6 ⊢
        exact⟨B6,rfl,h1,lJg _,S6⟩)
     | (rintro⟨r,k⟩ st6 ⟨B6,rfl,k1,k2,S6⟩
        dsimp only at k1 k2 S6 ⊢
        exact lJh (q k st6 B6 k1 k2 S6))
end
section
variable {M:Model} {A:Around} {E:Value->Shared->Prop} {s:Shared} {κ:SortKind} {mem:Keyed->Prop} {le:Keyed->Keyed->Prop} [∀x y,Decidable (le x y)]
structure Runs (κ:SortKind) (le:Keyed->Keyed->Prop) (a0:Array Keyed) (Rs:List (List Keyed)) (rest:List Keyed) (st:SortSt):Prop where
 kind:kindOf st=κ
 fail:failedOf st=none
 arr:(arrOf st).toList=Rs.flatten++rest
 perm:(arrOf st).toList.Perm a0.toList
 srt:∀R,R∈Rs->R.Pairwise le/\1<=R.length
 pend:∀i,(pendingOf st)[i]?.map (fun x=>(x.1,x.2.1))=(Rs[i]?).map (fun R=>(((Rs.take i).flatten).length,R.length))
theorem Runs.size {a0:Array Keyed} {Rs:List (List Keyed)} {rest:List Keyed} {st:SortSt} (h:Runs κ le a0 Rs rest st):(pendingOf st).size=Rs.length:=by
 rcases lV1 (pendingOf st).size Rs.length with z | z | z
 ·have:=h.pend (pendingOf st).size
  rw[lQy (lJg _),lJp z] at this
  cases this
 ·exact z
 ·have:=h.pend Rs.length
  rw[lK3 z,lKo (lJg _)] at this
  cases this
theorem split2 {Rs:List (List Keyed)} {i:Nat} (h:i+1<Rs.length):∃A X Y B,Rs=A++X::Y::B/\A.length=i:=by
 refine⟨Rs.take i,Rs[i],Rs[i+1],Rs.drop (i+2),?_,by simp;omega⟩
 conv=>lhs;rw[<-lK6 i Rs]
 rw[lYx (by omega),lYx (by omega)]
theorem qKf {o:Option (Nat×Nat×Nat)} {a b:Nat} (h:o.map (fun x=>(x.1,x.2.1))=some (a,b)):∃p,o=some (a,b,p):=by
 cases o with
 | none=>cases h
 | some x=>
  obtain⟨u,v,w⟩:=x
  simp only[lQh,lXj,Prod.mk.injEq] at h
  obtain⟨rfl,rfl⟩:=h
  exact⟨w,rfl⟩
theorem Runs.merge {a0:Array Keyed} {Rs:List (List Keyed)} {rest:List Keyed} {st:SortSt} {i:Nat} {Q:Bool->SortSt->Prop} (H:Asks M A s κ mem le) (hm:∀x,x∈a0.toList->mem x) (h:Runs κ le a0 Rs rest st) (hi:i+1<Rs.length)
  (q:∀Rs' st',Runs κ le a0 Rs' rest st'->Rs'.length+1=Rs.length->Rs'.flatten.length=Rs.flatten.length->Q true st'):wpS M A E s (mergeAt' i) Q st:=by
 obtain⟨As,X,Y,B,rfl,hA⟩:=split2 hi
 have hsz:=h.size
 have p1:=h.pend i
 have p2:=h.pend (i+1)
 have e1:(As++X::Y::B)[i]? =some X:=by rw[lKu (by omega),hA,Nat.sub_self];rfl
 have e2:(As++X::Y::B)[i+1]? =some Y:=by rw[lKu (by omega),hA,show i+1-i=1 by omega];rfl
 have t1:(As++X::Y::B).take i=As:=by rw[<-hA];exact List.take_left
 have t2:(As++X::Y::B).take (i+1)=As++[X]:=by rw[<-hA,lZf];rfl
 rw[e1,t1,lQh] at p1
 rw[e2,t2,lQh] at p2
 obtain⟨w1,p1⟩:=qKf p1
 obtain⟨w2,p2⟩:=qKf p2
 have inM:∀x,x∈(arrOf st).toList->mem x:=fun x hx=>hm x (h.perm.mem_iff.mp hx)
 have harr:(arrOf st).toList=As.flatten++(X++Y)++(B.flatten++rest):=by rw[h.arr];simp
 obtain⟨sX,lX⟩:=h.srt X (by simp)
 obtain⟨sY,lY⟩:=h.srt Y (by simp)
 refine kZh H h.kind h.fail p1 p2 harr rfl rfl (by simp) rfl lX lY sX sY (fun x hx=>inM x (by rw[harr];simp[hx])) (fun x hx=>inM x (by rw[harr];simp[hx])) fun Z st' zp zs za zk zf zpe=> ?_
 have zl:Z.length=X.length+Y.length:=by rw[zp.length_eq,lKc]
 refine q (As++Z::B) st' ⟨zk,zf,by rw[za];simp,?_,fun R hR=> ?_,fun j=> ?_⟩ (by simp;omega) (by simp;omega)
 ·refine List.Perm.trans ?_ h.perm
  rw[za,harr]
  exact lX7 _ (lXo _ zp)
 ·rcases (lJn.mp hR) with z | z
  ·exact h.srt R (by simp[z])
  ·rcases (lJr.mp z) with rfl | z
   ·exact⟨zs,by omega⟩
   ·exact h.srt R (by simp[z])
 ·have hin:i+1<((pendingOf st).setIfInBounds i (As.flatten.length,X.length+Y.length,w1)).size:=by rw[lZb,hsz];exact hi
  have er:(pendingOf st')[j]? =if j<i+1 then ((pendingOf st).setIfInBounds i (As.flatten.length,X.length+Y.length,w1))[j]? else ((pendingOf st).setIfInBounds i (As.flatten.length,X.length+Y.length,w1))[j+1]? :=by
   rw[zpe,Array.eraseIdxIfInBounds,dif_pos hin,Array.getElem?_eraseIdx]
  rw[er]
  rcases lV1 j i with z | z | z
  ·rw[lJc (by omega),lYt,lJb (by omega),h.pend j,lKi (by omega),lKi (by omega),lVt (by omega),lVt (by omega)]
  ·subst z
   have e3:(As++Z::B)[j]? =some Z:=by rw[lKu (by omega),hA,Nat.sub_self];rfl
   have t3:(As++Z::B).take j=As:=by rw[<-hA];exact List.take_left
   rw[lJc (by omega),lYt,lJc rfl,lJc (by rw[hsz];omega),e3,t3,lQh,lQh,zl]
  ·obtain⟨d,rfl⟩:∃d,j=i+1+d:=⟨j-i-1,by omega⟩
   rw[lJb (by omega),lYt,lJb (by omega),h.pend]
   have g1:(As++X::Y::B)[i+1+d+1]? =B[d]? :=by rw[lKu (by omega),hA,show i+1+d+1-i=d+2 by omega];rfl
   have g2:(As++Z::B)[i+1+d]? =B[d]? :=by rw[lKu (by omega),hA,show i+1+d-i=d+1 by omega];rfl
   have g3:(As++X::Y::B).take (i+1+d+1)=As++X::Y::B.take d:=by rw[show i+1+d+1=As.length+(d+2) by omega,lZf];rfl
   have g4:(As++Z::B).take (i+1+d)=As++Z::B.take d:=by rw[show i+1+d=As.length+(d+1) by omega,lZf];rfl
   rw[g1,g2,g3,g4]
   congr 1
   funext R
   have:(As++X::Y::B.take d).flatten.length=(As++Z::B.take d).flatten.length:=by simp;omega
   rw[this]
end
section
variable {M:Model} {A:Around} {E:Value->Shared->Prop} {s:Shared} {κ:SortKind} {mem:Keyed->Prop} {le:Keyed->Keyed->Prop} [∀x y,Decidable (le x y)] {a0:Array Keyed} {Rs:List (List Keyed)} {rest:List Keyed} {st st3:SortSt}
theorem Runs.add {n lo:Nat} (h:Runs κ le a0 Rs rest st) (hlo:lo=Rs.flatten.length) (B:SB κ (arrOf st) lo (arrOf st).size (pendingOf st) st3) (hn:lo+n<=(arrOf st).size) (S:SrtA le st3 lo n):∃R r3,R.length=n/\R.Pairwise le/\Runs κ le a0 Rs (R++r3) st3:=by
 have hsz:=B.size
 have hd:(arrOf st3).toList.take lo=Rs.flatten:=by
  have:(arrOf st).toList.take lo=Rs.flatten:=by rw[h.arr,hlo];exact List.take_left
  rw[<-this]
  apply lVk
  intro p
  rw[lQu,lQu]
  by_cases c:p<lo
  ·rw[lJc c,lJc c,lKe,lKe]
   exact B.out p (.inl c)
  ·rw[lJb c,lJb c]
 refine⟨((arrOf st3).toList.drop lo).take n,((arrOf st3).toList.drop lo).drop n,by simp;omega,?_,B.kind,B.fail,?_,?_,h.srt,fun i=> ?_⟩
 ·rw[lX2]
  intro p q hp hq hpq
  have hq':q<n:=by simp at hq;omega
  have:=S p q hpq hq'
  rw[lYr,lYr,List.getElem_drop,List.getElem_drop]
  simp only[Vl,Array.getD,show lo+p<(arrOf st3).size by omega,show lo+q<(arrOf st3).size by omega,dif_pos] at this
  simpa using this
 ·rw[lK6,<-hd,lK6]
 ·exact (Array.perm_iff_toList_perm.mp B.perm).trans h.perm
 ·rw[B.pend];exact h.pend i
theorem Runs.push {R r3:List Keyed} (h:Runs κ le a0 Rs (R++r3) st) (hs:R.Pairwise le) (hl:1<=R.length):Runs κ le a0 (Rs++[R]) r3 (setPending st ((pendingOf st).push (Rs.flatten.length,R.length,0))):=by
 have hsz:=h.size
 refine⟨h.kind,h.fail,by show (arrOf st).toList=_;rw[h.arr];simp,h.perm,fun X hX=> ?_,fun i=> ?_⟩
 ·rcases (lJn.mp hX) with z | z
  ·exact h.srt X z
  ·rw[lJt] at z;rw[z];exact⟨hs,hl⟩
 ·show ((pendingOf st).push _)[i]?.map _=_
  rw[Array.getElem?_push]
  by_cases c:i=(pendingOf st).size
  ·rw[lJc c,lKu (by omega),show i-Rs.length=0 by omega,lVt (by omega),lQs (by omega)]
   rfl
  ·rw[lJb c,h.pend i]
   by_cases d:i<Rs.length
   ·rw[lKi d,lVt (by omega)]
   ·rw[lKo (by omega),lKo (by simp;omega)];rfl
theorem Runs.pw {k:Nat} {f:Nat×Nat×Nat->Nat×Nat×Nat} (h:Runs κ le a0 Rs rest st) (hf:∀x,((f x).1,(f x).2.1)=(x.1,x.2.1)):Runs κ le a0 Rs rest (setPending st ((pendingOf st).modify k f)):=by
 refine⟨h.kind,h.fail,h.arr,h.perm,h.srt,fun i=> ?_⟩
 show ((pendingOf st).modify k f)[i]?.map _=_
 rw[<-h.pend i,Array.getElem?_modify]
 split
 ·rw[Option.map_map]
  congr 1
  funext x
  exact hf x
 ·rfl
theorem ite_lt {c:Prop} [Decidable c] {a b n:Nat} (ha:a+1<n) (hb:b+1<n):(if c then a else b)+1<n:=by
 split<;>assumption
theorem kXl:∀ {Rs:List (List Keyed)},(∀R,R∈Rs->1<=R.length)->Rs.length<=Rs.flatten.length
 | [],_=>lJg _
 | R::Rs,h=>by
  have:=kXl (Rs:=Rs) fun X hX=>h X (lJ1 _ hX)
  have:=h R (lJx ..)
  rw[lXv,lKc,lJ5]
  omega
theorem Runs.len (h:Runs κ le a0 Rs rest st):Rs.flatten.length+rest.length=a0.size:=by
 have:=h.perm.length_eq
 rw[h.arr] at this
 simpa using this
theorem kU0 (H:Asks M A s κ mem le) (hm:∀x,x∈(arrOf st).toList->mem x) (hk:kindOf st=κ) (hf:failedOf st=none) (hp:pendingOf st= #[]) (h1:1<=(arrOf st).size) {Q:Unit->SortSt->Prop} (q:∀st',(arrOf st').toList.Perm (arrOf st).toList->(arrOf st').toList.Pairwise le->failedOf st'=none->Q () st'):wpS M A E s sortRuns' Q st:=by
 rw[sortRuns'_eq]
 refine lJe (lQf ?_)
 dsimp only
 have R0:Runs κ le (arrOf st) [] (arrOf st).toList st:=⟨hk,hf,by simp,.refl _,fun R hR=>(nomatch hR),fun i=>by rw[hp];simp⟩
 refine lJe (lKq (lKr (I:=fun i (c:Option Unit×Nat) st'=>c.1=none/\∃Rs rest,Runs κ le (arrOf st) Rs rest st'/\c.2=Rs.flatten.length/\(i<=c.2\/(arrOf st).size<=c.2)) (Q:=fun (c:Option Unit×Nat) st'=>c.1=none/\∃Rs rest,Runs κ le (arrOf st) Rs rest st'/\c.2=Rs.flatten.length/\(arrOf st).size<=c.2) ?_ ?_ ⟨rfl,[],_,R0,rfl,.inl (lJz _)⟩) ?_)
 ·rintro i ⟨r,lo⟩ st1 _ hi ⟨rfl,Rs,rest,R1,rfl,hl⟩
  dsimp only at hl ⊢
  by_cases c:Rs.flatten.length>=(arrOf st).size
  ·rw[lJc c]
   exact lJh ⟨rfl,Rs,rest,R1,rfl,c⟩
  rw[lJb c]
  have hs1:(arrOf st1).size=(arrOf st).size:=by have:=R1.perm.length_eq;simpa using this
  have hm1:∀x,x∈(arrOf st1).toList->mem x:=fun x hx=>hm x (R1.perm.mem_iff.mp hx)
  have B0:SB κ (arrOf st1) Rs.flatten.length (arrOf st1).size (pendingOf st1) st1:=⟨R1.kind,R1.fail,rfl,Array.Perm.refl _,fun _ _=>rfl⟩
  refine lJe (kV4 H hm1 B0 (by omega) (by omega) (lJg _) fun n st2 B2 n1 n2 S2=> ?_)
  dsimp only
  by_cases cm:n<minRun' (arrOf st).size (arrOf st).size 0
  ·rw[lJc cm]
   (refine lJe (wpS_lift (lQd ⟨rfl,?_⟩)))
   have hq1:n<=min ((arrOf st).size-Rs.flatten.length) (minRun' (arrOf st).size (arrOf st).size 0):=by omega
   have hq2:min ((arrOf st).size-Rs.flatten.length) (minRun' (arrOf st).size (arrOf st).size 0)<=(arrOf st).size-Rs.flatten.length:=Nat.min_le_left ..
   generalize min ((arrOf st).size-Rs.flatten.length) (minRun' (arrOf st).size (arrOf st).size 0)=n3 at hq1 hq2 ⊢
   refine lJe (kK8 H hm1 B2 n1 hq1 (by omega) (lJg _) S2 fun st3 B3 S3=> ?_)
   rw[lJb (by decide)]
   obtain⟨R,r3,hRl,hRs,R3⟩:=R1.add rfl B3 (by omega) S3
   have hR1:1<=R.length:=by omega
   refine lJe (lQf ?_)
   cases hb:(pendingOf st3).back? with
   | none=>
    rw[<-hRl]
    exact wpS_bind (wpS_modify (wpS_pure ⟨rfl,_,_,R3.push hRs hR1,by simp,by dsimp only;omega⟩))
   | some x=>
    obtain⟨x1,x2,x3⟩:=x
    dsimp only
    refine lJe (lKq (lKr (I:=fun _ (c:Option Unit×Unit) st'=>c=(none,())/\∃Rs',Runs κ le (arrOf st) Rs' (R++r3) st'/\Rs'.flatten.length=Rs.flatten.length) (Q:=fun (c:Option Unit×Unit) st'=>c=(none,())/\∃Rs',Runs κ le (arrOf st) Rs' (R++r3) st'/\Rs'.flatten.length=Rs.flatten.length) ?_ (fun _ _ z=>z) ⟨rfl,Rs,R3,rfl⟩) ?_)
    ·rintro i' c st4 _ hi' ⟨rfl,Rs4,R4,hl4⟩
     refine lJe (lQf ?_)
     have hsz:=R4.size
     by_cases c:(pendingOf st4).size>1
     ·rw[lJc c,lK3 (by omega)]
      dsimp only
      split
      ·exact lJh ⟨rfl,Rs4,R4,hl4⟩
      ·refine lJe (R4.merge H hm (by omega) fun Rs' st' R' e1 e2=> ?_)
       rw[lJb (by decide)]
       exact lJh ⟨rfl,Rs',R',by omega⟩
     ·rw[lJb c]
      exact lJh ⟨rfl,Rs4,R4,hl4⟩
    ·rintro c st4 ⟨rfl,Rs4,R4,hl4⟩
     dsimp only
     have R5:=fun pw:Nat=>R4.pw (k:=(pendingOf st4).size-1) (f:=fun x=>(x.1,x.2.1,pw)) fun _=>rfl
     refine lJe (lKn (lJe (lKn ?_)))
     rw[<-hl4,<-hRl]
     exact wpS_pure ⟨rfl,_,_,(R5 _).push hRs hR1,by simp,by dsimp only;omega⟩
  ·rw[lJb cm]
   obtain⟨st3,rfl⟩:∃x,x=st2:=⟨_,rfl⟩
   have B3:=B2
   have S3:=S2
   obtain⟨R,r3,hRl,hRs,R3⟩:=R1.add rfl B3 (by omega) S3
   have hR1:1<=R.length:=by omega
   refine lJe (lQf ?_)
   cases hb:(pendingOf st3).back? with
   | none=>
    rw[<-hRl]
    exact wpS_bind (wpS_modify (wpS_pure ⟨rfl,_,_,R3.push hRs hR1,by simp,by dsimp only;omega⟩))
   | some x=>
    obtain⟨x1,x2,x3⟩:=x
    dsimp only
    refine lJe (lKq (lKr (I:=fun _ (c:Option Unit×Unit) st'=>c=(none,())/\∃Rs',Runs κ le (arrOf st) Rs' (R++r3) st'/\Rs'.flatten.length=Rs.flatten.length) (Q:=fun (c:Option Unit×Unit) st'=>c=(none,())/\∃Rs',Runs κ le (arrOf st) Rs' (R++r3) st'/\Rs'.flatten.length=Rs.flatten.length) ?_ (fun _ _ z=>z) ⟨rfl,Rs,R3,rfl⟩) ?_)
    ·rintro i' c st4 _ hi' ⟨rfl,Rs4,R4,hl4⟩
     refine lJe (lQf ?_)
     have hsz:=R4.size
     by_cases c:(pendingOf st4).size>1
     ·rw[lJc c,lK3 (by omega)]
      dsimp only
      split
      ·exact lJh ⟨rfl,Rs4,R4,hl4⟩
      ·refine lJe (R4.merge H hm (by omega) fun Rs' st' R' e1 e2=> ?_)
       rw[lJb (by decide)]
       exact lJh ⟨rfl,Rs',R',by omega⟩
     ·rw[lJb c]
      exact lJh ⟨rfl,Rs4,R4,hl4⟩
    ·rintro c st4 ⟨rfl,Rs4,R4,hl4⟩
     dsimp only
     have R5:=fun pw:Nat=>R4.pw (k:=(pendingOf st4).size-1) (f:=fun x=>(x.1,x.2.1,pw)) fun _=>rfl
     refine lJe (lKn (lJe (lKn ?_)))
     rw[<-hl4,<-hRl]
     exact wpS_pure ⟨rfl,_,_,(R5 _).push hRs hR1,by simp,by dsimp only;omega⟩
 ·rintro⟨r,lo⟩ st1 ⟨rfl,Rs,rest,R1,hlo,hl⟩
  refine⟨rfl,Rs,rest,R1,hlo,?_⟩
  rw[Nat.zero_max] at hl
  omega
 ·rintro⟨r,lo⟩ st1 ⟨rfl,Rs,rest,R1,hlo,hl⟩
  dsimp only at hlo hl ⊢
  have hL:=R1.len
  refine lJe (lKq (lKr (I:=fun i (c:Option Unit×Unit) st'=>c=(none,())/\∃Rs,Runs κ le (arrOf st) Rs rest st'/\Rs.flatten.length=lo/\Rs.length<=max 1 ((arrOf st).size-i)) (Q:=fun (c:Option Unit×Unit) st'=>c=(none,())/\∃Rs,Runs κ le (arrOf st) Rs rest st'/\Rs.flatten.length=lo/\Rs.length<=1) ?_ ?_ ⟨rfl,Rs,R1,hlo.symm,by have:=kXl fun R hR=>(R1.srt R hR).2;omega⟩) ?_)
  ·rintro i c st2 _ hi ⟨rfl,Rs2,R2,hl2,hn2⟩
   refine lJe (lQf ?_)
   have hsz:=R2.size
   by_cases c:(pendingOf st2).size<=1
   ·rw[lJc c]
    exact lJh ⟨rfl,Rs2,R2,hl2,by omega⟩
   ·rw[lJb c]
    refine lJe (R2.merge H hm (ite_lt (by omega) (by omega)) fun Rs' st' R' e1 e2=> ?_)
    rw[lJb (by decide)]
    exact lJh ⟨rfl,Rs',R',by omega,by omega⟩
  ·rintro c st2 ⟨rfl,Rs2,R2,hl2,hn2⟩
   exact⟨rfl,Rs2,R2,hl2,by omega⟩
  ·rintro c st2 ⟨rfl,Rs2,R2,hl2,hn2⟩
   dsimp only
   have hr:rest=[]:=lQ9.mp (by omega)
   refine lJh (q st2 R2.perm ?_ R2.fail)
   rw[R2.arr,hr,lQb]
   cases Rs2 with
   | nil=>simp at hl2;omega
   | cons R Rs3=>
    obtain rfl:Rs3=[]:=by simpa using hn2
    simp
    exact (R2.srt R (by simp)).1
end
end L3
namespace L3
open PySem PySem.Spec PyProof.Rows L2 PySem.W
section
variable {prog:Program} {w:World} {A:Around} {E:Value->Shared->Prop} {s:Shared}
theorem kY4 {a n:Nat} {b:Bool} {es:List (TKey×Addr)} (ho:s.heap.get? a=some (seqObj "list" (List.toArray (es.map fun e=>Value.ref e.2)) n)) (hu:A.units+6<cLine) (h:∀e,e∈es->(jJn prog w).is s.heap e.1 e.2/\kQz e.1 b/\intT e.1=true) (hlt:∀e,e∈es->∀e',e'∈es->(ltK e.1 e'.1).isSome=true) (h64:es.length<=16000000) {P:PySem.Fin->Shared->Prop}
  (k:∀(es':List (TKey×Addr)) (h':Heap) (c:Nat),es'.Perm es->es'.Pairwise (fun x y=>ltK y.1 x.1≠some true)->h'.get? a=some (seqObj "list" (List.toArray (es'.map fun e=>Value.ref e.2)) c)->(∀p o,p≠a->s.heap.get? p=some o->h'.get? p=some o)->P (.done (.ret .none)) {s with heap:=h'}):wpAny (model prog w) A (Builtin.«list.sort» ⟨[.ref a],[]⟩) P E s:=by
 (have ha:a<s.heap.objs.size:=lJi ho)
 have hlen:(es.map fun e=>Value.ref e.2).length=es.length:=lJf ..
 rw[list_sort_plain]
 (refine lJa (listItems_at ho rfl ?_))
 refine lJa (listUpdate_at ho rfl ?_ (by rw[lJw,hlen,lKy];omega) (lJz _))
 (obtain⟨e1,ho1⟩:∃e1,(s.heap.update a (Obj.mapSeq fun _=>(#[]:Array Value))).get? a=some (seqObj "list" #[] e1):=⟨_,get?_update_seq ho fun _=> #[]⟩)
 (refine lJa (seqEpoch_at ho1 rfl ?_))
 refine lJa (wpAny_newTuple ?_ (by show (es.map fun e=>Value.ref e.2).length<=_;rw[hlen,lKy];omega))
 (refine lJa (wpAny_newList ?_ (lJz _)))
 refine lKx ?_
 generalize hg:((s.heap.update a (Obj.mapSeq fun _=>(#[]:Array Value))).push (seqObj "tuple" (List.toArray (es.map fun e=>Value.ref e.2)) 0)).push (seqObj "list" #[] 0)=h1
 refine (show wpAny (model prog w) A _ P E {s with heap:=h1} from ?_)
 have oth:∀p o,p≠a->s.heap.get? p=some o->h1.get? p=some o:=by
  intro p o hp e
  rw[<-hg]
  exact lJk _ (lJk _ ((lX6 _ _ _ _ hp).trans e))
 have ho6:h1.get? a=some (seqObj "list" #[] e1):=by
  rw[<-hg]
  exact lJk _ (lJk _ ho1)
 have tk:jZ9 s.heap h1:=by
  intro p o e hc
  refine oth p o ?_ e
  rintro rfl
  rw[ho] at e;cases e
  exact absurd hc (show ¬ Value.type "list"=Value.type "tuple" by decide)
 have hk1:∀e,e∈es->(jJn prog w).is h1 e.1 e.2/\kQz e.1 b/\intT e.1=true:=fun e he=>⟨jXb tk (h e he).1,(h e he).2⟩
 have fin:∀(out:List (TKey×Addr)),out.Perm es->out.Pairwise (fun x y=>ltK y.1 x.1≠some true)->∀st':SortSt,(arrOf st').map (·.2)=List.toArray (out.map fun e=>Value.ref e.2)->failedOf st'=none->
   wpAny (model prog w) A (do
    let touched:=(<-seqEpoch a) != e1
    Builtin.List.listUpdate (.ref a) fun _=>(arrOf st').map (·.2)
    if let some e:=failedOf st' then rule "list.sort.comparison-raised"; throw e
    if (touched) then rule "list.sort.modified"; raiseError "ValueError" "list modified during sort"
    ret .none) P E {s with heap:=h1}:=by
  intro out hp hs st' hout hf
  rw[hout,hf]
  have hol:out.length=es.length:=hp.length_eq
  refine lJa (seqEpoch_at (s:={s with heap:=h1}) ho6 rfl ?_)
  refine lJa (listUpdate_at (s:={s with heap:=h1}) ho6 rfl ?_ (lJz _) (by rw[lJw,lJf,hol,lKy];omega))
  (simp only[bne_self_eq_false,lKf,lJ6])
  refine lJd (k out _ _ hp hs (get?_update_seq ho6 fun _=>List.toArray (out.map fun e=>Value.ref e.2)) fun p o hpa e=>(lX6 _ _ _ _ hpa).trans (oth p o hpa e))
 dsimp only
 by_cases h2:(List.toArray (es.map fun e=>Value.ref e.2)).size<2
 ·rw[lJc h2,lJc h2]
  refine lJa (lJd ?_)
  rw[StateT.run_pure]
  refine lJa (lJd ?_)
  refine fin es (.refl _) ?_ _ ?_ rfl
  ·rw[lJw,hlen] at h2
   match es,h2 with
   | [],_=>exact .nil
   | [_],_=>exact List.pairwise_singleton _ _
  ·apply Array.toList_inj.mp
   show (((List.toArray (es.map fun e=>Value.ref e.2)).zip (List.toArray (es.map fun e=>Value.ref e.2))).map (·.2)).toList=_
   rw[Array.toList_map,ksk_zip,List.map_snd_zip (lJg _)]
 ·rw[lJb h2,lJb h2]
  rw[lJw,hlen] at h2
  refine lJa (qZw (s:={s with heap:=h1}) hk1 (by omega) ?_)
  let f:TKey×Addr->Keyed:=fun e=>(Value.ref e.2,Value.ref e.2)
  let mem:Keyed->Prop:=fun x=>∃e,e∈es/\x=f e
  let le:Keyed->Keyed->Prop:=fun x y=>∀e e',e∈es->e'∈es->x=f e->y=f e'->ltK e'.1 e.1≠some true
  have one:∀e e',e∈es->e'∈es->f e=f e'->e.1=e'.1:=fun e e' he he' z=>by
   have z1:Value.ref e.2=Value.ref e'.2:=lJ8 Prod.fst z
   have z2:e.2=e'.2:=by cases e;cases e';cases z1;rfl
   have a1:=(hk1 e he).1
   rw[z2] at a1
   exact (jJn prog w).inj a1 (hk1 e' he').1
  have le_iff:∀e e',e∈es->e'∈es->(le (f e) (f e')↔ltK e'.1 e.1≠some true):=fun e e' he he'=>
   ⟨fun z=>z e e' he he' rfl rfl,fun z d d' hd hd' q q'=>by rw[<-one e d he hd q,<-one e' d' he' hd' q'];exact z⟩
  haveI:∀x y,Decidable (le x y):=fun x y=>Classical.propDecidable _
  have HA:Asks (model prog w) A {s with heap:=h1} (tuples' b) mem le:=by
   refine⟨?_,?_,?_⟩
   ·rintro x y ⟨e,he,rfl⟩ ⟨e',he',rfl⟩ E' Q hQ
    obtain⟨c,hc⟩:=lXc.mp (hlt e he e' he')
    refine ask_ok (s:={s with heap:=h1}) hu (hk1 e he).1 (hk1 e' he').1 hc (hk1 e he).2.1 (hk1 e' he').2.1 ?_
    have:(!decide (le (f e') (f e)))=c:=by
     by_cases z:le (f e') (f e)
     ·rw[lJ4 z]
      have:=(le_iff e' e he' he).mp z
      rw[hc] at this
      cases c with
      | false=>rfl
      | true=>exact absurd rfl this
     ·rw[lJv z]
      cases c with
      | true=>rfl
      | false=>exact absurd ((le_iff e' e he' he).mpr (by rw[hc];simp)) z
    rw[this] at hQ
    exact hQ
   ·rintro x y ⟨e,he,rfl⟩ ⟨e',he',rfl⟩
    rw[le_iff e e' he he',le_iff e' e he' he]
    by_cases z:ltK e'.1 e.1=some true
    ·right
     intro z2
     have:=kVt z z2
     rw[show ltK e'.1 e'.1=some false from kX1 _] at this
     cases this
    ·exact .inl z
   ·rintro x y z ⟨e,he,rfl⟩ ⟨e',he',rfl⟩ ⟨d,hd,rfl⟩ h1' h2'
    rw[le_iff e e' he he'] at h1'
    rw[le_iff e' d he' hd] at h2'
    rw[le_iff e d he hd]
    intro q
    by_cases eqk:d.1=e'.1
    ·rw[eqk] at q;exact h1' q
    ·obtain⟨c,hc⟩:=lXc.mp (hlt d hd e' he')
     cases c with
     | true=>exact h2' hc
     | false=>
      have:=kord.neg eqk hc
      exact h1' (kVt this q)
  have hz:((List.toArray (es.map fun e=>Value.ref e.2)).zip (List.toArray (es.map fun e=>Value.ref e.2))).toList=es.map f:=by
   rw[ksk_zip,List.zip_map']
  have key:wpS (model prog w) A E {s with heap:=h1} sortRuns' (fun _ st'=>∃es':List (TKey×Addr),es'.Perm es/\es'.Pairwise (fun x y=>ltK y.1 x.1≠some true)/\(arrOf st').map (·.2)=List.toArray (es'.map fun e=>Value.ref e.2)/\failedOf st'=none) (SortSt.mk' (tuples' b) ((List.toArray (es.map fun e=>Value.ref e.2)).zip (List.toArray (es.map fun e=>Value.ref e.2))) #[] 7 none):=by
   refine kU0 HA (fun x hx=> ?_) rfl rfl rfl ?_ fun st' p1 p2 p3=> ?_
   ·have hx':x∈es.map f:=by rw[<-hz];exact hx
    obtain⟨e,he,rfl⟩:=lJl.mp hx'
    exact⟨e,he,rfl⟩
   ·show 1<=((List.toArray (es.map fun e=>Value.ref e.2)).zip (List.toArray (es.map fun e=>Value.ref e.2))).size
    rw[<-lKg,hz,lJf];omega
   ·obtain⟨es',hp,he⟩:=jV1 p1 es hz
    refine⟨es',hp,?_,?_,p3⟩
    ·rw[he,lXm] at p2
     exact p2.imp_of_mem fun ha hb z=>(le_iff _ _ (hp.mem_iff.mp ha) (hp.mem_iff.mp hb)).mp z
    ·apply Array.toList_inj.mp
     rw[Array.toList_map,he,lJy]
     rfl
  unfold wpS at key
  refine lJa (lQv key ?_ fun _ _ x=>x)
  rintro⟨⟨⟩,st'⟩ s' ⟨rfl,es',hp,hs,har,hf⟩
  exact fin es' hp hs st' har hf
end
section
variable {prog:Program} {w:World} {A:Around} {E:Value->Shared->Prop} {s:Shared}
theorem kQe {l:Addr} {b:Bool} {es:List (TKey×Addr)} {Q:Value->Shared->Prop} (hl:s.heap.IsList l (List.toArray (es.map fun e=>Value.ref e.2))) (hu:A.units+20<cLine) (h:∀e,e∈es->(jJn prog w).is s.heap e.1 e.2/\kQz e.1 b/\intT e.1=true) (hlt:∀e,e∈es->∀e',e'∈es->(ltK e.1 e'.1).isSome=true) (hn:es.length<=1000000)
  (k:∀(es':List (TKey×Addr)) (h':Heap) (D c:Nat),es'.Perm es->es'.Pairwise (fun x y=>ltK y.1 x.1≠some true)->s.heap.objs.size<=D->h'.get? D=some (seqObj "list" (List.toArray (es'.map fun e=>Value.ref e.2)) c)->(∀p o,s.heap.get? p=some o->h'.get? p=some o)->Q (.ref D) {s with heap:=h'}):wpAny (model prog w) A (call (.builtin "sorted") [.ref l]) Q E s:=by
 (refine Calls.call_function_entry kind_sorted plain_sorted entry_sorted (args_sorted1 _) ?_)
 unfold Builtin.«sorted»
 (refine lJa (m:=checkCount "sorted" 1 1 _) (lJd ?_))
 refine lJa (collect_list hl ?_ (by rw[lJf,lKy];omega))
 have kp:∀p o,s.heap.get? p=some o->((s.heap.push (seqObj "list" #[] 0)).update s.heap.objs.size (Obj.mapSeq (· ++(es.map fun e=>Value.ref e.2).toArray))).get? p=some o:=fun p o e=>
  (lX6 _ _ _ _ (lJm (lJi e))).trans (lJk _ e)
 have big:s.heap.objs.size<=((s.heap.push (seqObj "list" #[] 0)).update s.heap.objs.size (Obj.mapSeq (· ++(es.map fun e=>Value.ref e.2).toArray))).objs.size:=by
  rw[Heap.size_update,size_push'];omega
 generalize (s.heap.push (seqObj "list" #[] 0)).update s.heap.objs.size (Obj.mapSeq (· ++(es.map fun e=>Value.ref e.2).toArray))=g at kp big ⊢
 refine lJa (wpAny_newList ?_ (by rw[lJf,lKy];omega))
 have hoL:(g.push (seqObj "list" (List.toArray (es.map fun e=>Value.ref e.2)) 0)).get? g.objs.size=some (seqObj "list" (List.toArray (es.map fun e=>Value.ref e.2)) 0):=lJ0 _ rfl
 refine lJa (lKx (lQa slot_list_sort ⟨_,hoL,rfl⟩ entry_list_sort ?_ (args_list_sort _)))
 refine kY4 (s:={s with heap:=g.push (seqObj "list" (List.toArray (es.map fun e=>Value.ref e.2)) 0)}) (b:=b) hoL (by rw[lQ2,lQ2];omega) (fun e he=> ?_) hlt (by omega) fun es' h' c pe' so hD oth=> ?_
 ·exact⟨jXb (fun b ob e _=>lJk _ (kp b ob e)) (h e he).1,(h e he).2⟩
 ·refine⟨_,rfl,lJd ⟨_,rfl,k es' h' _ c pe' so big hD fun q ob e=>oth q ob ?_ (lJk _ (kp q ob e))⟩⟩
  exact lJm (lJ9 (lJi e) big)
end
section
variable {X:Cx}
noncomputable def qX1:List T->Gp->VK3->Prop:=fun xs G Q=>∃(x:T) (b:Bool) (tks:List (List T×TKey)),xs=[x]/\jQt G x=some (tks.map fun e:List T×TKey=> .tup e.1)/\tks.length<=1000000/\(∀e,e∈tks->SKey b e.1 e.2)/\(∀e,e∈tks->∀e',e'∈tks->(ltK e.2 e'.2).isSome=true)/\
 ∀(p:Addr) (kys:List (List T×TKey)),G p=none->kys.Perm tks->kys.Pairwise (fun x y=>ltK y.2 x.2≠some true)->Q (.ref p) (gup G p (.lst (kys.map fun e=> .tup e.1)))
theorem uJu (hu:X.A.units+20<cLine):Call3 X (.builtin "sorted") qX1:=by
 rintro pins s τ G H xs us Q ⟨σ,I,hs,hg⟩ ⟨as,ras,rvs⟩ ⟨x,b,tks,ex,hx,hn,hk,hlt,q⟩
 subst ex
 obtain⟨v,rfl,rv⟩:=jQ8 ras
 obtain⟨u,rfl,ru⟩:=rvs.one
 obtain⟨pa,vs,rfl,hq,r⟩:=jUs hg rv hx
 cases ru
 obtain⟨its,rvv,pl,hz⟩:=I.list hq
 obtain⟨tb,t1,t2,t3,t4⟩:=qJa hk r rvv
 have tl:tb.length=tks.length:=by rw[<-t1,lJf]
 have hmem:∀e,e∈tb->e.1∈tks:=fun e he=>by rw[<-t1];exact lJl.mpr ⟨e,he,rfl⟩
 have hl:s.heap.IsList pa (List.toArray ((tb.map fun e=>(e.1.2,e.2)).map fun e=>Value.ref e.2)):=by
  have:=pl.isList
  rw[t3] at this
  rw[lJy];exact this
 refine kQe (b:=b) hl hu (fun e he=> ?_) (fun e he e' he'=> ?_) (by rw[lJf];omega) fun es h3 D c hp so hD hoD kp=> ?_
 ·obtain⟨y,hy,rfl⟩:=lJl.mp he
  exact⟨jYl I.hok (t4 y hy).1,(hk _ (hmem y hy)).2⟩
 ·obtain⟨y,hy,rfl⟩:=lJl.mp he
  obtain⟨y',hy',rfl⟩:=lJl.mp he'
  exact hlt _ (hmem y hy) _ (hmem y' hy')
 obtain⟨tb',p1,p2⟩:=jV1 hp tb rfl
 have fr:=I.hok.fresh hD
 have I3:=I.laid (a:=D) (o:= .lst (tb'.map fun e=>V.ref e.2)) (h':=h3) (t':=s.toks) kp hD ⟨by rw[lJf,lKy,p1.length_eq];omega,tb'.map fun e=>Value.ref e.2,c,kJr tb',by rw[p2,lJy] at hoD;exact hoD⟩
 have ext:Ext H (upd H D (.lst (tb'.map fun e=>V.ref e.2))):= .upd (.none fr)
 refine⟨.ref D,_,_,ext,⟨σ,I3,hs.mono ext,hg.lstNew (qJw tb' fun e he=>(t4 e (p1.mem_iff.mp he)).2) (.none fr)⟩,⟨.ref D,rfl,rfl⟩,?_⟩
 have:=q D (tb'.map (·.1)) (hg.fresh fr) (by rw[<-t1];exact p1.map _) (by rw[p2,lXm] at so;rw[lXm];exact so)
 rw[lJy] at this
 exact this
end
end L3
namespace L3
open PySem PySem.Spec PyProof.Rows L2
section
variable {X:Cx}
end
section
variable {X:Cx}
def rInD:R3:=fun x y G Q=>∃p xs,y= .ref p/\G p=some (.lst xs)/\eqOk x=true/\jZ1 xs=true/\Q (.bl ((tds xs).any fun z=>PyData.eqv z (td x))) G
theorem o_inD (hu:X.A.units+64<cLine):Op3 X (compareOp .In) rInD:=by
 rintro pins s τ G H x y v u Q ⟨σ,I,hs,hg⟩ ⟨a,ra,rv⟩ ⟨b,rb,ru⟩ ⟨p,xs,ey,hp,ox,oxs,q⟩
 subst ey
 cases (show b= .ref p from rb)
 cases ru
 obtain⟨vs,h1,h2⟩:=hg.lst hp
 obtain⟨its,r1,⟨o,n,ho,hc,_,hd⟩,_⟩:=I.list (.of h1)
 simp only[eqOk,jZ1,lKv,lKm] at ox oxs
 obtain⟨as,r3⟩:=jXh I xs oxs.1.1 h2 r1
 obtain⟨bs,r4⟩:=kKm I x ox.1.1 ra rv
 have hd':=ox.2
 exact SeqAt.in_list_reads (.list ho hc hd (by simpa using r3)) r4 (by simpa[PyData.canLay0] using oxs.1.2) ox.1.2 (by have:=Nat.min_le_right (PyData.depthAll (tds xs)) (td x).depth;omega) ⟨.bl _,G,H,.refl H,⟨σ,I,hs,hg⟩,⟨.bl _,rfl,rfl⟩,q⟩
end
section
variable {prog:Program} {w:World} {A:Around} {E:Value->Shared->Prop} {s:Shared}
structure DmAt (prog:Program) (w:World) (h:Heap) (l:Addr) (ts:List Addr) (ps:List (TKey×Addr×Value)):Prop where
 li:h.IsList l (ts.map Value.ref).toArray
 len:ts.length=ps.length
 at_:∀(i:Nat) t p,ts[i]? =some t->ps[i]? =some p->IsTup h t #[.ref p.2.1,p.2.2]
 key:∀p,p∈ps->(jJn prog w).is h p.1 p.2.1
theorem DmAt.moved {h h':Heap} {l:Addr} {ts:List Addr} {ps:List (TKey×Addr×Value)} (a:DmAt prog w h l ts ps) (k:∀b o,h.get? b=some o->(o.cls= .type "tuple"\/b=l)->h'.get? b=some o):DmAt prog w h' l ts ps:=
 ⟨a.li.at fun o e=>k _ o e (.inr rfl),a.len,fun i t p e1 e2=>let ⟨o,ho,hc,r⟩:=a.at_ i t p e1 e2;⟨o,k _ o ho (.inl hc),hc,r⟩,fun p hp=>jXb (fun b o e c=>k b o e (.inl c)) (a.key p hp)⟩
def dmF (ps:List (TKey×Addr×Value)):List (TKey×Addr×Value):=ps.foldl (fun xs p=>storedH xs p.1 p.2.1 p.2.2) []
theorem qYu {xs:List (TKey×Addr×Value)} {k:TKey} {a:Addr} {v:Value}:(storedH xs k a v).length<=xs.length+1:=by
 unfold storedH
 split<;>simp
theorem kYn {ps:List (TKey×Addr×Value)} {i:Nat} {p:TKey×Addr×Value} (h:ps[i]? =some p):dmF (ps.take (i+1))=storedH (dmF (ps.take i)) p.1 p.2.1 p.2.2:=by
 unfold dmF
 rw[lQi,h,lY0];rfl
theorem kK4 {ps:List (TKey×Addr×Value)}:∀i,(dmF (ps.take i)).length<=i
 | 0=>by simp[dmF]
 | i+1=>by
  cases h:ps[i]? with
  | none=>
   have:=kK4 (ps:=ps) i
   have hl:ps.length<=i:=List.getElem?_eq_none_iff.mp h
   rw[lQs (by omega)]
   rw[lQs hl] at this
   omega
  | some p=>
   rw[kYn h]
   have:=kK4 (ps:=ps) i
   have:=qYu (xs:=dmF (ps.take i)) (k:=p.1) (a:=p.2.1) (v:=p.2.2)
   omega
theorem qQ5 {h h':Heap} {d:Addr} {xs:List (TKey×Addr×Value)} (hd:h.DictOfH (jJn prog w) d xs) (k:∀o,h.get? d=some o->h'.get? d=some o) (tk:jZ9 h h'):h'.DictOfH (jJn prog w) d xs:=by
 obtain⟨o,es,ep,h1,h2,h3,h4,h5,h6⟩:=hd
 exact⟨o,es,ep,k o h1,h2,h3,h4,fun x hx=>jXb tk (h5 x hx),h6⟩
theorem uJl {R:Result->Shared->Prop} {it l d:Addr} {ts:List Addr} {ps:List (TKey×Addr×Value)} (hu:(jJn prog w).room A.in1) (hh:A.handled=none) (dl:d≠l) (di:d≠it) (li:l≠it) (hs:ps.length<=sizeLine):
  ∀(k i:Nat) (s:Shared) (j:Int) (jt:Tok),ps.length-i=k->i<=ps.length->DmAt prog w s.heap l ts ps->s.heap.IsListIter it l i->s.heap.DictOfH (jJn prog w) d (dmF (ps.take i))->
   (∀h' t',h'.DictOfH (jJn prog w) d (dmF ps)->(∀b o,b≠d->b≠it->s.heap.get? b=some o->h'.get? b=some o)->R (.ok (.ret .none)) {s with heap:=h',toks:=t'})->
   codeAny (model prog w) A (.builtin "dict.update.loop" ⟨[.ref d,.ref it,.int j jt,.none],[]⟩) R s:=by
 intro k
 induction k with
 | zero=>
  intro i s j jt hk hi a hit hd hR
  have hin:i=ps.length:=by omega
  subst hin
  refine lQe jY1 ?_
  rw[lQj jQz _]
  refine (show wpAny _ A.in1 (pyNext (.ref it) >>= _) _ _ s from ?_)
  refine lJa (wpAny_pyNext_list_end (A:=A.in1) (by simpa using hh) hit a.li (by have:=a.len;simp;omega) fun h' kp=> ?_)
  refine (show wpAny _ A.in1 (Builtin.Dict.addKeywords d [] >>= _) _ _ _ from lJa (lJd (lJd ?_)))
  rw[lQq] at hd
  have tne:∀b o,s.heap.get? b=some o->o.cls= .type "tuple"->b≠it:=fun b o ho hc=>by
   rintro rfl
   obtain⟨o',ho',hc',_⟩:=hit
   rw[ho] at ho';cases ho'
   rw[hc] at hc'
   exact absurd hc' (by decide)
  exact hR h' s.toks (qQ5 hd (fun o e=>kp d o di e) fun b o e c=>kp b o (tne b o e c) e) fun b o _ c1 e=>kp b o c1 e
 | succ k ih=>
  intro i s j jt hk hi a hit hd hR
  have hlt:i<ps.length:=by omega
  have hlt2:i<ts.length:=by rw[a.len];exact hlt
  have hpi:ps[i]? =some ps[i]:=lJp hlt
  refine lQe jY1 ?_
  rw[lQj jQz _]
  refine (show wpAny _ A.in1 (pyNext (.ref it) >>= _) _ _ s from ?_)
  refine lJa (wpAny_pyNext_list_item (A:=A.in1) hit a.li (x:= .ref ts[i]) (by simp[hlt2]) fun h' hit' sb=> ?_)
  have tne:∀b o,s.heap.get? b=some o->o.cls= .type "tuple"->b≠it:=fun b o ho hc=>by
   rintro rfl
   obtain⟨o',ho',hc',_⟩:=hit
   rw[ho] at ho';cases ho'
   rw[hc] at hc'
   exact absurd hc' (by decide)
  have kp1:∀b o,s.heap.get? b=some o->(o.cls= .type "tuple"\/b=l)->h'.get? b=some o:=fun b o e z=>(sb.2 b (z.elim (fun hc=>tne b o e hc) fun q=>by rw[q];exact li)).trans e
  have a':=a.moved kp1
  have hd':h'.DictOfH (jJn prog w) d (dmF (ps.take i)):=qQ5 hd (fun o e=>(sb.2 d di).trans e) fun b o e c=>kp1 b o e (.inl c)
  have tp':IsTup h' ts[i] #[.ref ps[i].2.1,ps[i].2.2]:=a'.at_ i _ _ (lJp hlt2) hpi
  have hl':(dmF (ps.take i)).length<=sizeLine:=by have:=kK4 (ps:=ps) i;omega
  refine lJa (lKx (lJa (wpAny_tryCatch (qQ7 (s:={s with heap:=h'}) tp' (lKx (wpAny_dictSet_heap (s:={s with heap:=h'}) (hsz:=hl') (knd:=jJn prog w) hu (a'.key _ (lV4 hlt)) hd' (fun h2 hd2 sb2=> ?_)))))))
  rw[<-kYn hpi] at hd2
  have dne:∀b o,h'.get? b=some o->o.cls= .type "tuple"->b≠d:=fun b o ho hc=>by
   rintro rfl
   obtain⟨o',_,_,ho',hc',_⟩:=hd'
   rw[ho'] at ho;cases ho
   rw[hc'.1] at hc
   exact absurd hc (by decide)
  refine lJd ⟨lQl jQz _,ih (i+1) _ _ _ (by omega) hlt (a'.moved fun b o e z=>(sb2.2 b (z.elim (fun hc=>dne b o e hc) fun q=>by rw[q];exact dl.symm)).trans e) (hit'.at fun o e=>(sb2.2 it di.symm).trans e) hd2 fun h3 t3 hd3 kp3=>hR h3 t3 hd3 fun b o c1 c2 e=>kp3 b o c1 c2 ((sb2.2 b c1).trans ((sb.2 b c2).trans e))⟩
theorem uJm {l:Addr} {ts:List Addr} {ps:List (TKey×Addr×Value)} {c:Nat} (hu:A.units+20<cLine) (hh:A.handled=none) (hl:s.heap.get? l=some {cls:= .type "list",dict:=none,data:= .seq (ts.map Value.ref).toArray c,slots:= #[]}) (a:DmAt prog w s.heap l ts ps) (hs:ps.length<=sizeLine) {Q:Value->Shared->Prop}
  (k:∀h' t',h'.DictOfH (jJn prog w) s.heap.objs.size (dmF ps)->(∀b o,s.heap.get? b=some o->h'.get? b=some o)->Q (.ref s.heap.objs.size) {s with heap:=h',toks:=t'}):
  wpAny (model prog w) A (call (.type "dict") [.ref l]) Q E s:=by
 refine callType_codes (Q₁:=fun obj s₁=>obj= .ref s.heap.objs.size/\s₁={s with heap:=s.heap.push {cls:= .type "dict",data:= .dict #[]} }) PySem.F.kt_called_dict (lZd _) PySem.F.entry_dict_init (kt_code_dict_new _ ⟨rfl,rfl⟩) ?_
 rintro obj s₁ ⟨rfl,rfl⟩
 have hn:(s.heap.push {cls:= .type "dict",data:= .dict #[]}).get? s.heap.objs.size=some {cls:= .type "dict",data:= .dict #[]}:=lJ0 _ rfl
 have hTn:Shared.TypeIs {s with heap:=s.heap.push {cls:= .type "dict",data:= .dict #[]} } (.ref s.heap.objs.size) "dict":=⟨_,hn,rfl⟩
 refine⟨hTn,lZe _ _,?_⟩
 (unfold Builtin.«dict.__init__»)
 refine lJa ?_
 (unfold Builtin.Dict.selfAndRest)
 refine lJa (lYi hTn ?_)
 refine (show wpAny _ _ (pure (s.heap.objs.size,[Value.ref l])) _ _ _ from ?_)
 refine lJd ?_
 refine (show wpAny _ _ (Builtin.Dict.updateFrom "dict.__init__" s.heap.objs.size (.ref l) [] .none) _ _ _ from ?_)
 (unfold Builtin.Dict.updateFrom)
 have up:∀b o,s.heap.get? b=some o->(s.heap.push {cls:= .type "dict",data:= .dict #[]}).get? b=some o:=fun b o e=>lJk _ e
 have hl0:=up _ _ hl
 have hTl:Shared.TypeIs {s with heap:=s.heap.push {cls:= .type "dict",data:= .dict #[]} } (.ref l) "list":=⟨_,hl0,rfl⟩
 refine lJa (lQw hTl ?_)
 rw[lJc (by decide)]
 refine lJa (kQ5 (s:={s with heap:=s.heap.push {cls:= .type "dict",data:= .dict #[]} }) (by simpa using hh) hl0 fun g tk kp=> ?_)
 simp only[Option.isNone_none,lKh]
 refine lJa (lQd ?_)
 have kp':∀b o,s.heap.get? b=some o->g.get? b=some o:=fun b o e=>kp b o (up b o e)
 have a1:DmAt prog w g l ts ps:=a.moved fun b o e _=>kp' b o e
 refine lJa (lYf (s:={s with heap:=g,toks:=tk}) a1.li ?_)
 have hgn:=kp _ _ hn
 have gd:s.heap.objs.size<g.objs.size:=lJi hgn
 have ll:l<s.heap.objs.size:=lJi hl
 refine lJd ⟨lQl jQz _,uJl (A:=A.in1) (ts:=ts) (ps:=ps) (l:=l) (show A.in1.in1.units+6<cLine by rw[lQ2,lQ2];omega) (by simpa using hh) (lK7 ll) (lJm gd) (lJm (lQ6 ll gd)) hs ps.length 0 _ _ _ (by omega) (lJz _) (a1.moved fun b o e _=>lJk _ e) ⟨_,lJ0 _ rfl,rfl,rfl⟩ ?_ fun h4 t4 hd4 kp4=>⟨rfl,k h4 t4 hd4 fun b o e=>kp4 b o (lJm (lJi e)) (lJm (lQ6 (lJi e) gd)) (lJk _ (kp' b o e))⟩⟩
 exact⟨_,#[],0,lJk _ hgn,⟨rfl,rfl,rfl⟩,rfl,rfl,fun x hx=>absurd hx lKt,lVl⟩
end
structure ZZ where
 e:List T
 k:TKey
 x:T
 t:Addr
 a:Addr
 v:V
 u:Value
structure ZOk (X:Cx) (H:Hp) (s:Shared) (z:ZZ):Prop where
 ke:TKeyAt H z.k z.a
 re:Rep X.K H z.x z.v
 rv:RelV z.v z.u
 tp:IsTup s.heap z.t #[.ref z.a,z.u]
theorem zz_of {X:Cx} {pins:List (Addr×Obj)} {σ:L2.St} {H:Hp} {s:Shared} (I:Inv X pins σ H s):∀ {kys:List (List T×TKey×T)} {vs:List V},(∀e,e∈kys->jQy e.1=some e.2.1)->Reps X.K H (kys.map fun e=>T.tup [.tup e.1,e.2.2]) vs->
  ∃zs:List ZZ,kys=zs.map (fun z=>(z.e,z.k,z.x))/\vs=zs.map (fun z=>V.ref z.t)/\∀z,z∈zs->ZOk X H s z
 | [],_,_,h=>by cases h;exact⟨[],rfl,rfl,fun z hz=>absurd hz lKt⟩
 | e::kys,_,hk,⟨v,ws,ev,r,rs⟩=>by
  subst ev
  obtain⟨a,us,e1,h1,h2⟩:=(show ∃a us,v= .ref a/\H a=some (.tup us)/\Reps X.K H [.tup e.1,e.2.2] us from r)
  subst e1
  obtain⟨x,y,rfl,r1,r2⟩:=kY6 h2
  obtain⟨b,ys,e2,h3,h4⟩:=(show ∃a us,x= .ref a/\H a=some (.tup us)/\Reps X.K H e.1 us from r1)
  subst e2
  obtain⟨zs,z1,z2,z3⟩:=zz_of I (fun e he=>hk e (lJ1 _ he)) rs
  obtain⟨its,rr,tp,_⟩:=I.tuple (.of h1)
  obtain⟨u,u2,rfl,ru,rv⟩:=rr.two
  cases (show u=Value.ref b from ru)
  refine⟨⟨e.1,e.2.1,e.2.2,a,b,y,u2⟩::zs,by rw[z1];rfl,by rw[z2];rfl,fun z hz=> ?_⟩
  rcases (lJr.mp hz) with rfl | hz
  ·exact⟨jUd (hk e (lJx ..)) h3 h4,r2,rv,tp⟩
  ·exact z3 z hz
theorem zz_kt {X:Cx} {H:Hp} {s:Shared}:∀ {zs:List ZZ} {ws:List (TKey×V)} {xs:List (TKey×Addr×Value)},(∀z,z∈zs->ZOk X H s z)->KT H ws xs->KT H (zs.foldl (fun ws z=>putK ws z.k z.v) ws) ((zs.map fun z=>(z.k,z.a,z.u)).foldl (fun xs p=>storedH xs p.1 p.2.1 p.2.2) xs)
 | [],_,_,_,r=>r
 | z::zs,ws,xs,h,r=>by
  have hz:=h z (lJx ..)
  exact zz_kt (zs:=zs) (fun y hy=>h y (lJ1 _ hy)) (r.put z.k hz.ke hz.rv)
theorem qXu {X:Cx} {H:Hp} {s:Shared}:∀ {zs:List ZZ} {kvs:List (TKey×T)} {ws:List (TKey×V)},(∀z,z∈zs->ZOk X H s z)->PKV X.K H kvs ws->PKV X.K H ((zs.map fun z=>(z.e,z.k,z.x)).foldl (fun kvs e=>putT kvs e.2.1 e.2.2) kvs) (zs.foldl (fun ws z=>putK ws z.k z.v) ws)
 | [],_,_,_,r=>r
 | z::zs,kvs,ws,h,r=>by
  have hz:=h z (lJx ..)
  exact qXu (zs:=zs) (fun y hy=>h y (lJ1 _ hy)) (PKV.put r z.k hz.re)
section
variable {X:Cx}
noncomputable def qX2:List T->Gp->VK3->Prop:=fun vs G1 Q=>∃(p:Addr) (kys:List (List T×TKey×T)),vs=[.ref p]/\G1 p=some (.lst (kys.map fun e=> .tup [.tup e.1,e.2.2]))/\(∀e,e∈kys->jQy e.1=some e.2.1)/\kys.length<=1000/\∀q,G1 q=none->Q (.ref q) (gup G1 q (.dct (kys.foldl (fun kvs e=>putT kvs e.2.1 e.2.2) [])))
theorem uJx (hc:X.calm=true) (hu:X.A.units+20<cLine):Call3 X (.type "dict") qX2:=by
 rintro pins s τ G H xs us Q ⟨σ,I,hs,hg⟩ ⟨as,ras,rvs⟩ ⟨p,kys,ex,hp,hk,hl,q⟩
 subst ex
 obtain⟨v,rfl,rv⟩:=jQ8 ras
 obtain⟨u,rfl,ru⟩:=rvs.one
 cases (show v= .ref p from rv)
 cases ru
 obtain⟨vs,h1,h2⟩:=hg.lst hp
 obtain⟨zs,z1,rfl,z3⟩:=zz_of I hk h2
 obtain⟨hz,its,n,r,hlen,e⟩:=I.lstM h1
 have ei:=jY5 (ts:=zs.map (·.t)) (us:=its) (by rw[lJy];exact r)
 subst ei
 have lk:kys.length=zs.length:=by rw[z1,lJf]
 have big:=I.big
 have hsl:=lKy
 refine uJm (s:=s) (ts:=zs.map (·.t)) (ps:=zs.map fun z=>(z.k,z.a,z.u)) hu (I.ok.hd hc) e ⟨⟨_,e,rfl,_,rfl⟩,by rw[lJf,lJf],fun i t p e1 e2=> ?_,fun p hp=> ?_⟩ (by rw[lJf];omega) fun h' t' dd kp=> ?_
 ·rw[lKj] at e1 e2
  cases e3:zs[i]? with
  | none=>rw[e3] at e1;cases e1
  | some z=>rw[e3] at e1 e2;cases e1;cases e2;exact (z3 z (lJu e3)).tp
 ·obtain⟨z,hz',rfl⟩:=lJl.mp hp
  exact jYl I.hok (z3 z hz').ke
 ·have fr:=I.hok.fresh (lJg s.heap.objs.size)
  have kt:=zz_kt (ws:=[]) (xs:=[]) z3 .nil
  generalize hws:zs.foldl (fun ws z=>putK ws z.k z.v) []=ws at kt
  have ext:Ext H (upd H s.heap.objs.size (.dT ws)):= .upd (.none fr)
  obtain⟨o',es,ep,d1,d2,d3,d4,d5,d6⟩:=dd
  have hwl:ws.length<=sizeLine:=by
   have l1:=lQn kt
   have l2:=kK4 (ps:=zs.map fun z=>(z.k,z.a,z.u)) (zs.map fun z=>(z.k,z.a,z.u)).length
   rw[lQq] at l2
   unfold dmF at l2
   rw[lJf] at l2
   omega
  have I3:=I.laid (a:=s.heap.objs.size) (o:= .dT ws) (h':=h') (t':=t') kp (lJg _) ⟨hwl,by simpa using (lK7 big),_,Paired.mapP kt fun p q z=>⟨z.1,z.2.1.mono fun b ys e=>ext.tup _ _ e,z.2.2⟩,o',es,ep,d1,d2,d3,d4,d6⟩
  have pk:=qXu (kvs:=[]) (ws:=[]) z3 .nil
  rw[<-z1,hws] at pk
  exact⟨.ref _,_,_,ext,⟨σ,I3,hs.mono ext,hg.upd (.none fr) (go:= .dct _) ⟨ws,jKb,pk.mono ext⟩⟩,⟨.ref _,rfl,rfl⟩,q _ (hg.fresh fr)⟩
end
end L3
namespace L3
open PySem PySem.Spec PyProof.Rows L2 PySem.W
section
variable {X:Cx}
noncomputable def qJ7:List T->Gp->VK3->Prop:=fun xs G Q=>∃(p:Addr) (kvs:List (TKey×T)),xs=[.ref p]/\(G p=some (.dct kvs)\/G p=some (.fdc kvs))/\(∀e,e∈kvs->kUk e.1)/\∀q,G q=none->Q (.ref q) (gup G q (.dct kvs))
theorem uJw:Call3 X (.type "dict") qJ7:=by
 rintro pins s τ G H xs us Q ⟨σ,I,hs,hg⟩ ⟨as,ras,rvs⟩ ⟨pa,kvs,ex,hp,hk,q⟩
 subst ex
 obtain⟨v,rfl,rv⟩:=jQ8 ras
 obtain⟨u,rfl,ru⟩:=rvs.one
 cases (show v= .ref pa from rv);cases ru
 obtain⟨ws,h2,ok⟩:∃ws,PKV X.K H kvs ws/\ObjOk X.prog X.w H s.heap pa (.dT ws):=by
  rcases hp with hp | hp
  ·obtain⟨ws,h1,h2⟩:=(show ∃ws,H pa=some (.dT ws)/\PKV X.K H kvs ws from hg pa _ hp)
   exact⟨ws,h2,I.hok pa _ h1⟩
  ·obtain⟨ob,ws,h1,h2⟩:=(show ∃ob ws,H pa=some (.frz ob (.dT ws))/\PKV X.K H kvs ws from hg pa _ hp)
   exact⟨ws,h2,(I.hok pa _ h1).2⟩
 obtain⟨z,hd,xs,rel,o,es,ep,ho,hc,hx,he,hn⟩:=ok
 have l1:es.size=xs.length:=by have a1:=lJ8 List.length he;simpa using a1
 have l2:=lQn rel
 have small:∀x,x∈xs->kUk x.1/\TKeyAt H x.1 x.2.1:=fun x hx=>by
  obtain⟨i,hi⟩:=lKa hx
  have hiw:i<ws.length:=by have:=(lJj.mp hi).1;omega
  obtain⟨y,k1,k2,k3,_⟩:=jQ9 rel (lJp hiw)
  rw[hi] at k1;cases k1
  have hik:i<kvs.length:=by have:=h2.length;omega
  obtain⟨w',m1,m2,_⟩:=jQ9 h2 (lJp hik)
  rw[lJp hiw] at m1;cases m1
  rw[<-k2,<-m2]
  exact⟨hk _ (lV4 hik),by rw[m2];exact k3⟩
 have xn:xs.Nodup:=List.Pairwise.of_map _ (fun a b hab=>fun z=>hab (by rw[z])) hn
 have xi:∀a,a∈xs->∀b,b∈xs->(jJn X.prog X.w).hash a.1=(jJn X.prog X.w).hash b.1->a=b:=fun a ha b hb e=>by
  have ek:=qJo (small a ha).1 (small b hb).1 e
  obtain⟨i,hi⟩:=lKa ha
  (obtain⟨j,hj⟩:=lKa hb)
  have hil:=(lJj.mp hi).1
  have:=(lY1 (by simpa using hil) hn).mp (show (xs.map (·.1))[i]? =(xs.map (·.1))[j]? by rw[lKj,lKj,hi,hj];simp[ek])
  subst this
  rw[hi] at hj;exact lJ2 hj
 refine kZw hd ho hc hx (by omega) (fun e hee=> ?_) fun h' o' ep' hn' hc' hx' kp=> ?_
 ·rw[he] at hee
  obtain⟨x,hxm,rfl⟩:=lJl.mp hee
  obtain⟨vs,r1,r2⟩:=(small x hxm).2
  refine⟨?_,x.2.1,rfl,?_⟩
  ·have:=kXs (g:=entryOfKey (jJn X.prog X.w)) (fun a=>rfl) xi xn x hxm
   rw[<-he] at this
   have e2:(es.filter fun e'=>e'.hash == (entryOfKey (jJn X.prog X.w) x).hash).size=(es.toList.filter fun e'=>e'.hash == (entryOfKey (jJn X.prog X.w) x).hash).length:=by
    rw[<-lKg,Array.toList_filter]
   rw[e2];exact this
  ·obtain⟨_,its,_,ot,hot,hct,_⟩:=(show ObjOk X.prog X.w H s.heap x.2.1 (.tup vs) from I.hok _ _ r1)
   exact⟨ot,hot,hct⟩
 have fr:=I.hok.fresh (lJg s.heap.objs.size)
 have ext:Ext H (upd H s.heap.objs.size (.dT ws)):= .upd (.none fr)
 have big:=I.big
 have I3:=I.laid (a:=s.heap.objs.size) (o:= .dT ws) (h':=h') (t':=s.toks) kp (lJg _) ⟨z,by simpa using (lK7 big),xs,Paired.mapP rel fun p q z=>⟨z.1,z.2.1.mono fun b ys e=>ext.tup _ _ e,z.2.2⟩,o',es,ep',hn',hc',hx',he,hn⟩
 exact⟨.ref _,_,_,ext,⟨σ,I3,hs.mono ext,hg.upd (.none fr) (go:= .dct kvs) ⟨ws,jKb,h2.mono ext⟩⟩,⟨.ref _,rfl,rfl⟩,q _ (hg.fresh fr)⟩
end
end L3
namespace W
open PySem L3
local macro_rules
 | `(tactic| wp_walk using 1, $ts,*) => do
  let ls ← ts.getElems.mapM fun t => `(Lean.Parser.Tactic.simpLemma| $t:term)
  let ns ← ("tSeq tIfS jJy tOp rGt rLt rGe rSub L3.rI0 L3.rI rIxF tVar tC tAsg tCB jJc tNil qY9 rLen rAbs rMax rIntOf gTup jKg gNil gSub jJg kJi tRet tRetN jKr jUh jJr tLst tTup tIf tNot tAnd tOr jY6 tOrV qUs tPar jK1 jX9 rMod qY8 rPow rIsN kJj kJl tTru rTru truT tUn rNeg qXl qVq qVs qVr uJc uJd qZ0 qZ1 at0 at1 at2 ix30 ix31 ix32 qU4 qU2 qZ2 qU5 Option.map_some and_assoc T.int.injEq T.bl.injEq T.tup.injEq T.ref.injEq List.cons.injEq and_true true_and exists_eq_left exists_eq_left' exists_and_left exists_eq_right List.getElem?_cons_zero List.getElem?_cons_succ List.set_cons_zero List.set_cons_succ List.length_cons List.length_nil Nat.reduceAdd Option.some.injEq jJe qQh reduceCtorEq false_and exists_false exists_const Bool.true_eq Bool.not_eq_true' Bool.not_true Bool.not_false if_true if_false decide_eq_true_eq tBM jKq qY5 jK2 qUt jQg GO.lst.injEq msk List.zipWith_cons_cons List.zipWith_nil_left List.zipWith_nil_right Bool.false_eq_true qYq".splitOn " ").toArray.mapM fun n => `(Lean.Parser.Tactic.simpLemma| $(Lean.mkIdent n.toName):term)
  let al:=ns++ls
  `(tactic| ((try dsimp only [$al,*]); (try simp only [$al,*])))
local macro_rules
 | `(tactic| omega) => `(tactic| first | exact szle rfl | lia)
def BoxAt (G:Gp) (b:Addr) (n:Nat):Prop:=∃x y z:Int,G b=some (.lst [.int x,.int y,.int z])/\0<=x/\0<=y/\y<2147483648/\0<=z/\z<=n
def Keep (b:Addr) (G G':Gp):Prop:=∀c o,c≠b->G c=some o->G' c=some o
theorem Keep.trans {b:Addr} {G G1 G2:Gp} (h:Keep b G G1) (h':Keep b G1 G2):Keep b G G2:=fun c o hc e=>h' c o hc (h c o hc e)
theorem Keep.gup {b:Addr} {G:Gp} {o:GO}:Keep b G (gup G b o):=fun c u hc e=>by rw[jJo hc];exact e
theorem Keep.new {b p:Addr} {G:Gp} {o:GO} (hp:G p=none):Keep b G (L3.gup G p o):=fun c u _ e=>by rw[jJo];exact e;rintro rfl;rw[hp] at e;cases e
abbrev jQf (ns:List Int):List T:=ns.map T.int
theorem sz:sizeLine=16777216:=PySem.sizeLine_eq
abbrev Web:=List (List (Nat×Nat))
def encE (e:Nat×Nat):T:= .tup [.int e.1,.int e.2]
def encR (r:List (Nat×Nat)):T:= .tup (r.map encE)
def encW (W:Web):T:= .tup (W.map encR)
def en (W:Web) (r i:Nat):Option (Nat×Nat):=(W[r]?).bind fun es=>es[i]?
def Sym (W:Web):Prop:=∀r i s j,en W r i=some (s,j)->en W s j=some (r,i)
def sw:Nat->Nat
 | 0=>1
 | 1=>0
 | n=>n
def keyE (e:Nat×Nat):L2.TKey:=[.inl (.inl (e.1:Int)),.inl (.inl (e.2:Int))]
theorem kX8 {a b:Nat×Nat} (h:keyE a=keyE b):a=b:=by
 obtain⟨a1,a2⟩:=a;obtain⟨b1,b2⟩:=b
 simp only[keyE,lX5,Sum.inl.injEq,and_true] at h
 obtain⟨h1,h2⟩:=h
 rw[Int.ofNat.inj h1,Int.ofNat.inj h2]
theorem qVf {κ:Type} [DecidableEq κ] (kvs:List (κ×T)) (k:κ) (v:T):(putT kvs k v).length<=kvs.length+1:=by
 unfold putT;split<;>simp
theorem kXi {G:Gp} {p:Addr} {kvs:List (L2.TKey×T)} {ys:List T} {ks:L2.TKey} {v:T} (h:G p=some (.dct kvs)) (hk:jQy ys=some ks) (hz:kvs.length<sizeLine):setR G (.ref p) (.tup ys) v=some (gup G p (.dct (putT kvs ks v))):=by
 simp only[setR,h,hk,hz,lKh]
theorem jV7 {W:Web} {r i:Nat} {e:Nat×Nat} (h:en W r i=some e):∃es,W[r]? =some es/\es[i]? =some e:=by
 unfold en at h
 cases e1:W[r]? with
 | none=>rw[e1] at h;cases h
 | some es=>rw[e1] at h;exact⟨es,rfl,h⟩
theorem kQ4 {W:Web} {r i:Nat} {es:List (Nat×Nat)} {e:Nat×Nat} (h1:W[r]? =some es) (h2:es[i]? =some e):en W r i=some e:=by unfold en;rw[h1];exact h2
open Classical in
def oth (Hs:Web) (e:Nat×Nat):Nat×Nat:=if h:∃p:Nat×Nat,en Hs p.1 p.2=some (e.1,sw e.2) then h.choose else (0,0)
theorem qU6 {n i:Nat} {x:T} (h:(rngT 0 n)[i]? =some x):i<n/\x= .int i:=by
 unfold rngT at h
 rw[lKj] at h
 have hi:i<n:=by
  rcases lQm i n with z | z
  ·exact z
  ·rw[lKo (by simpa using z)] at h;cases h
 simp[hi] at h
 exact⟨hi,h.symm⟩
theorem jXg {n:Nat}:(rngT 0 n).length=n:=by simp[rngT]
theorem BoxAt.mono {G:Gp} {b:Addr} {n m:Nat} (h:BoxAt G b n) (hm:n<=m):BoxAt G b m:=by
 obtain⟨x,y,z,h1,h2,h3,h4,h5,h6⟩:=h
 exact⟨x,y,z,h1,h2,h3,h4,h5,by omega⟩
theorem BoxAt.sub {G G':Gp} {b:Addr} {n:Nat} (h:BoxAt G b n) (s:Sub G G'):BoxAt G' b n:=by
 obtain⟨x,y,z,h1,h2,h3,h4,h5,h6⟩:=h
 exact⟨x,y,z,s _ _ h1,h2,h3,h4,h5,h6⟩
theorem BoxAt.gup {G:Gp} {b p:Addr} {n:Nat} {o:GO} (h:BoxAt G b n) (hp:b≠p):BoxAt (gup G p o) b n:=by
 obtain⟨x,y,z,h1,h2,h3,h4,h5,h6⟩:=h
 exact⟨x,y,z,by rw[jJo hp];exact h1,h2,h3,h4,h5,h6⟩
theorem Keep.sub {b:Addr} {G G':Gp} (h:Sub G G'):Keep b G G':=fun c o _ e=>h c o e
def hv (n t:Nat) (p:Nat×Nat):List (Nat×Nat×Nat):=if p.2=n then [(p.1,t,2)] else [(p.1,t,0),(p.2,t,1)]
theorem qVn {xs:List T}:(numT xs).length=xs.length:=by simp[numT]
theorem jVg {n:Nat}:rngT 0 n=(List.range n).map fun (k:Nat)=>T.int k:=by simp[rngT]
theorem jU6 {lo n:Nat}:rngT lo n=(List.range n).map fun (k:Nat)=>T.int ((lo+k:Nat):Int):=by simp[rngT]
theorem qQr {es:List Nat}:(es.map fun e=>T.int (e:Nat)).all kJo=true:=by
 rw[List.all_map,lKp];intros;rfl
theorem jX1 {α:Type} {f:α->Bool}:∀ {es:List α},kV8 (es.map fun e=>T.bl (f e))=some (es.all f)
 | []=>rfl
 | e::es=>by rw[lJq,kV8,jX1,lVy]
def Conn (W:Web):Prop:=∀S:Nat->Prop,S 0->(∀r i s j,S r->en W r i=some (s,j)->S s)->∀r,r<W.length->S r
theorem qQ2 {W:Web} {r i:Nat} {e:Nat×Nat} (h:en W r i=some e):r<W.length:=by
 obtain⟨es,h1,h2⟩:=jV7 h
 exact (lJj.mp h1).1
structure Fine (W:Web):Prop where
 len:W.length<=1000
 row:∀(r:Nat) (es:List (Nat×Nat)),W[r]? =some es->es.length<=1000
 rng:∀r i s j,en W r i=some (s,j)->s<W.length
theorem jV6 {W:Web} {r:Nat} {es:List (Nat×Nat)} (h:W[r]? =some es):L2.atI (W.map encR) (r:Int)=some (encR es):=by rw[atN];simp[h]
theorem kK2 {es:List (Nat×Nat)} {i:Nat} {e:Nat×Nat} (h:es[i]? =some e):L2.atI (es.map encE) (i:Int)=some (encE e):=by rw[atN];simp[h]
theorem jU5 {n k:Nat} {x:T} (h:(rngT 0 n)[k]? =some x):k<n/\x= .int (k:Nat):=qU6 h
def jJk (F:List Nat):List T:=F.map fun e=>T.int (e:Nat)
theorem qV3 {F:List Nat} {r:Nat}:inT (.int r) (jJk F)=F.contains r:=by
 unfold inT jJk
 rw[List.any_map,List.contains_eq_any_beq]
 congr 1
 funext e
 simp only[Function.comp,eqT]
 by_cases h:e=r
 ·subst h;simp
 ·have h2:¬ (e:Int)=r:=by omega
  have h3:¬ r=e:=fun z=>h z.symm
  rw[beq_eq_false_iff_ne.mpr h3,beq_eq_false_iff_ne.mpr h2]
theorem kYc {G:Gp} {p:Addr} {F:List Nat} {r:Nat} (h:G p=some (.lst (jJk F))):inR G (.int r) (.ref p)=some (F.contains r):=by
 unfold inR
 rw[jJi h]
 show (if _ then _ else _)=_
 rw[lJc ⟨rfl,qQr⟩,qV3]
theorem jK3:∀ {n:Nat} {F:List Nat} (hn:F.Nodup) (hl:∀x,x∈F->x<n),F.length<=n
 | 0,F,hn,hl=>by
  cases F with
  | nil=>exact lJg _
  | cons a as=>exact absurd (hl a (lJx)) (lK5 _)
 | n+1,F,hn,hl=>by
  have h1:=jK3 (n:=n) (hn.erase n) (fun x hx=>by
   rw[hn.mem_erase_iff] at hx
   have:=hl x hx.2;omega)
  by_cases h:n∈F
  ·rw[List.length_erase_of_mem h] at h1;omega
  ·rw[List.erase_of_not_mem h] at h1;omega
theorem kQs {F:List Nat} {n:Nat} (hn:F.Nodup) (hl:∀x,x∈F->x<n) (he:F.length=n):∀r,r<n->r∈F:=by
 intro r hr
 apply lVv
 intro hm
 have:(r::F).length<=n:=jK3 (lK2.mpr ⟨hm,hn⟩) (fun x hx=>by rw[lJr] at hx;rcases hx with rfl | hx;exact hr;exact hl x hx)
 simp at this;omega
def Closed (W:Web) (S:Nat->Prop):Prop:=∀r i s j,S r->en W r i=some (s,j)->S s
structure Found (W:Web) (r0:Nat) (F:List Nat):Prop where
 nd:F.Nodup
 lt:∀x,x∈F->x<W.length
 got:∀S,S r0->Closed W S->∀x,x∈F->S x
def vis (F:List Nat) (es:List (Nat×Nat)):List Nat:=es.foldl (fun F e=>if F.contains e.1=true then F else F++[e.1]) F
def row (W:Web) (r:Nat):List (Nat×Nat):=(W[r]?).getD []
theorem jXf {W:Web} {r:Nat} {es:List (Nat×Nat)} (h:W[r]? =some es):row W r=es:=by unfold row;rw[h];rfl
theorem kJ9 {F:List Nat} {es:List (Nat×Nat)} {j:Nat} {e:Nat×Nat} (h:es[j]? =some e):vis F (es.take (j+1))=if (vis F (es.take j)).contains e.1=true then vis F (es.take j) else vis F (es.take j)++[e.1]:=by
 unfold vis
 rw[lQi,h,lY0];rfl
def bfsN (W:Web):Nat->Nat->List Nat->List Nat
 | 0,_,F=>F
 | n+1,k,F=>match F[k]? with
  | some r=>bfsN W n (k+1) (vis F (row W r))
  | none=>F
def bfs (W:Web) (r:Nat):List Nat:=bfsN W W.length 0 [r]
theorem jZ6 {W:Web} {n k:Nat} {F:List Nat} (h:F.length<=k):bfsN W n k F=F:=by
 cases n with
 | zero=>rfl
 | succ n=>rw[bfsN,lKo h]
theorem jXy {W:Web} {n k r:Nat} {F:List Nat} (h:F[k]? =some r):bfsN W (n+1) k F=bfsN W n (k+1) (vis F (row W r)):=by rw[bfsN,h]
def cl (M:List (List T)) (x i:Nat):Option T:=(M[x]?).bind fun ts=>ts[i]?
def put (M:List (List T)) (x i:Nat) (v:T):List (List T):=match M[x]? with
 | some ts=>M.set x (ts.set i v)
 | none=>M
theorem Found.conn {V:Web} {F:List Nat} (h:Found V 0 F) (hl:F.length=V.length):Conn V:=fun S h0 hst r hr=>h.got S h0 hst r (kQs h.nd h.lt hl r hr)
theorem uJg {G:Gp} {e f:Nat×Nat}:eqG G (encE e) (encE f)=some (decide (e=f)):=by
 obtain⟨a,b⟩:=e;obtain⟨c,d⟩:=f
 rw[show eqG G (encE (a,b)) (encE (c,d))=some (eqT (encE (a,b)) (encE (c,d))) from rfl]
 congr 1
 simp only[encE,eqT,eqTs,Bool.and_true]
 by_cases h1:a=c
 ·by_cases h2:b=d
  ·simp[h1,h2]
  ·have:¬ (b:Int)=d:=by omega
   simp[h1,h2,this]
 ·have:¬ (a:Int)=c:=by omega
  simp[h1,this]
theorem kV0 {G:Gp} {a c:Nat}:eqG G (.int a) (.int c)=some (decide (a=c)):=by
 rw[show eqG G (.int a) (.int c)=some (eqT (.int a) (.int c)) from rfl]
 congr 1
 simp only[eqT]
 by_cases h1:a=c
 ·simp[h1]
 ·have:¬ (a:Int)=c:=by omega
  simp[h1,this]
structure AnyWeb (W:Web):Prop where
 pos:1<=W.length
 len:W.length<=24
 sym:Sym W
 deg:∀(r:Nat) (es:List (Nat×Nat)),W[r]? =some es->es.length<=6
 conn:Conn W
theorem AnyWeb.fine {W:Web} (h:AnyWeb W):Fine W:=⟨by have:=h.len;omega,fun r es hr=>by have:=h.deg r es hr;omega,fun r i s j he=>qQ2 (h.sym _ _ _ _ he)⟩
abbrev RdOk (sp:Sp3) (rd:TS3) (N:List Str):Prop:=∀xs G Q,sp xs G Q->rd {nx:=fun _ G'=>Q .non G',rt:=Q} (jQ3 N xs) G
noncomputable def jQ5:Sp3:=fun xs G Q=>∃(b:Addr) (m:Int) (n:Nat),xs=[.ref b,.int m]/\BoxAt G b n/\n<2^40/\1<=m/\m<2^29/\∀(r:Int) G',0<=r->r<m->BoxAt G' b (n+1)->Keep b G G'->Q (.int r) G'
def qXp:List Str:=["_law_box_here","_law_many","_law_found","_law_once"]
noncomputable def jZk:TS3:=
 (tSeq (tIfS (jJy (tOp rGt (tOp rIxF (tVar 0) (tC (.int 0))) (tC (.int 0)))) (tSeq (tAsg (tOp rMod (tOp rIxF (tVar 0) (tC (.int 0))) (tVar 1)) (jJg 2))
 (tSeq (tAsg (tOp qY8 (tOp rIxF (tVar 0) (tC (.int 0))) (tVar 1)) (gSub (tVar 0) (tC (.int 0)) kJi))
 (tRet (tVar 2)))) jKr)
 (tSeq (tAsg (tOp jK1 (tOp rIxF (tVar 0) (tC (.int 2))) (tC (.int 1))) (gSub (tVar 0) (tC (.int 2)) kJi))
 (tSeq (tAsg (tOp rMod (tOp jX9 (tOp jK1 (tOp rIxF (tVar 0) (tC (.int 1))) (tOp jX9 (tC (.int 39373)) (tOp rIxF (tVar 0) (tC (.int 2))))) (tOp jK1 (tC (.int 48271)) (tOp rIxF (tVar 0) (tC (.int 2))))) (tC (.int 2147483647))) (jJg 3))
 (tSeq (tAsg (tOp rMod (tOp jK1 (tOp jX9 (tVar 3) (tOp jK1 (tOp rMod (tVar 3) (tC (.int 40009))) (tC (.int 7)))) (tOp rIxF (tVar 0) (tC (.int 2)))) (tC (.int 2147483629))) (gSub (tVar 0) (tC (.int 1)) kJi))
 (tRet (tOp rMod (tOp qY8 (tOp rMod (tOp jX9 (tOp rIxF (tVar 0) (tC (.int 1))) (tOp jK1 (tOp rMod (tOp rIxF (tVar 0) (tC (.int 1))) (tC (.int 1009))) (tC (.int 3)))) (tC (.int 998244353))) (tC (.int 7))) (tVar 1)))))))
theorem kU8:RdOk jQ5 jZk qXp:=by
 intro xs G Q h_;apply xe3 h_;clear h_;intro b m n h_;apply ae5 h_;clear h_;intro q0_ hn hm1 hm2 k
 obtain⟨x,y,z,hb,hx,hy0,hy1,hz0,hz1⟩:=q0_
 show jZk _ [some (.ref b),some (.int m),none,none] G
 wp_walk using 1,jZk,jUt hb,qXy hb
 have box:∀x' y' z':Int,0<=x'->0<=y'->y'<2147483648->0<=z'->z'<=n+1->BoxAt (gup G b (.lst [.int x',.int y',.int z'])) b (n+1):=fun x' y' z' h1 h2 h3 h4 h5=>⟨x',y',z',jJe,h1,h2,h3,h4,by omega⟩
 split
 ·exact⟨by omega,⟨by omega,by omega⟩,k _ _ (lV2 _ (by omega)) (lV3 _ (by omega)) (box _ _ _ (Int.ediv_nonneg hx (by omega)) hy0 hy1 hz0 (by omega)) .gup⟩
 ·have a0:=lV2 ((y+39373*(z+1))*(48271+(z+1))) (b:=2147483647) (by decide)
  have a1:=lV3 ((y+39373*(z+1))*(48271+(z+1))) (b:=2147483647) (by decide)
  refine⟨.inl (by decide),.inr ⟨by omega,by omega⟩,by decide,by decide,?_⟩
  generalize (y+39373*(z+1))*(48271+(z+1))%2147483647=u at a0 a1 ⊢
  have b0:=lV2 (u*(u%40009+7)+(z+1)) (b:=2147483629) (by decide)
  have b1:=lV3 (u*(u%40009+7)+(z+1)) (b:=2147483629) (by decide)
  refine⟨.inl ⟨by omega,by omega⟩,by decide,by decide,?_⟩
  generalize (u*(u%40009+7)+(z+1))%2147483629=v at b0 b1 ⊢
  refine⟨.inl ⟨by omega,by omega⟩,by decide,⟨by decide,by decide⟩,by omega,?_⟩
  exact k _ _ (lV2 _ (by omega)) (lV3 _ (by omega)) (box _ _ _ hx b0 (by omega) (by omega) (by omega)) .gup
def absZ (v:Int):Int:=if v<0 then -v else v
def boxT (v k:Int):List T:=[.int (if 10^18<=absZ v then absZ v else 0),.int ((v%2147483647+7919*k+11)*48271%2147483629),.int 0]
theorem uJ0 {G:Gp} {b:Addr} {v k:Int} (h:G b=some (.lst (boxT v k))):BoxAt G b 0:=by
 refine⟨_,_,_,h,by unfold absZ;split<;>split<;>omega,lV2 _ (by decide),?_,Int.le_refl _,by simp⟩
 have:=lV3 ((v%2147483647+7919*k+11)*48271) (b:=2147483629) (by decide)
 omega
noncomputable def kKi:Sp3:=fun xs G Q=>∃(c:Addr) (ns:List Int) (k:Nat),xs=[.ref c,.int k]/\G c=some (.lst (jQf ns))/\ns.length<=63/\∀p G',G p=none->G' p=some (.lst (boxT (ns.getD k 0) k))->Sub G G'->Q (.ref p) G'
def uJ6:List Str:=["_law_script","_law_k","_law_cell","_law_digits"]
noncomputable def kKr:TS3:=
 (tSeq (tAsg (tIf (jJy (tOp rLt (tVar 1) (tCB rLen (jJc (tVar 0) tNil)))) (tOp rIxF (tVar 0) (tVar 1)) (tC (.int 0))) (jJg 2))
 (tSeq (tAsg (tIf (jJy (tOp rGe (tCB rAbs (jJc (tVar 2) tNil)) (tOp rPow (tC (.int 10)) (tC (.int 18))))) (tCB rAbs (jJc (tVar 2) tNil)) (tC (.int 0))) (jJg 3))
 (tRet (tLst (jJc (tVar 3) (jJc (tOp rMod (tOp jX9 (tOp jK1 (tOp jK1 (tOp rMod (tVar 2) (tC (.int 2147483647))) (tOp jX9 (tC (.int 7919)) (tVar 1))) (tC (.int 11))) (tC (.int 48271))) (tC (.int 2147483629))) (jJc (tC (.int 0)) tNil)))))))
theorem kY7:RdOk kKi kKr uJ6:=by
 intro xs G Q h_;apply xe3 h_;clear h_;intro c ns k h_;apply ae3 h_;clear h_;intro hc hl kk
 show kKr _ [some (.ref c),some (.int k),none,none] G
 have hs:=sz
 have fin:∀v:Int,v=ns.getD k 0->∀x,x=(if 10^18<=absZ v then absZ v else 0)->0<(2147483647:Int)/\L2.CMul 7919 k/\L2.CMul (v%2147483647+7919*k+11) 48271/\0<(2147483629:Int)/\3<=sizeLine/\∀p,G p=none->Q (.ref p) (gup G p (.lst [.int x,.int ((v%2147483647+7919*k+11)*48271%2147483629),.int 0])):=by
  rintro v rfl x rfl
  exact⟨by decide,.inl (by decide),.inr (by decide),by decide,by omega,fun p hp=>kk p _ hp jJe (.new hp)⟩
 have both:∀v:Int,v=ns.getD k 0->(if (10:Int)^Int.toNat 18<=(if v<0 then -v else v) then (0<(2147483647:Int)/\L2.CMul 7919 k/\L2.CMul (v%2147483647+7919*k+11) 48271/\0<(2147483629:Int)/\3<=sizeLine/\∀p,G p=none->Q (.ref p) (gup G p (.lst [.int (if v<0 then -v else v),.int ((v%2147483647+7919*k+11)*48271%2147483629),.int 0]))) else (0<(2147483647:Int)/\L2.CMul 7919 k/\L2.CMul (v%2147483647+7919*k+11) 48271/\0<(2147483629:Int)/\3<=sizeLine/\∀p,G p=none->Q (.ref p) (gup G p (.lst [.int 0,.int ((v%2147483647+7919*k+11)*48271%2147483629),.int 0])))):=by
  intro v hv
  by_cases h:10^18<=absZ v
  ·rw[lJc (show (10:Int)^Int.toNat 18<=(if v<0 then -v else v) from h)]
   exact fin v hv _ (by rw[lJc h];rfl)
  ·rw[lJb (show ¬ (10:Int)^Int.toNat 18<=(if v<0 then -v else v) from h)]
   exact fin v hv _ (by rw[lJb h])
 wp_walk using 1,kKr,jJi hc,List.length_map,jUt hc
 by_cases hk:k<ns.length
 ·rw[lJc (by omega)]
  have hv:ns[k]? =some ns[k]:=lJp hk
  have hg:ns[k]=ns.getD k 0:=by rw[List.getD,hv];rfl
  have b:=both ns[k] hg
  refine⟨.int ns[k],by rw[atN,lKj,hv];rfl,_,rfl,⟨by decide,by decide,by decide⟩,?_⟩
  generalize ns[k]=v at b
  by_cases h:(10:Int)^Int.toNat 18<=(if v<0 then -v else v)
  ·rw[lJc h] at b ⊢
   exact⟨v,rfl,v,rfl,b⟩
  ·rw[lJb h] at b ⊢
   exact⟨v,rfl,b⟩
 ·rw[lJb (by omega)]
  exact⟨⟨by decide,by decide,by decide⟩,both 0 (by rw[List.getD,lKo (by omega)];rfl)⟩
noncomputable def jUl:Sp3:=fun xs G Q=>∃(ns:List Int) (m:Int),xs=[.scr (jQf ns),.int m]/\ns.length<=63/\1<=m/\m<=63/\∀D rs G',G D=none->G' D=some (.lst (rs.map T.ref))->rs.length<=63->(D::rs).Nodup->(∀r,r∈rs->BoxAt G' r 0)->Sub G G'->Q (.ref D) G'
def kZ2:List Str:=["_law_script","_law_many","_law_cells","_law_k","_law_cell"]
noncomputable def jVz:TS3:=
 (tSeq (tAsg (tCB qJ5 (jJc (tSl rSlF (tVar 0) jU3 (kJf (tVar 1))) tNil)) (jJg 2))
 (tSeq (tFor (kJm (jJc (tSl rSlF (tVar 0) (kJf (tVar 1)) (kJf (tC (.int 63)))) tNil)) (gTup 2 (jKg (jJg 3) (jKg (jJg 4) gNil))) (tAsg (tOp jK1 (tOp rIxF (tVar 2) (tOp rMod (tVar 3) (tVar 1))) (tOp jX9 (tVar 4) (tOp jK1 (tVar 3) (tC (.int 2))))) (gSub (tVar 2) (tOp rMod (tVar 3) (tVar 1)) kJi)))
 (tRet (jKp [false,false,false,true,false] (jK6 (jJc (tCB rMax (jJc (tC (.int 1)) (jJc (tCB rLen (jJc (tVar 2) tNil)) tNil))) tNil)) (jJg 3) jQg (jJr kKi (jJc (tVar 2) (jJc (tVar 3) tNil)))))))
theorem kKq:RdOk jUl jVz kZ2:=by
 intro xs G Q h_;apply xe2 h_;clear h_;intro ns m h_;apply ae4 h_;clear h_;intro hl hm1 hm2 kk
 show jVz _ [some (.scr (jQf ns)),some (.int m),none,none,none] G
 have hs:=sz
 wp_walk using 1,jVz,tSl,rSlF,slR,jU3,kJf,qJ5,kVe,jJ2,kJm
 intro p hp p1 hp1
 obtain⟨hpp,hp10⟩:=jKi hp1
 intro q hq
 obtain⟨hq1,hq2⟩:=jKi hq
 obtain⟨hqp,hq0⟩:=jKi hq2
 obtain⟨cs,hcs,lcs⟩:∃cs:List Int,cutT (jQf ns) none (some m)=jQf cs/\cs.length=min m.toNat ns.length:=by
  refine⟨ns.take (min m.toNat ns.length),?_,by simp⟩
  simp only[cutT,HT.sIx,lJf,lX8,Nat.sub_zero]
  rw[lJb (by omega)]
  simp[List.map_take]
 obtain⟨rs,hrs,lrs⟩:∃rs:List Int,cutT (jQf ns) (some m) (some 63)=jQf rs/\(rs.length<=63/\(0<rs.length->m.toNat<=ns.length)):=by
  refine⟨(ns.drop (min m.toNat ns.length)).take (min 63 ns.length-min m.toNat ns.length),?_,?_,?_⟩
  ·simp only[cutT,HT.sIx,lJf]
   simp only[show ¬ m<0 by omega,show ¬ (63:Int)<0 by decide,lJ6]
   simp[List.map_take,List.map_drop]
  ·simp;omega
  ·simp;omega
 rw[hcs,hrs]
 refine⟨jQf rs,by simp only[jQt,jJe,asL],?_⟩
 refine⟨fun i τ G'=>∃(v3 v4:Option T) (ms:List Int),τ=[some (.scr (jQf ns)),some (.int m),some (.ref p1),v3,v4]/\G' p1=some (.lst (jQf ms))/\ms.length=cs.length/\G' q=some (.lst (jQf rs))/\Sub G G',?_,?_,?_,?_⟩
 ·refine⟨none,none,cs,rfl,by rw[jJo hq1.symm,jJe],rfl,jJe,(((Sub.new hp).over hp10).over hq0)⟩
 ·intro i τ G' hi h_;apply xe3 h_;clear h_;intro v3 v4 ms h_;apply ae4 h_;clear h_;intro h1 h2 h3 h4
  simp only[jQt,h3,asL]
 ·intro i x τ G' hx h_;apply xe3 h_;clear h_;intro v3 v4 ms h_;apply ae4 h_;clear h_;intro h1 h2 h3 h4
  have hi:i<rs.length:=by have:=(lJj.mp hx).1;simpa[jJ3] using this
  have hri:(jQf rs)[i]? =some (.int rs[i]):=by simp[hi]
  rw[jXp hri] at hx
  cases hx
  have hml:=lrs.2 (by omega)
  have hk0:(0:Int)<=(i:Int)%m:=lV2 _ (by omega)
  have hk1:(i:Int)%m<m:=lV3 _ (by omega)
  have hk:((i:Int)%m).toNat<ms.length:=by omega
  have hat:L2.atI (jQf ms) ((i:Int)%m)=some (.int ms[((i:Int)%m).toNat]):=by rw[atZ hk0];simp[hk]
  have hix:L2.ixN (jQf ms).length ((i:Int)%m)=some ((i:Int)%m).toNat:=ixZ hk0 (by simp;omega)
  wp_walk using 1,jUt h1,hat,qU1 h1 hix
  refine⟨by omega,.inr ⟨by omega,by omega⟩,by omega,?_⟩
  exact⟨ms.set ((i:Int)%m).toNat (ms[((i:Int)%m).toNat]+rs[i]*((i:Int)+2)),by simp[jQf,List.map_set],by simpa using h2,by rw[jJo hq1];exact h3,h4.over hp10⟩
 ·intro τ G' h_;apply xe3 h_;clear h_;intro v3 v4 ms h_;apply ae4 h_;clear h_;intro h1 h2 h3 h4
  have hm:ms.length<=63:=by omega
  wp_walk using 1,jK6,rMax,jJi h1
  obtain⟨N,hN,hN2⟩:∃N:Nat,(if ((jQf ms).length:Int)>1 then ((jQf ms).length:Int) else 1)=(N:Int)/\N<=63:=by
   refine⟨(if ((jQf ms).length:Int)>1 then ((jQf ms).length:Int) else 1).toNat,?_,?_⟩<;>rw[lJf]<;>split<;>omega
  rw[hN]
  refine⟨by omega,by omega,?_⟩
  rw[show ((N:Nat):Int).toNat=N by omega,jVg]
  refine jYf (fun k:Nat=>boxT (ms.getD k 0) k) (by simp;omega) (fun _ _=>trivial) ?_ ?_
  ·intro i k hk G2 K K0 s hK
   wp_walk using 1,tSeq
   exact⟨p1,ms,k,rfl,s _ _ h1,hm,fun p G4 hp h4 s4=>hK p G4 hp h4 s4⟩
  ·intro E rs G2 hE hE2 s2 hrl hnd hrs
   rw[lKw] at hrl
   refine kk E rs G2 (h4.none hE) hE2 (by omega) hnd (fun r hr=> ?_) (h4.trans s2)
   obtain⟨j,hj⟩:=lKa hr
   have hjl:j<rs.length:=(lJj.mp hj).1
   exact uJ0 (hrs j r j hj (by rw[lX4 (by omega)])).2
theorem kUt {kvs:List (L2.Key×T)} {k:L2.Key}:(valT kvs k).isSome=true↔k∈kvs.map Prod.fst:=by
 unfold valT
 rw[lXw,List.find?_isSome,lJl]
 exact⟨fun ⟨a,h1,h2⟩=>⟨a,h1,by simpa using h2⟩,fun ⟨a,h1,h2⟩=>⟨a,h1,by simpa using h2⟩⟩
def keyN (x:Nat):L2.Key:= .inl (x:Nat)
theorem kX7 {F:List Nat} {x:Nat}:keyN x∈F.map keyN↔x∈F:=by
 rw[lJl]
 refine⟨fun ⟨a,ha,e⟩=> ?_,fun h=>⟨x,h,rfl⟩⟩
 have e1:(Sum.inl (a:Int):L2.Key)=Sum.inl (x:Int):=e
 have:(a:Int)=x:=by injection e1
 have:a=x:=by omega
 exact this▸ha
theorem qZ7 {G:Gp} {d:Addr} {kvs:List (L2.Key×T)} {F:List Nat} {x:Nat} (h:G d=some (.dck kvs)) (hk:kvs.map Prod.fst=F.map keyN):inR G (.int (x:Nat)) (.ref d)=some (decide (x∈F)):=by
 have e1:seqT G (.ref d)=none:=by simp only[seqT,h];rfl
 have e2:dAt G (.ref d) (.int (x:Nat))=some (valT kvs (keyN x)):=by simp only[dAt,h,jV4];rfl
 unfold inR
 simp only[e1,e2]
 congr 1
 rw[Bool.eq_iff_iff,kUt,hk,kX7];simp
theorem qVe {kvs:List (L2.Key×T)} {k:L2.Key} {v:T} (h:k∉kvs.map Prod.fst):putT kvs k v=kvs++[(k,v)]:=by
 unfold putT
 rw[lJb]
 rw[List.any_eq_true]
 rintro⟨a,ha,e⟩
 exact h (lJl.mpr ⟨a,ha,by simpa using e⟩)
theorem qU3 {G:Gp} {d:Addr} {kvs:List (L2.Key×T)} {x:Nat} {v:T} (h:G d=some (.dck kvs)) (hz:kvs.length<sizeLine):setR G (.ref d) (.int (x:Nat)) v=some (gup G d (.dck (putT kvs (keyN x) v))):=by
 simp only[setR,h,jV4]
 rw[lJc hz];rfl
theorem kKx {xs:List T} {j:Nat} {y:T} (h:(numT xs)[j]? =some y):∃x,xs[j]? =some x/\y= .tup [.int j,x]:=by
 have hj:j<xs.length:=by have:=(lJj.mp h).1;rwa [jJ3] at this
 refine⟨xs[j],lJp hj,?_⟩
 rw[jXp (lJp hj)] at h
 cases h;rfl
theorem kXd {G G':Gp} (h:Sub G G') {p:Addr} (hp:G' p=none):G p=none:=by
 cases e:G p with
 | none=>rfl
 | some o=>rw[h _ _ e] at hp;cases hp
theorem vis_sub {F:List Nat} {es:List (Nat×Nat)}:(∃E,vis F es=F++E)/\(∀e,e∈es->e.1∈vis F es)/\(∀x,x∈vis F es->x∈F\/∃e,e∈es/\e.1=x)/\(F.Nodup->(vis F es).Nodup):=by
 induction es generalizing F with
 | nil=>exact⟨⟨[],by simp[vis]⟩,by simp,fun x h=> .inl h,fun h=>h⟩
 | cons e es ih=>
  have hv:vis F (e::es)=vis (if F.contains e.1=true then F else F++[e.1]) es:=rfl
  rw[hv]
  by_cases h:F.contains e.1=true
  ·rw[lJc h]
   obtain⟨⟨E,i1⟩,i2,i3,i4⟩:=ih (F:=F)
   refine⟨⟨E,i1⟩,fun d hd=> ?_,fun x hx=> ?_,i4⟩
   ·rcases (lJr.mp hd) with rfl | hde
    ·rw[i1];exact lKd _ (by simpa using h)
    ·exact i2 d hde
   ·rcases i3 x hx with h | ⟨d,hd,e⟩
    ·exact .inl h
    ·exact .inr ⟨d,lJ1 _ hd,e⟩
  ·rw[lJb h]
   obtain⟨⟨E,i1⟩,i2,i3,i4⟩:=ih (F:=F++[e.1])
   refine⟨⟨e.1::E,by rw[i1];simp⟩,fun d hd=> ?_,fun x hx=> ?_,fun hn=>i4 ?_⟩
   ·rcases (lJr.mp hd) with rfl | hde
    ·rw[i1];exact lKd _ (by simp)
    ·exact i2 d hde
   ·rcases i3 x hx with h | ⟨d,hd,e'⟩
    ·rcases (lJn.mp h) with h | hs
     ·exact .inl h
     ·exact .inr ⟨e,lJx ..,(lJt.mp hs).symm⟩
    ·exact .inr ⟨d,lJ1 _ hd,e'⟩
   ·rw[lVa]
    exact⟨hn,by simp,fun a ha b hb=>by rw[lJt] at hb;subst hb;rintro rfl;exact h (by simpa using ha)⟩
structure Bfs (W:Web) (k:Nat) (F:List Nat):Prop where
 nd:F.Nodup
 lt:∀x,x∈F->x<W.length
 near:∀(i x:Nat) (e:Nat×Nat),i<k->F[i]? =some x->e∈row W x->e.1∈F
theorem qY1 {W:Web} {x:Nat} {e:Nat×Nat} (h:e∈row W x):∃i,en W x i=some e:=by
 unfold row at h
 cases hW:W[x]? with
 | none=>rw[hW] at h;simp at h
 | some es=>
  rw[hW] at h
  obtain⟨i,hi⟩:=lKa (show e∈es from h)
  exact⟨i,kQ4 hW hi⟩
theorem Bfs.step {W:Web} (f:Fine W) {k r:Nat} {F:List Nat} (h:Bfs W k F) (hr:F[k]? =some r):Bfs W (k+1) (vis F (row W r)):=by
 obtain⟨⟨E,e1⟩,e2,e3,e4⟩:=vis_sub (F:=F) (es:=row W r)
 refine⟨e4 h.nd,fun x hx=> ?_,fun i x e hi hx he=> ?_⟩
 ·rcases e3 x hx with hx | ⟨e,he,rfl⟩
  ·exact h.lt x hx
  ·obtain⟨i,hi⟩:=qY1 he
   exact f.rng _ _ e.1 e.2 hi
 ·have hkl:k<F.length:=(lJj.mp hr).1
  have hx':F[i]? =some x:=by rw[e1,lKi (by omega)] at hx;exact hx
  rcases lK8 (lQc hi) with h1 | rfl
  ·rw[e1];exact lKd _ (h.near i x e h1 hx' he)
  ·rw[hr] at hx';cases hx';exact e2 e he
theorem Bfs.run {W:Web} (f:Fine W):∀(n k:Nat) (F:List Nat),Bfs W k F->W.length<=n+k->k<=F.length->(∃E,bfsN W n k F=F++E)/\Bfs W (bfsN W n k F).length (bfsN W n k F)
 | 0,k,F,h,hl,hk=>by
  have hF:=jK3 h.nd h.lt
  have:k=F.length:=by omega
  subst this
  exact⟨⟨[],by simp[bfsN]⟩,h⟩
 | n+1,k,F,h,hl,hk=>by
  rcases lQm k F.length with hlt | hge
  ·have hr:F[k]? =some F[k]:=lJp hlt
   rw[jXy hr]
   obtain⟨⟨E,e1⟩,e2,e3,e4⟩:=vis_sub (F:=F) (es:=row W F[k])
   obtain⟨⟨E',h1⟩,h2⟩:=Bfs.run f n (k+1) _ (h.step f hr) (by omega) (by rw[e1,lKc];omega)
   exact⟨⟨E++E',by rw[h1,e1,lJo]⟩,h2⟩
  ·have:k=F.length:=by omega
   subst this
   rw[jZ6 (lJg _)]
   exact⟨⟨[],by simp⟩,h⟩
theorem bfs_ok {W:Web} (f:Fine W) {r:Nat} (hr:r<W.length):(∃E,bfs W r=r::E)/\Bfs W (bfs W r).length (bfs W r):=
 Bfs.run f W.length 0 [r] ⟨by simp,by simpa using hr,fun i x e hi=>absurd hi (lK5 _)⟩ (by omega) (by simp)
structure Order (W:Web) (r:Nat) (F:List Nat):Prop where
 nd:F.Nodup
 lt:∀x,x∈F->x<W.length
 all:∀x,x<W.length->x∈F
 first:F[0]? =some r
theorem qUj {W:Web} (f:Fine W) (sym:Sym W) (c:Conn W) {r:Nat} (hr:r<W.length):Order W r (bfs W r):=by
 obtain⟨⟨E,e1⟩,h⟩:=bfs_ok f hr
 have cl:∀x i s j,x∈bfs W r->en W x i=some (s,j)->s∈bfs W r:=by
  intro x i s j hx he
  obtain⟨k,hk⟩:=lKa hx
  have hkl:=(lJj.mp hk).1
  refine h.near k x (s,j) hkl hk ?_
  have he':=he
  unfold en at he'
  cases hW:W[x]? with
  | none=>rw[hW] at he';cases he'
  | some es=>rw[hW] at he';rw[jXf hW];exact lJu (show es[i]? =_ from he')
 have hrF:r∈bfs W r:=by rw[e1];exact lJx ..
 have h0:0∈bfs W r:=c (fun x=>x∈bfs W r->0∈bfs W r) (fun h=>h) (fun x i s j hx he hs=>hx (cl s j x i hs (sym _ _ _ _ he))) r hr hrF
 exact⟨h.nd,h.lt,fun x hx=>c (fun x=>x∈bfs W r) h0 (fun x i s j h he=>cl x i s j h he) x hx,by rw[e1];rfl⟩
theorem kYq:∀(n:Nat) (F:List Nat),(∀x,x<n->x∈F)->n<=F.length
 | 0,_,_=>lJz _
 | n+1,F,h=>by
  have hn:=h n (Nat.lt_succ_self _)
  have h1:=kYq n (F.erase n) fun x hx=>(List.mem_erase_of_ne (by omega)).mpr (h x (by omega))
  rw[List.length_erase_of_mem hn] at h1
  have:=List.length_pos_of_mem hn
  omega
theorem Order.len {W:Web} {r:Nat} {F:List Nat} (h:Order W r F):F.length=W.length:=by
 have h1:=jK3 h.nd h.lt
 exact Nat.le_antisymm h1 (kYq _ _ h.all)
theorem vis_lt {W:Web} (f:Fine W) {F:List Nat} {x:Nat} {es:List (Nat×Nat)} (hx:W[x]? =some es) (hF:∀y,y∈F->y<W.length) (j:Nat):∀y,y∈vis F (es.take j)->y<W.length:=by
 intro y hy
 rcases (vis_sub (F:=F) (es:=es.take j)).2.2.1 y hy with h | ⟨e,he,rfl⟩
 ·exact hF y h
 ·obtain⟨i,hi⟩:=lKa (lQz he)
  exact f.rng x i e.1 e.2 (kQ4 hx hi)
def lx:List Nat->List Nat->Prop
 | [],_=>False
 | _::_,[]=>False
 | a::u,b::v=>a<b\/(a=b/\lx u v)
def slt (u v:List Nat):Prop:=u.length<v.length\/(u.length=v.length/\lx u v)
theorem qYa:∀u:List Nat,¬ lx u u
 | []=>fun h=>h
 | a::u=>fun h=>by
  rcases h with h | ⟨_,h⟩
  ·exact lQo _ h
  ·exact qYa u h
theorem kXz:∀ {u v w:List Nat},lx u v->lx v w->lx u w
 | [],_,_,h,_=>(show False from h).elim
 | _::_,[],_,h,_=>(show False from h).elim
 | _::_,_::_,[],_,h=>(show False from h).elim
 | a::u,b::v,c::w,h,k=>by
  rcases h with h | ⟨rfl,h⟩<;>rcases k with k | ⟨rfl,k⟩
  ·exact .inl (lQ6 h k)
  ·exact .inl h
  ·exact .inl k
  ·exact .inr ⟨rfl,kXz h k⟩
theorem qYb {x y:List Nat}:∀ {u v:List Nat},u.length=v.length->lx u v->lx (u++x) (v++y)
 | [],_,_,h=>(show False from h).elim
 | _::_,[],_,h=>(show False from h).elim
 | a::u,b::v,e,h=>by
  rcases h with h | ⟨rfl,h⟩
  ·exact .inl h
  ·exact .inr ⟨rfl,qYb (by simpa using e) h⟩
theorem qKy {a b:Nat} (h:a<b):∀u:List Nat,lx (u++[a]) (u++[b])
 | []=> .inl h
 | _::u=> .inr ⟨rfl,qKy h u⟩
theorem qYw {u:List Nat} (h:slt u u):False:=by
 rcases h with h | h
 ·exact lQo _ h
 ·exact qYa u h.2
theorem kQf {u v w:List Nat} (h:slt u v) (k:slt v w):slt u w:=by
 rcases h with h | ⟨h,h'⟩<;>rcases k with k | ⟨k,k'⟩
 ·exact .inl (lQ6 h k)
 ·exact .inl (by omega)
 ·exact .inl (by omega)
 ·exact .inr ⟨h.trans k,kXz h' k'⟩
theorem kXh {u v:List Nat} {a b:Nat} (h:slt u v):slt (u++[a]) (v++[b]):=by
 rcases h with h | ⟨h,h'⟩
 ·exact .inl (by simp;exact h)
 ·exact .inr ⟨by simp;exact h,qYb h h'⟩
theorem qUv {u:List Nat} {a b:Nat} (h:a<b):slt (u++[a]) (u++[b]):= .inr ⟨by simp,qKy h u⟩
def sle (u v:List Nat):Prop:=u=v\/slt u v
theorem qJp {u v w:List Nat} (h:sle u v) (k:sle v w):sle u w:=by
 rcases h with rfl | h
 ·exact k
 ·rcases k with rfl | k
  ·exact .inr h
  ·exact .inr (kQf h k)
theorem qUw {u v:List Nat} {d:Nat} (h:sle u v):sle (u++[d]) (v++[d]):=by
 rcases h with rfl | h
 ·exact .inl rfl
 ·exact .inr (kXh h)
theorem qUx {u v:List Nat} (h:sle u v) (k:sle v u):u=v:=by
 rcases h with h | h
 ·exact h
 ·rcases k with k | k
  ·exact k.symm
  ·exact (qYw (kQf h k)).elim
def kJd (W:Web):Nat->List Nat->Nat->Prop
 | r,[],x=>r=x
 | r,d::u,x=>∃s j,en W r d=some (s,j)/\kJd W s u x
theorem kJy {W:Web} {x d y j:Nat} (h:en W x d=some (y,j)):∀ {u:List Nat} {r:Nat},kJd W r u x->kJd W r (u++[d]) y
 | [],r,e=>by cases (show r=x from e);exact⟨y,j,h,rfl⟩
 | c::u,r,⟨s,k,e,l⟩=>⟨s,k,e,kJy h l⟩
theorem kJz {W:Web} {d y:Nat}:∀ {u:List Nat} {r:Nat},kJd W r (u++[d]) y->∃x j,kJd W r u x/\en W x d=some (y,j)
 | [],r,⟨s,j,e,l⟩=>by cases (show s=y from l);exact⟨r,j,rfl,e⟩
 | c::u,r,⟨s,k,e,l⟩=>by
  obtain⟨x,j,h1,h2⟩:=kJz l
  exact⟨x,j,⟨s,k,e,h1⟩,h2⟩
structure Least (W:Web) (r x:Nat) (w:List Nat):Prop where
 to:kJd W r w x
 le:∀u,kJd W r u x->sle w u
theorem Least.unique {W:Web} {r x:Nat} {w w':List Nat} (h:Least W r x w) (h':Least W r x w'):w=w':=qUx (h.le _ h'.to) (h'.le _ h.to)
abbrev PE:=Nat×Option (Nat×Nat)×List Nat
structure Tr (W:Web) (r0 a j:Nat) (P:List PE):Prop where
 nd:(P.map Prod.fst).Nodup
 zero:P[0]? =some (r0,none,[])
 to:∀p,p∈P->kJd W r0 p.2.2 p.1
 par:∀p,p∈P->p=(r0,none,[])\/∃(i:Nat) (q:PE) (d:Nat),(i<a\/(i=a/\d<j))/\P[i]? =some q/\p.2.1=some (q.1,d)/\p.2.2=q.2.2++[d]
 inc:∀(i k:Nat) (p q:PE),i<k->P[i]? =some p->P[k]? =some q->slt p.2.2 q.2.2
 cl:∀(i:Nat) (p:PE) (d y k:Nat),(i<a\/(i=a/\d<j))->P[i]? =some p->en W p.1 d=some (y,k)->∃q,q∈P/\q.1=y/\sle q.2.2 (p.2.2++[d])
theorem qUr {W:Web} {r0:Nat}:Tr W r0 0 0 [(r0,none,[])] where
 nd:=by simp
 zero:=rfl
 to:=fun p hp=>by rw[lJt.mp hp];rfl
 par:=fun p hp=> .inl (lJt.mp hp)
 inc:=fun i k p q h h1 h2=>by
  have:=(lJj.mp h2).1
  simp at this;omega
 cl:=fun i p d y k h=>by omega
theorem Tr.old {W:Web} {r0 a j:Nat} {P:List PE} {x:PE} (h:Tr W r0 a j P) (hx:P[a]? =some x):∀p,p∈P->slt p.2.2 (x.2.2++[j]):=by
 intro p hp
 rcases h.par p hp with rfl | ⟨i,q,d,hi,hq,_,e⟩
 ·exact .inl (by simp)
 ·rw[e]
  rcases hi with hi | ⟨rfl,hd⟩
  ·exact kXh (h.inc i a q x hi hq hx)
  ·rw[hx] at hq;cases hq
   exact qUv hd
theorem Tr.skip {W:Web} {r0 a j y k:Nat} {P:List PE} {x:PE} (h:Tr W r0 a j P) (hx:P[a]? =some x) (he:en W x.1 j=some (y,k)) (hy:y∈P.map Prod.fst):Tr W r0 a (j+1) P where
 nd:=h.nd
 zero:=h.zero
 to:=h.to
 par:=fun p hp=>by
  rcases h.par p hp with e | ⟨i,q,d,hi,r⟩
  ·exact .inl e
  ·exact .inr ⟨i,q,d,by omega,r⟩
 inc:=h.inc
 cl:=fun i p d z k' hi hp hz=>by
  by_cases hh:i=a/\d=j
  ·obtain⟨rfl,rfl⟩:=hh
   rw[hx] at hp;cases hp
   rw[he] at hz;cases hz
   obtain⟨q,hq,rfl⟩:=lJl.mp hy
   exact⟨q,hq,rfl,.inr (h.old hx q hq)⟩
  ·exact h.cl i p d z k' (by omega) hp hz
theorem Tr.add {W:Web} {r0 a j y k:Nat} {P:List PE} {x:PE} (h:Tr W r0 a j P) (hx:P[a]? =some x) (he:en W x.1 j=some (y,k)) (hy:y∉P.map Prod.fst):Tr W r0 a (j+1) (P++[(y,some (x.1,j),x.2.2++[j])]):=by
 have hal:a<P.length:=(lJj.mp hx).1
 have lf:∀ {i:Nat} {q:PE},P[i]? =some q->(P++[(y,some (x.1,j),x.2.2++[j])])[i]? =some q:=fun {i q} hq=>by
  rw[lKi (lJj.mp hq).1];exact hq
 have rt:∀ {i:Nat} {q:PE},(P++[(y,some (x.1,j),x.2.2++[j])])[i]? =some q->P[i]? =some q\/(i=P.length/\q=(y,some (x.1,j),x.2.2++[j])):=fun {i q} hq=>by
  by_cases hi:i<P.length
  ·rw[lKi hi] at hq;exact .inl hq
  ·have:=(lJj.mp hq).1
   simp at this
   have e:i=P.length:=by omega
   subst e
   rw[lKu (lJg _)] at hq
   simp at hq
   exact .inr ⟨rfl,hq.symm⟩
 refine⟨?_,lf h.zero,fun p hp=> ?_,fun p hp=> ?_,fun i m p q him hp hq=> ?_,fun i p d z k' hi hp hz=> ?_⟩
 ·rw[lKl,lVa]
  refine⟨h.nd,by simp,fun u hu v hv=> ?_⟩
  have:v=y:=by simpa using hv
  subst this
  rintro rfl;exact hy hu
 ·rcases (lJn.mp hp) with hp | hp
  ·exact h.to p hp
  ·rw[lJt.mp hp]
   exact kJy he (h.to x (lJu hx))
 ·rcases (lJn.mp hp) with hp | hp
  ·rcases h.par p hp with e | ⟨i,q,d,hi,hq,r⟩
   ·exact .inl e
   ·exact .inr ⟨i,q,d,by omega,lf hq,r⟩
  ·rw[lJt.mp hp]
   exact .inr ⟨a,x,j,by omega,lf hx,rfl,rfl⟩
 ·rcases rt hp with hp | ⟨rfl,rfl⟩<;>rcases rt hq with hq | ⟨rfl,rfl⟩
  ·exact h.inc i m p q him hp hq
  ·exact h.old hx p (lJu hp)
  ·have:=(lJj.mp hq).1
   omega
  ·omega
 ·rcases rt hp with hpo | ⟨rfl,rfl⟩
  ·by_cases hh:i=a/\d=j
   ·obtain⟨rfl,rfl⟩:=hh
    rw[hx] at hpo;cases hpo
    rw[he] at hz;cases hz
    exact⟨_,lJ3 _ (List.mem_singleton_self _),rfl,.inl rfl⟩
   ·obtain⟨q,h1,h2⟩:=h.cl i p d z k' (by omega) hpo hz
    exact⟨q,lKd _ h1,h2⟩
  ·omega
theorem Tr.next {W:Web} {r0 a n:Nat} {P:List PE} {x:PE} (h:Tr W r0 a n P) (hx:P[a]? =some x) (hn:∀d e,en W x.1 d=some e->d<n):Tr W r0 (a+1) 0 P where
 nd:=h.nd
 zero:=h.zero
 to:=h.to
 par:=fun p hp=>by
  rcases h.par p hp with e | ⟨i,q,d,hi,r⟩
  ·exact .inl e
  ·exact .inr ⟨i,q,d,by omega,r⟩
 inc:=h.inc
 cl:=fun i p d z k' hi hp hz=>by
  refine h.cl i p d z k' ?_ hp hz
  by_cases hh:i=a
  ·subst hh
   rw[hx] at hp;cases hp
   exact .inr ⟨rfl,hn d _ hz⟩
  ·exact .inl (by omega)
theorem Tr.all {W:Web} {r0:Nat} {P:List PE} (h:Tr W r0 P.length 0 P):∀(n:Nat) (u:List Nat) (y:Nat),u.length=n->kJd W r0 u y->∃q,q∈P/\q.1=y/\sle q.2.2 u
 | 0,u,y,hn,hl=>by
  have:u=[]:=lQ9.mp hn
  subst this
  cases (show r0=y from hl)
  exact⟨_,lJu h.zero,rfl,.inl rfl⟩
 | n+1,u,y,hn,hl=>by
  rcases List.eq_nil_or_concat u with rfl | ⟨u',d,rfl⟩
  ·simp at hn
  ·rw[List.concat_eq_append] at hl hn ⊢
   obtain⟨x,j,h1,h2⟩:=kJz hl
   obtain⟨q,hq,rfl,hs⟩:=h.all n u' x (by simpa using hn) h1
   obtain⟨i,hi⟩:=lKa hq
   obtain⟨q',a1,a2,a3⟩:=h.cl i q d y j (.inl (lJj.mp hi).1) hi h2
   exact⟨q',a1,a2,qJp a3 (qUw hs)⟩
theorem kXx {α β:Type} {f:α->β}:∀ {P:List α},(P.map f).Nodup->∀ {p q:α},p∈P->q∈P->f p=f q->p=q
 | [],_,_,_,h,_,_=>by simp at h
 | a::P,nd,p,q,hp,hq,e=>by
  rw[lJq,lK2] at nd
  rcases (lJr.mp hp) with ep | hp'<;>rcases lJr.mp hq with eq | hq'
  ·rw[ep,eq]
  ·exact absurd (lJl.mpr ⟨q,hq',by rw[<-e,ep]⟩) nd.1
  ·exact absurd (lJl.mpr ⟨p,hp',by rw[e,eq]⟩) nd.1
  ·exact kXx nd.2 hp' hq' e
theorem Tr.least {W:Web} {r0:Nat} {P:List PE} (h:Tr W r0 P.length 0 P) {p:PE} (hp:p∈P):Least W r0 p.1 p.2.2:=by
 refine⟨h.to p hp,fun u hu=> ?_⟩
 obtain⟨q,hq,e,hs⟩:=h.all _ u _ rfl hu
 rw[kXx h.nd hq hp e] at hs
 exact hs
def encO:Option (Nat×Nat)->T
 | none=> .non
 | some e=>encE e
def jQ0 (P:List PE):List (L2.Key×T):=P.map fun p=>(keyN p.1,encO p.2.1)
theorem qVw {P:List PE}:(jQ0 P).map Prod.fst=(P.map Prod.fst).map keyN:=by
 unfold jQ0;rw[lJy,lJy];rfl
theorem qVz {x y:Nat} (h:keyN x=keyN y):x=y:=by
 have:((x:Nat):Int)=(y:Nat):=Sum.inl.inj h
 omega
theorem kXb {α:Type} {f:α->Nat} {g:α->T}:∀ {P:List α},(P.map f).Nodup->∀ {p:α},p∈P->valT (P.map fun p=>(keyN (f p),g p)) (keyN (f p))=some (g p)
 | [],_,_,h=>by simp at h
 | a::P,nd,p,hp=>by
  rw[lJq,lK2] at nd
  rw[lJq]
  unfold valT
  rw[lQ5]
  by_cases hh:f a=f p
  ·rcases (lJr.mp hp) with rfl | hp
   ·simp
   ·exact absurd (lJl.mpr ⟨p,hp,hh.symm⟩) nd.1
  ·have hp':p∈P:=by
    rcases (lJr.mp hp) with rfl | hp
    ·exact absurd rfl hh
    ·exact hp
   have:decide (keyN (f a)=keyN (f p))=false:=lJv fun e=>hh (qVz e)
   simp only[this]
   exact kXb nd.2 hp'
theorem qK9 {G:Gp} {d:Addr} {kvs:List (L2.Key×T)} {x:Nat} (h:G d=some (.dck kvs)):ixR G (.ref d) (.int (x:Nat))=valT kvs (keyN x):=by
 have h1:seqT G (.ref d)=none:=by simp only[seqT,h,asL]
 have h2:dAt G (.ref d) (.int (x:Nat))=some (valT kvs (keyN x)):=by simp only[dAt,h,jV4];rfl
 unfold ixR;rw[h1,h2]
noncomputable def jKo:Sp3:=fun xs G Q=>∃(W:Web) (r0:Nat),xs=[encW W,.int r0]/\Fine W/\r0<W.length/\∀d G' P,G d=none->G' d=some (.dck (jQ0 P))->P.map Prod.fst=bfs W r0->Tr W r0 P.length 0 P->Sub G G'->Q (.ref d) G'
def kJa:List Str:=["web","room","comings","level","further","here","door","end"]
noncomputable def jQd:TS3:=
 (tSeq (tAsg (qJg (tVar 1) (tC .non)) (jJg 2))
 (tSeq (tAsg (tLst (jJc (tVar 1) tNil)) (jJg 3))
 (tSeq (jVp (tTru rTru (tVar 3)) (tSeq (tAsg (tLst tNil) (jJg 4))
 (tSeq (tFor (iSeq (tVar 3)) (jJg 5) (tFor (iEnT (jJc (tOp rIxF (tVar 0) (tVar 5)) tNil)) (gTup 2 (jKg (jJg 6) (jKg (jJg 7) gNil))) (tIfS (jJy (tOp jKw (tOp rIxF (tVar 7) (tC (.int 0))) (tVar 2))) (tSeq (tAsg (tTup (jJc (tVar 5) (jJc (tVar 6) tNil))) (gSub (tVar 2) (tOp rIxF (tVar 7) (tC (.int 0))) kJi))
 (jUh (tBM "list" jKq (tVar 4) (jJc (tOp rIxF (tVar 7) (tC (.int 0))) tNil)))) jKr)))
 (tAsg (tVar 4) (jJg 3)))))
 (tRet (tVar 2)))))
theorem jXi:RdOk jKo jQd kJa:=by
 intro xs G Q h_;apply xe2 h_;clear h_;intro W r0 h_;apply ae3 h_;clear h_;intro fine hr0 kk
 show jQd _ [some (.tup (W.map encR)),some (.int r0),none,none,none,none,none,none] G
 have hs:=sz
 have hl:=fine.len
 wp_walk using 1,jQd,jVp,jJ2,qJg,iSeq,iEnT
 intro d hd
 refine⟨keyN r0,rfl,by omega,fun l hl0=> ?_⟩
 have hdl:d≠l:=jJj (jJe (G:=G) (a:=d) (o:= .dck [(keyN r0,T.non)])) hl0
 refine⟨fun m τ G'=>∃(a:Nat) (l:Addr) (v4 v5 v6 v7:Option T) (F:List Nat) (P:List PE),τ=[some (.tup (W.map encR)),some (.int r0),some (.ref d),some (.ref l),v4,v5,v6,v7]/\d≠l/\G l=none/\G' d=some (.dck (jQ0 P))/\P.map Prod.fst=F/\Tr W r0 a 0 P/\G' l=some (.lst (jJk (F.drop a)))/\a<=F.length/\Bfs W a F/\bfs W r0=bfsN W (W.length-a) a F/\Sub G G'/\m=W.length-a,?_,?_⟩
 ·refine⟨_,0,l,none,none,none,none,[r0],[(r0,none,[])],rfl,hdl,?_,?_,rfl,qUr,jJe,lJz _,⟨by simp,by simpa using hr0,fun i x e hi=>absurd hi (lK5 _)⟩,rfl,(Sub.new hd).trans (.new hl0),rfl⟩
  ·rw[jJo hdl.symm] at hl0;exact hl0
  ·rw[jJo hdl];exact jJe
 intro m τ G1 h_;apply xe8 h_;clear h_;intro a l v4 v5 v6 v7 F P h_;apply ae11 h_;clear h_;intro hdl hl0 h1 hk hT h2 haF hB hb hs1 e10_
 subst e10_
 have hFl:=jK3 hB.nd hB.lt
 wp_walk using 1,h2
 split
 ·rename_i hne
  have haF':a<F.length:=by
   rcases lQm a F.length with z | z
   ·exact z
   ·rw[lVr z] at hne;simp[jJk] at hne
  refine⟨fun τ' G'=>∃(l':Addr) (v4 v5 v6 v7:Option T) (F':List Nat) (P':List PE),τ'=[some (.tup (W.map encR)),some (.int r0),some (.ref d),some (.ref l'),v4,v5,v6,v7]/\d≠l'/\G l'=none/\G' d=some (.dck (jQ0 P'))/\P'.map Prod.fst=F'/\Tr W r0 F.length 0 P'/\G' l'=some (.lst (jJk (F'.drop F.length)))/\F.length<=F'.length/\Bfs W F.length F'/\bfs W r0=bfsN W (W.length-F.length) F.length F'/\Sub G G',?_,by omega,fun p hp=> ?_⟩
  ·intro τ' G' h_;apply xe7 h_;clear h_;intro l' v4 v5 v6 v7 F' P' h_;apply ae10 h_;clear h_;intro i1 i2 i3 i4 iT i5 i6 i7 i8 i9
   exact⟨W.length-F.length,by omega,F.length,l',v4,v5,v6,v7,rfl,i1,i2,F',P',i3,i4,iT,i5,i6,i7,i8,i9,rfl⟩
  ·have hpd:d≠p:=jJj h1 hp
   have hpl:l≠p:=jJj h2 hp
   have hp0:=kXd hs1 hp
   refine⟨jJk (F.drop a),jJi (by rw[jJo hpl];exact h2),?_⟩
   refine⟨fun i τ G'=>∃(v5 v6 v7:Option T) (F':List Nat) (P':List PE),τ=[some (.tup (W.map encR)),some (.int r0),some (.ref d),some (.ref l),some (.ref p),v5,v6,v7]/\G' d=some (.dck (jQ0 P'))/\P'.map Prod.fst=F'/\Tr W r0 (a+i) 0 P'/\G' l=some (.lst (jJk (F.drop a)))/\G' p=some (.lst (jJk (F'.drop F.length)))/\(∃E,F'=F++E)/\Bfs W (a+i) F'/\bfs W r0=bfsN W (W.length-(a+i)) (a+i) F'/\Sub G G',?_,?_,?_,?_⟩
   ·exact⟨v5,v6,v7,F,P,rfl,by rw[jJo hpd];exact h1,hk,hT,by rw[jJo hpl];exact h2,by rw[List.drop_length];exact jJe,⟨[],by simp⟩,hB,hb,hs1.trans (.new hp)⟩
   ·intro i τ G' hi h_;apply xe5 h_;clear h_;intro v5 v6 v7 F' P' h_;apply ae9 h_;clear h_;intro j1 jk jT j2 j3 jE jB jb js
    exact jJi j2
   ·intro i y τ G2 hy h_;apply xe5 h_;clear h_;intro v5 v6 v7 F' P' h_;apply ae9 h_;clear h_;intro j1 jk jT j2 j3 q5_ jB jb js
    obtain⟨E,jE⟩:=q5_
    obtain⟨x,hx,rfl⟩:=jJ9 hy
    rw[lXp] at hx
    have hai:a+i<F.length:=(lJj.mp hx).1
    have hx':F'[a+i]? =some x:=by rw[jE,lKi hai];exact hx
    have hxW:=jB.lt x (lJu hx')
    have hW:W[x]? =some W[x]:=lJp hxW
    generalize W[x]=es at hW
    wp_walk using 1,iEnT,jV6 hW,encR,jJ2
    refine⟨fun j τ G'=>∃(v6 v7:Option T) (F2:List Nat) (P2:List PE),τ=[some (.tup (W.map encR)),some (.int r0),some (.ref d),some (.ref l),some (.ref p),some (.int x),v6,v7]/\G' d=some (.dck (jQ0 P2))/\P2.map Prod.fst=F2/\Tr W r0 (a+i) j P2/\G' l=some (.lst (jJk (F.drop a)))/\G' p=some (.lst (jJk (F2.drop F.length)))/\F2=vis F' (es.take j)/\Sub G G',?_,?_,?_,?_⟩
    ·exact⟨v6,v7,F',P',rfl,j1,jk,jT,j2,j3,rfl,js⟩
    ·intros;trivial
    ·intro j y τ G3 hy h_;apply xe4 h_;clear h_;intro v6 v7 F2 P2 h_;apply ae7 h_;clear h_;intro q1 qk qT q2 q3 q4 q5
     obtain⟨z,hz,rfl⟩:=kKx hy
     obtain⟨e,he,rfl⟩:=jJ9 hz
     have hF2n:F2.Nodup:=by rw[q4];exact vis_sub.2.2.2 jB.nd
     have hF2l:∀y,y∈F2->y<W.length:=by rw[q4];exact vis_lt fine hW jB.lt j
     have hF2:=jK3 hF2n hF2l
     have hkl:(jQ0 P2).length=F2.length:=by rw[<-qk];simp[jQ0]
     obtain⟨⟨E',e1⟩,_⟩:=vis_sub (F:=F') (es:=es.take j)
     have hFF:F.length<=F2.length:=by
      rw[q4,e1,jE];simp only[lKc];omega
     have hx2:F2[a+i]? =some x:=by
      rw[q4,e1,lKi (lJj.mp hx').1];exact hx'
     rw[<-qk] at hx2
     obtain⟨px,hpx,hpx1⟩:=jJ9 hx2
     have hee:en W px.1 j=some (e.1,e.2):=by rw[<-hpx1];exact kQ4 hW he
     have qk':(jQ0 P2).map Prod.fst=F2.map keyN:=by rw[qVw,qk]
     wp_walk using 1,encE,jKw,qZ7 q1 qk'
     by_cases hm:e.1∈F2
     ·rw[lJb (by simp[hm])]
      exact⟨F2,P2,q1,qk,qT.skip hpx hee (by rw[qk];exact hm),q2,q3,by rw[kJ9 he,<-q4,lJc (by simpa using hm)],q5⟩
     ·rw[lJc (by simp[hm])]
      wp_walk using 1,qU3 q1 (show (jQ0 P2).length<sizeLine by omega)
      have hgp:gup G3 d (.dck (putT (jQ0 P2) (keyN e.1) (.tup [.int x,.int j]))) p=some (.lst (jJk (F2.drop F.length))):=by rw[jJo hpd.symm];exact q3
      refine⟨by omega,by rw[jKl hgp];trivial,_,hgp,by simp[jJk];omega,F2++[e.1],P2++[(e.1,some (px.1,j),px.2.2++[j])],?_,?_,?_,?_,?_,?_,?_⟩
      ·rw[jJo hpd,jJe,qVe (by rw[qk',kX7];exact hm),<-hpx1]
       simp only[jQ0,lKl];rfl
      ·rw[lKl,qk];rfl
      ·exact qT.add hpx hee (by rw[qk];exact hm)
      ·rw[jJo hpl,jJo hdl.symm];exact q2
      ·rw[lYy hFF];simp[jJk]
      ·rw[kJ9 he,<-q4,lJb (by simpa using hm)]
      ·exact (q5.over hd).over hp0
    ·intro τ G3 h_;apply xe4 h_;clear h_;intro v6 v7 F2 P2 h_;apply ae7 h_;clear h_;intro q1 qk qT q2 q3 q4 q5
     rw[jJ3,lJf] at qT
     rw[jJ3,lJf,lQq] at q4
     obtain⟨⟨E',e1⟩,_⟩:=vis_sub (F:=F') (es:=es)
     have hx2:F2[a+i]? =some x:=by
      rw[q4,e1,lKi (lJj.mp hx').1];exact hx'
     rw[<-qk] at hx2
     obtain⟨px,hpx,hpx1⟩:=jJ9 hx2
     refine⟨_,_,_,rfl,F2,P2,q1,qk,qT.next hpx (fun d' e he=> ?_),q2,q3,⟨E++E',by rw[q4,e1,jE,lJo]⟩,?_,?_,q5⟩
     ·rw[<-hpx1] at he
      obtain⟨es',z1,z2⟩:=jV7 he
      rw[hW] at z1;cases z1
      exact (lJj.mp z2).1
     ·have:=jB.step fine hx'
      rw[jXf hW,<-q4] at this
      exact this
     ·rw[jb,show W.length-(a+i)=W.length-(a+(i+1))+1 by omega,jXy hx',jXf hW,<-q4];rfl
   ·intro τ G2 h_;apply xe5 h_;clear h_;intro v5 v6 v7 F' P' h_;apply ae9 h_;clear h_;intro j1 jk jT j2 j3 q5_ jB jb js
    obtain⟨E,jE⟩:=q5_
    have hlen:(jJk (F.drop a)).length=F.length-a:=by simp[jJk]
    rw[hlen,show a+(F.length-a)=F.length by omega] at jB jb jT
    wp_walk using 1,tSeq
    exact⟨hpd,hp0,F',P',j1,jk,jT,j3,by rw[jE,lKc];omega,jB,jb,js⟩
 ·rename_i hne
  have he:F.length<=a:=by
   have:jJk (F.drop a)=[]:=by simpa using hne
   have:=lJ8 List.length this
   simp[jJk] at this;omega
  have hPl:P.length=a:=by have:=lJ8 List.length hk;simp at this;omega
  rw[jZ6 he] at hb
  exact kk d G1 P hd h1 (by rw[hk,hb]) (by rw[hPl];exact hT) hs1
theorem qQ0 {z d:Nat}:encO (some (z,d))= .tup [.int (z:Nat),.int (d:Nat)]:=rfl
theorem qQ1:encO none= .non:=rfl
theorem AnyWeb.order {W:Web} (a:AnyWeb W) {r:Nat} (hr:r<W.length):Order W r (bfs W r):=qUj a.fine a.sym a.conn hr
noncomputable def jY7:Sp3:=fun xs G Q=>∃(W:Web) (r x:Nat),xs=[encW W,.int r,.int x]/\AnyWeb W/\r<W.length/\x<W.length/\∀G' w,Least W r x w->w.length<W.length->Sub G G'->Q (.tup (jJk w)) G'
def qXm:List Str:=["web","one","other","comings","doors","end"]
noncomputable def jZh:TS3:=
 (tSeq (tAsg (jJr jKo (jJc (tVar 0) (jJc (tVar 1) tNil))) (jJg 3))
 (tSeq (tAsg (tLst tNil) (jJg 4))
 (tSeq (tAsg (tOp rIxF (tVar 3) (tVar 2)) (jJg 5))
 (tSeq (jVp (jJy (tOp kJj (tVar 5) (tC .non))) (tSeq (jUh (tBM "list" jKq (tVar 4) (jJc (tOp rIxF (tVar 5) (tC (.int 1))) tNil)))
 (tAsg (tOp rIxF (tVar 3) (tOp rIxF (tVar 5) (tC (.int 0)))) (jJg 5))))
 (tRet (qYs (jJc (tVar 4) tNil)))))))
theorem tr_len {W:Web} {r0:Nat} {P:List PE} (h:Tr W r0 P.length 0 P):∀(i:Nat) (p:PE),P[i]? =some p->p.2.2.length<=i:=by
 intro i
 induction i using Nat.strongRecOn with
 | ind i ih=>
  intro p hp
  rcases h.par p (lJu hp) with rfl | ⟨k,q,d,_,hq,_,e⟩
  ·simp
  ·rw[e,lKc]
   have hki:k<i:=by
    rcases lV1 k i with z | z | z
    ·exact z
    ·subst z
     rw[hp] at hq;cases hq
     have:=lJ8 List.length e
     simp at this
    ·have:=h.inc i k p q z hp hq
     rw[e] at this
     rcases this with this | ⟨this,_⟩<;>simp at this
     omega
   have:=ih k hki q hq
   simp;omega
theorem kU4:RdOk jY7 jZh qXm:=by
 intro xs G Q h_;apply xe3 h_;clear h_;intro W r x h_;apply ae4 h_;clear h_;intro any hr hx kk
 show jZh _ [some (encW W),some (.int r),some (.int x),none,none,none] G
 have hs:=sz
 wp_walk using 1,jZh,jVp,qYs
 refine⟨W,r,rfl,any.fine,hr,fun d G1 P hd h1 hF hT s1=> ?_⟩
 have hxF:x∈P.map Prod.fst:=by rw[hF];exact (any.order hr).all x hx
 obtain⟨px,hpx,hpx1⟩:=lJl.mp hxF
 have hWl:=any.len
 have hPW:P.length=W.length:=by
  have h1:=lJ8 List.length hF
  rw[(any.order hr).len] at h1
  simpa using h1
 have hPl:P.length<=24:=by omega
 have wl:∀p,p∈P->p.2.2.length<W.length:=fun p hp=>by
  obtain⟨i,hi⟩:=lKa hp
  have:=tr_len hT i p hi
  have:=(lJj.mp hi).1
  omega
 refine⟨by omega,fun l hl=> ?_⟩
 have hdl:d≠l:=jJj h1 hl
 have h1':gup G1 l (.lst []) d=some (.dck (jQ0 P)):=by rw[jJo hdl];exact h1
 have hv:∀p,p∈P->valT (jQ0 P) (keyN p.1)=some (encO p.2.1):=fun p hp=>kXb hT.nd hp
 have hv0:=hv px hpx
 rw[hpx1] at hv0
 refine⟨encO px.2.1,(qK9 h1').trans hv0,?_⟩
 refine⟨fun m τ G'=>∃(p:PE) (ds:List Nat),τ=[some (encW W),some (.int r),some (.int x),some (.ref d),some (.ref l),some (encO p.2.1)]/\p∈P/\p.2.2++ds.reverse=px.2.2/\G' d=some (.dck (jQ0 P))/\G' l=some (.lst (jJk ds))/\Sub G G'/\m=p.2.2.length,?_,?_⟩
 ·exact⟨_,px,[],rfl,hpx,by simp,h1',jJe,s1.trans (.new hl),rfl⟩
 intro m τ G2 h_;apply xe2 h_;clear h_;intro p ds h_;apply ae6 h_;clear h_;intro hp hw h2 h3 s2 e5_
 subst e5_
 have hlG:G l=none:=kXd s1 hl
 wp_walk using 1,kJj
 rcases hT.par p hp with rfl | ⟨i,q,c,hi,hq,ho,hpw⟩
 ·wp_walk using 1,qQ1,kJl
  refine⟨jJk ds,by simp only[jQt,h3,asL],?_⟩
  have e1:(jJk ds).reverse=jJk px.2.2:=by rw[<-hw];simp[jJk]
  rw[e1]
  exact kk G2 px.2.2 (by rw[<-hpx1];exact hT.least hpx) (wl px hpx) s2
 ·have hqm:=lJu hq
  have hpl:=wl px hpx
  have hdl2:ds.length<=24:=by
   have:=lJ8 List.length hw
   simp at this;omega
  rw[ho]
  wp_walk using 1,qQ0,kJl
  refine⟨fun τ' G'=>∃(p':PE) (ds:List Nat),τ'=[some (encW W),some (.int r),some (.int x),some (.ref d),some (.ref l),some (encO p'.2.1)]/\p'∈P/\p'.2.2.length<p.2.2.length/\p'.2.2++ds.reverse=px.2.2/\G' d=some (.dck (jQ0 P))/\G' l=some (.lst (jJk ds))/\Sub G G',?_,?_⟩
  ·intro τ' G' h_;apply xe2 h_;clear h_;intro p' ds' h_;apply ae6 h_;clear h_;intro i1 i2 i3 i4 i5 i6
   exact⟨_,i2,p',rfl,i1,ds',i3,i4,i5,i6,rfl⟩
  ·wp_walk using 1,h3
   have h2':gup G2 l (.lst (jJk ds++[.int (c:Nat)])) d=some (.dck (jQ0 P)):=by rw[jJo hdl];exact h2
   refine⟨by rw[jKl h3];trivial,by simp[jJk];omega,encO q.2.1,(qK9 h2').trans (hv q hqm),q,rfl,hqm,by rw[hpw];simp,ds++[c],?_,h2',by simp[jJk],s2.over hlG⟩
   rw[<-hw,hpw];simp
theorem qYf {G:Gp} {i:Int}:isiT G (.int i) (.ty "bool")=some false:=rfl
theorem qYe {G:Gp} {i:Int}:isiT G (.int i) (.ty "int")=some true:=rfl
theorem kYb {G:Gp} {ts:List T}:isiT G (.tup ts) (.ty "tuple")=some true:=rfl
structure Sz (W:Web):Prop where
 len:W.length<=1000
 row:∀(r:Nat) (es:List (Nat×Nat)),W[r]? =some es->es.length<=1000
def IsW (W:Web):Prop:=0<W.length/\Sym W/\(bfs W 0).length=W.length
theorem Sz.fine {W:Web} (h:Sz W) (s:Sym W):Fine W:=⟨h.len,h.row,fun _ _ _ _ he=>qQ2 (s _ _ _ _ he)⟩
def jK5:Sp3:=fun xs G Q=>∃i:Int,xs=[.int i]/\∀G',Sub G G'->Q (.bl true) G'
def kV9:List Str:=["thing"]
noncomputable def jU7:TS3:=
 (tRet (jY6 (tCB rIsi (jJc (tVar 0) (jJc (tC (.ty "int")) tNil))) (qUs (tCB rIsi (jJc (tVar 0) (jJc (tC (.ty "bool")) tNil))))))
theorem kJg:RdOk jK5 jU7 kV9:=by
 intro xs G Q h_;apply xe1 h_;clear h_;intro i kk
 show jU7 _ [some (.int i)] G
 wp_walk using 1,jU7,rIsi,qYe,qYf
 exact kk G (.refl _)
def jKm:Sp3:=fun xs G Q=>∃(W:Web) (n:Nat),xs=[encW W,.int n]/\∀G',Sub G G'->Q (.bl (decide (n<W.length))) G'
def jV9:List Str:=["web","thing"]
noncomputable def jKn:TS3:=
 (tRet (jY6 (jJr jK5 (jJc (tVar 1) tNil)) (jVq rLeF rLt (tC (.int 0)) (tVar 1) (tCB rLen (jJc (tVar 0) tNil)))))
theorem jUz:RdOk jKm jKn jV9:=by
 intro xs G Q h_;apply xe2 h_;clear h_;intro W n kk
 show jKn _ [some (.tup (W.map encR)),some (.int n)] G
 wp_walk using 1,jKn
 refine⟨n,rfl,fun G1 s1=> ?_⟩
 wp_walk using 1,jVq,rLeF,List.length_map
 rw[lJc (by omega),show decide ((n:Int)<(W.length:Int))=decide (n<W.length) from decide_eq_decide.mpr (by omega)]
 exact kk G1 s1
def jZa:Sp3:=fun xs G Q=>∃e:Nat×Nat,xs=[encE e]/\∀G',Sub G G'->Q (.bl true) G'
def qXs:List Str:=["thing"]
noncomputable def jZn:TS3:=
 (tRet (jY6 (tCB rIsi (jJc (tVar 0) (jJc (tC (.ty "tuple")) tNil))) (jY6 (tOp rEqA (tCB rLen (jJc (tVar 0) tNil)) (tC (.int 2))) (jY6 (jJr jK5 (jJc (tOp rIxF (tVar 0) (tC (.int 0))) tNil)) (jJr jK5 (jJc (tOp rIxF (tVar 0) (tC (.int 1))) tNil))))))
theorem kVb:RdOk jZa jZn qXs:=by
 intro xs G Q h_;apply xe1 h_;clear h_;intro e kk
 show jZn _ [some (.tup [.int e.1,.int e.2])] G
 wp_walk using 1,jZn,rIsi,rEqA,kYb
 refine⟨true,rfl,?_⟩
 wp_walk using 1,tSeq
 refine⟨_,rfl,fun G1 s1=> ?_⟩
 wp_walk using 1,tSeq
 exact⟨_,rfl,fun G2 s2=>kk G2 (s1.trans s2)⟩
def jX2:Sp3:=fun xs G Q=>∃es:List (Nat×Nat),xs=[encR es]/\es.length<=1000/\∀G',Sub G G'->Q (.bl true) G'
def qUp:List Str:=["thing","part"]
noncomputable def jX7:TS3:=
 (tRet (jY6 (tCB rIsi (jJc (tVar 0) (jJc (tC (.ty "tuple")) tNil))) (tCB rAll (jJc (jKp [false,true] (iSeq (tVar 0)) (jJg 1) jQg (jJr jZa (jJc (tVar 1) tNil))) tNil))))
theorem kQk:RdOk jX2 jX7 qUp:=by
 intro xs G Q h_;apply xe1 h_;clear h_;intro es h_;apply ae2 h_;clear h_;intro hl kk
 show jX7 _ [some (.tup (es.map encE)),none] G
 have hs:=sz
 wp_walk using 1,jX7,rIsi,iSeq,kYb
 refine jKe (fun _=>T.bl true) (by omega) (fun _ _=>trivial) ?_ ?_
 ·intro i e he G' K K0 s hk
  wp_walk using 1,tSeq
  exact⟨e,rfl,fun G4 s4=>hk G4 s4⟩
 ·intro D G' hD h1 h2
  refine⟨D,_,_,rfl,h1,jX1 (f:=fun _=>true),?_⟩
  rw[lKp.mpr (fun _ _=>rfl)]
  exact kk G' h2
noncomputable def jUj:Sp3:=fun xs G Q=>∃(W:Web) (r i:Nat) (e:Nat×Nat),xs=[encW W,.int r,.int i]/\en W r i=some e/\∀G' c,(c=true↔en W e.1 e.2=some (r,i))->Sub G G'->Q (.bl c) G'
def kUm:List Str:=["rooms","room","door","end"]
noncomputable def jUo:TS3:=
 (tSeq (tAsg (tOp rIxF (tOp rIxF (tVar 0) (tVar 1)) (tVar 2)) (jJg 3))
 (tSeq (tIfS (tNot (jJy (jJr jKm (jJc (tVar 0) (jJc (tOp rIxF (tVar 3) (tC (.int 0))) tNil))))) (tRet (tC (.bl false))) jKr)
 (tSeq (tIfS (tNot (jJy (jVq rLeF rLt (tC (.int 0)) (tOp rIxF (tVar 3) (tC (.int 1))) (tCB rLen (jJc (tOp rIxF (tVar 0) (tOp rIxF (tVar 3) (tC (.int 0)))) tNil))))) (tRet (tC (.bl false))) jKr)
 (tRet (tOp rEqA (tOp rIxF (tOp rIxF (tVar 0) (tOp rIxF (tVar 3) (tC (.int 0)))) (tOp rIxF (tVar 3) (tC (.int 1)))) (tTup (jJc (tVar 1) (jJc (tVar 2) tNil))))))))
theorem jZe:RdOk jUj jUo kUm:=by
 intro xs G Q h_;apply xe4 h_;clear h_;intro W r i e h_;apply ae2 h_;clear h_;intro he kk
 show jUo _ [some (.tup (W.map encR)),some (.int r),some (.int i),none] G
 obtain⟨es,h1,h2⟩:=jV7 he
 have hs:=sz
 wp_walk using 1,jUo,jV6 h1,encR,kK2 h2,encE
 refine⟨W,e.1,rfl,fun G1 s1=>⟨_,rfl,?_⟩⟩
 by_cases hn:e.1<W.length
 ·rw[lJb (by simp[hn])]
  have e1:W[e.1]? =some W[e.1]:=lJp hn
  wp_walk using 1,jVq,rLeF,rEqA,jV6 e1,encR,List.length_map
  rw[lJc (by omega)]
  by_cases hj:e.2<(W[e.1]).length
  ·rw[lJb (by simp;omega)]
   have e2:(W[e.1])[e.2]? =some ((W[e.1])[e.2]):=lJp hj
   have e3:en W e.1 e.2=some ((W[e.1])[e.2]):=kQ4 e1 e2
   refine⟨_,kK2 e2,by omega,_,uJg (f:=(r,i)),?_⟩
   refine kk G1 _ ?_ s1
   rw[e3,lKm,lXj]
  ·rw[lJc (by simp;omega)]
   refine kk G1 false (Iff.intro (fun z=>Bool.noConfusion z) fun z=> ?_) s1
   obtain⟨us,u1,u2⟩:=jV7 z
   rw[e1] at u1;cases u1
   exact absurd (lJj.mp u2).1 hj
 ·rw[lJc (by simp[hn])]
  exact kk G1 false (Iff.intro (fun z=>Bool.noConfusion z) fun z=>absurd (qQ2 z) hn) s1
def jQc:Sp3:=fun xs G Q=>∃W:Web,xs=[encW W]/\Sz W/\∀G' c,(c=true↔Sym W)->Sub G G'->Q (.bl c) G'
def kJc:List Str:=["rooms","room","ends","door"]
noncomputable def jQe:TS3:=
 (tSeq (tFor (iEnT (jJc (tVar 0) tNil)) (gTup 2 (jKg (jJg 1) (jKg (jJg 2) gNil))) (tFor (jK6 (jJc (tCB rLen (jJc (tVar 2) tNil)) tNil)) (jJg 3) (tIfS (tNot (jJy (jJr jUj (jJc (tVar 0) (jJc (tVar 1) (jJc (tVar 3) tNil)))))) (tRet (tC (.bl false))) jKr)))
 (tRet (tC (.bl true))))
theorem jXj:RdOk jQc jQe kJc:=by
 intro xs G Q h_;apply xe1 h_;clear h_;intro W h_;apply ae2 h_;clear h_;intro hz kk
 show jQe _ [some (.tup (W.map encR)),none,none,none] G
 have hs:=sz
 have hl:=hz.len
 wp_walk using 1,jQe,jJ2,iEnT
 let J1:Nat->St3->Gp->Prop:=fun k τ G'=>∃(v1 v2 v3:Option T),τ=[some (.tup (W.map encR)),v1,v2,v3]/\(∀r i e,r<k->en W r i=some e->en W e.1 e.2=some (r,i))/\Sub G G'
 refine⟨J1,?_,?_,?_,?_⟩
 ·exact xi3 _ _ _ rfl ⟨fun r i e h=>absurd h (lK5 _),.refl _⟩
 ·intros;trivial
 ·intro k y τ G1 hy h_;apply xe3 h_;clear h_;intro v1 v2 v3 h_;apply ae2 h_;clear h_;intro h1 h2
  obtain⟨z,hzz,rfl⟩:=kKx hy
  obtain⟨es,he,rfl⟩:=jJ9 hzz
  have hel:=hz.row k es he
  wp_walk using 1,jJ2,jK6,encR,List.length_map
  refine⟨by omega,by omega,?_⟩
  rw[show ((es.length:Nat):Int).toNat=es.length by omega]
  let J2:Nat->St3->Gp->Prop:=fun j τ G'=>∃(v3:Option T),τ=[some (.tup (W.map encR)),some (.int (k:Nat)),some (.tup (es.map encE)),v3]/\(∀i e,i<j->en W k i=some e->en W e.1 e.2=some (k,i))/\Sub G G'
  refine⟨J2,?_,?_,?_,?_⟩
  ·exact xi1 _ rfl ⟨fun i e h=>absurd h (lK5 _),h2⟩
  ·intros;trivial
  ·intro j x τ G2 hx h_;apply xe1 h_;clear h_;intro v3 h_;apply ae2 h_;clear h_;intro i1 i2
   obtain⟨hj,rfl⟩:=jU5 hx
   have hej:es[j]? =some es[j]:=lJp hj
   have hen:=kQ4 he hej
   wp_walk using 1,tSeq
   refine⟨W,k,j,_,rfl,hen,fun G3 c hc s3=>⟨c,rfl,?_⟩⟩
   cases c with
   | false=>
    rw[lJc rfl]
    refine kk G3 false (Iff.intro (fun z=>Bool.noConfusion z) fun sy=> ?_) (i2.trans s3)
    exact absurd (hc.mpr (sy _ _ _ _ hen)) lJs
   | true=>
    rw[lJb (by decide)]
    refine xi1 _ rfl ⟨fun i e hi h=> ?_,i2.trans s3⟩
    rcases lK8 (lQc hi) with q | rfl
    ·exact i1 i e q h
    ·rw[hen] at h;cases h;exact hc.mp rfl
  ·intro τ G2 h_;apply xe1 h_;clear h_;intro v3 h_;apply ae2 h_;clear h_;intro i1 i2
   rw[jXg] at i1
   refine xi3 _ _ _ rfl ⟨fun r i e hr h=> ?_,i2⟩
   rcases lK8 (lQc hr) with q | rfl
   ·exact h1 r i e q h
   ·obtain⟨us,u1,u2⟩:=jV7 h
    rw[he] at u1;cases u1
    exact i1 i e (lJj.mp u2).1 h
 ·intro τ G1 h_;apply xe3 h_;clear h_;intro v1 v2 v3 h_;apply ae2 h_;clear h_;intro h1 h2
  rw[jJ3,lJf] at h1
  wp_walk using 1,tSeq
  exact kk G1 true (Iff.intro (fun _ r i s j h=>h1 r i (s,j) (qQ2 h) h) fun _=>rfl) h2
def jXd:Sp3:=fun xs G Q=>∃W:Web,xs=[encW W]/\Sz W/\∀G' c,(c=true↔IsW W)->Sub G G'->Q (.bl c) G'
def qXr:List Str:=["thing","part"]
noncomputable def jZm:TS3:=
 (tSeq (tIfS (tOr (tNot (jJy (tCB rIsi (jJc (tVar 0) (jJc (tC (.ty "tuple")) tNil))))) (jJy (tOp rEqA (tCB qJ6 (jJc (tVar 0) tNil)) (tC (.int 0))))) (tRet (tC (.bl false))) jKr)
 (tSeq (tIfS (tNot (jJy (tCB rAll (jJc (jKp [false,true] (iSeq (tVar 0)) (jJg 1) jQg (jJr jX2 (jJc (tVar 1) tNil))) tNil)))) (tRet (tC (.bl false))) jKr)
 (tRet (jY6 (jJr jQc (jJc (tVar 0) tNil)) (tOp rEqA (tCB qJ6 (jJc (jJr jKo (jJc (tVar 0) (jJc (tC (.int 0)) tNil))) tNil)) (tCB qJ6 (jJc (tVar 0) tNil)))))))
theorem kVa:RdOk jXd jZm qXr:=by
 intro xs G Q h_;apply xe1 h_;clear h_;intro W h_;apply ae2 h_;clear h_;intro hz kk
 show jZm _ [some (.tup (W.map encR)),none] G
 have hs:=sz
 have hl:=hz.len
 wp_walk using 1,jZm,rIsi,qJ6,rEqA,iSeq,kYb,lenG,List.length_map
 refine⟨_,kV0 (c:=0),?_⟩
 by_cases h0:W.length=0
 ·rw[lJc (lJ4 h0)]
  exact kk G false (Iff.intro (fun z=>Bool.noConfusion z) fun z=>by have:=z.1;omega) (.refl _)
 rw[lJb (by simpa using (h0))]
 refine jKe (fun _=>T.bl true) (by omega) (fun _ _=>trivial) ?_ ?_
 ·intro i es he G' K K0 s hk
  wp_walk using 1,tSeq
  exact⟨es,rfl,hz.row i es he,fun G4 s4=>hk G4 s4⟩
 intro D G1 hD h1 s1
 refine⟨D,_,_,rfl,h1,jX1 (f:=fun _=>true),true,by rw[lKp.mpr (fun _ _=>rfl)],?_⟩
 rw[lJb (by decide)]
 refine⟨W,rfl,hz,fun G2 c hc s2=> ?_⟩
 cases c with
 | false=>
  refine⟨false,rfl,?_⟩
  rw[lJb (by decide)]
  exact kk G2 false (Iff.intro (fun z=>Bool.noConfusion z) fun z=>absurd (hc.mpr z.2.1) lJs) (s1.trans s2)
 | true=>
  have sy:=hc.mp rfl
  refine⟨true,rfl,?_⟩
  rw[lJc rfl]
  refine⟨W,0,rfl,hz.fine sy,by omega,fun d G3 P hd hG3 hk _ s3=>⟨(jQ0 P).length,by simp only[hG3],_,kV0,?_⟩⟩
  have hkl:(jQ0 P).length=(bfs W 0).length:=by rw[<-hk];simp[jQ0]
  refine kk G3 _ ?_ ((s1.trans s2).trans s3)
  rw[lKm,hkl]
  exact⟨fun z=>⟨by omega,sy,z⟩,fun z=>z.2.2⟩
def ix:List Nat->Nat->Nat
 | [],_=>0
 | a::l,x=>if a=x then 0 else ix l x+1
def endT (F:List Nat) (es:List (Nat×Nat)):List (Nat×Nat):=es.map fun e=>(ix F e.1,e.2)
def kQc (W:Web) (r:Nat):Web:=(bfs W r).map fun q=>endT (bfs W r) (row W q)
theorem qKu {F:List Nat}:numT (jJk F)=(List.range F.length).map fun i:Nat=>T.tup [.int (i:Nat),.int (F.getD i 0:Nat)]:=by
 apply lVk
 intro i
 by_cases hi:i<F.length
 ·rw[jXp (x:= .int (F[i]:Nat)) (by simp[jJk,hi]),lKj,lX4 hi]
  show _=some (T.tup [T.int (i:Nat),T.int ((F.getD i 0:Nat):Int)])
  rw[show F.getD i 0=F[i] by simp[List.getD,hi]]
 ·rw[lKo (by rw[qVn];simp[jJk];omega),lKo (by simp;omega)]
def numK (F:List Nat):List (Int×T):=(List.range F.length).map fun i:Nat=>((F.getD i 0:Nat),T.int (i:Nat))
theorem qKv {F:List Nat}:(numK F).map (·.1)=F.map fun n:Nat=>(n:Int):=by
 unfold numK
 apply lVk
 intro i
 by_cases hi:i<F.length
 ·simp[hi]
 ·rw[lKo (by simp;omega),lKo (by simp;omega)]
theorem ix_at {x:Nat}:∀ {F:List Nat},x∈F->F[ix F x]? =some x/\∀k,k<ix F x->F[k]? ≠some x
 | a::l,h=>by
  by_cases e:a=x
  ·rw[ix,lJc e];exact⟨by rw[e];rfl,fun k hk=>absurd hk (lK5 _)⟩
  ·rcases (lJr.mp h) with z | z
   ·exact absurd z.symm e
   ·obtain⟨h1,h2⟩:=ix_at z
    rw[ix,lJb e]
    refine⟨by simpa using h1,fun k hk=> ?_⟩
    cases k with
    | zero=>intro q;exact e (by simpa using q)
    | succ k=>simpa using h2 k (by omega)
theorem kJs {κ:Type} [DecidableEq κ]:∀ {kvs:List (κ×T)} {k:κ} {v:T} {j:Nat},kvs[j]? =some (k,v)->(∀i p,i<j->kvs[i]? =some p->p.1≠k)->valT kvs k=some v
 | [],_,_,j,h,_=>by simp at h
 | p::r,k,v,0,h,_=>by
  have:p=(k,v):=by simpa using h
  subst this
  simp[valT]
 | p::r,k,v,j+1,h,h2=>by
  have e:p.1≠k:=h2 0 p (Nat.zero_lt_succ _) rfl
  have:=kJs (kvs:=r) (k:=k) (v:=v) (j:=j) (by simpa using h) fun i q hi hq=>h2 (i+1) q (by omega) (by simpa using hq)
  unfold valT at this ⊢
  rw[List.find?_cons_of_neg (by simpa using e)]
  exact this
theorem qZ3 {G:Gp} {p:Addr} {kvs:List (L2.Key×T)} {x:Int} {t:T} (h:G p=some (.dck kvs)) (hv:valT kvs (Sum.inl x)=some t):ixR G (.ref p) (.int x)=some t:=by
 simp only[ixR,seqT,h,asL,dAt,jV4,hv]
theorem kZ5 {F:List Nat} {x:Nat} (nd:F.Nodup) (hx:x∈F):valT ((numK F).map fun kv=>((Sum.inl kv.1:L2.Key),kv.2)) (Sum.inl (x:Int))=some (.int (ix F x:Nat)):=by
 obtain⟨h1,h2⟩:=ix_at hx
 have hl:ix F x<F.length:=(lJj.mp h1).1
 have at_:∀i,i<F.length->((numK F).map fun kv=>((Sum.inl kv.1:L2.Key),kv.2))[i]? =some (Sum.inl ((F.getD i 0:Nat):Int),T.int (i:Nat)):=fun i hi=>by simp[numK,hi]
 refine kJs (j:=ix F x) ?_ fun i p hi hp=> ?_
 ·rw[at_ _ hl,show F.getD (ix F x) 0=x by simp[List.getD,h1]]
 ·rw[at_ i (by omega)] at hp
  cases hp
  intro z
  have z1:((F.getD i 0:Nat):Int)=(x:Int):=Sum.inl.inj z
  refine h2 i hi ?_
  rw[lJp (by omega)]
  congr 1
  have:F.getD i 0=F[i]'(by omega):=by simp[List.getD,show i<F.length by omega]
  omega
def jY9:Sp3:=fun xs G Q=>∃(W:Web) (r0:Nat),xs=[encW W,.int (r0:Nat)]/\Fine W/\r0<W.length/\∀G',Sub G G'->Q (encW (kQc W r0)) G'
def kYt:List Str:=["_law_web","_law_room","_law_order","_law_at","_law_other","_law_door","_law_place","_law_k","_law_one"]
noncomputable def kQm:TS3:=
 (tSeq (tAsg (tLst (jJc (tVar 1) tNil)) (jJg 2))
 (tSeq (tAsg (tC (.int 0)) (jJg 3))
 (tSeq (jVp (jJy (tOp rLt (tVar 3) (tCB rLen (jJc (tVar 2) tNil)))) (tSeq (tFor (iSeq (tOp rIxF (tVar 0) (tOp rIxF (tVar 2) (tVar 3)))) (gTup 2 (jKg (jJg 4) (jKg (jJg 5) gNil))) (tIfS (jJy (tOp jKw (tVar 4) (tVar 2))) (jUh (tBM "list" jKq (tVar 2) (jJc (tVar 4) tNil))) jKr))
 (tAsg (tOp jK1 (tVar 3) (tC (.int 1))) (jJg 3))))
 (tSeq (tAsg (tCB qJ8 (jJc (jKp [false,false,false,false,false,false,false,true,true] (kJm (jJc (tVar 2) tNil)) (gTup 2 (jKg (jJg 7) (jKg (jJg 8) gNil))) jQg (tTup (jJc (tVar 8) (jJc (tVar 7) tNil)))) tNil)) (jJg 6))
 (tRet (tCB jK2 (jJc (jKp [false,false,false,false,false,false,false,false,true] (iSeq (tVar 2)) (jJg 8) jQg (tCB jK2 (jJc (jKp [false,false,false,false,true,true,false,false,false] (iSeq (tOp rIxF (tVar 0) (tVar 8))) (gTup 2 (jKg (jJg 4) (jKg (jJg 5) gNil))) jQg (tTup (jJc (tOp rIxF (tVar 6) (tVar 4)) (jJc (tVar 5) tNil)))) tNil))) tNil)))))))
noncomputable def qJ0:TS3:=(tSeq (tAsg (tCB qJ8 (jJc (jKp [false,false,false,false,false,false,false,true,true] (kJm (jJc (tVar 2) tNil)) (gTup 2 (jKg (jJg 7) (jKg (jJg 8) gNil))) jQg (tTup (jJc (tVar 8) (jJc (tVar 7) tNil)))) tNil)) (jJg 6))
 (tRet (tCB jK2 (jJc (jKp [false,false,false,false,false,false,false,false,true] (iSeq (tVar 2)) (jJg 8) jQg (tCB jK2 (jJc (jKp [false,false,false,false,true,true,false,false,false] (iSeq (tOp rIxF (tVar 0) (tVar 8))) (gTup 2 (jKg (jJg 4) (jKg (jJg 5) gNil))) jQg (tTup (jJc (tOp rIxF (tVar 6) (tVar 4)) (jJc (tVar 5) tNil)))) tNil))) tNil))))
theorem qU8:kQm=tSeq (tAsg (tLst (jJc (tVar 1) tNil)) (jJg 2)) (tSeq (tAsg (tC (.int 0)) (jJg 3)) (tSeq (jVp (jJy (tOp rLt (tVar 3) (tCB rLen (jJc (tVar 2) tNil)))) (tSeq (tFor (iSeq (tOp rIxF (tVar 0) (tOp rIxF (tVar 2) (tVar 3)))) (gTup 2 (jKg (jJg 4) (jKg (jJg 5) gNil))) (tIfS (jJy (tOp jKw (tVar 4) (tVar 2))) (jUh (tBM "list" jKq (tVar 2) (jJc (tVar 4) tNil))) jKr))
 (tAsg (tOp jK1 (tVar 3) (tC (.int 1))) (jJg 3)))) qJ0)):=rfl
theorem tf3_ok {D':Ends3} {G:Gp} {p:Addr} {W:Web} {F:List Nat} {v1 v3 v4 v5:Option T} (fine:Fine W) (nd:F.Nodup) (hlt:∀x,x∈F->x<W.length) (cl:∀q,q∈F->∀e,e∈row W q->e.1∈F) (hp:G p=some (.lst (jJk F)))
  (kk:∀G',Sub G G'->D'.rt (encW (F.map fun q=>endT F (row W q))) G'):qJ0 D' [some (.tup (W.map encR)),v1,some (.ref p),v3,v4,v5,none,none,none] G:=by
 have hs:=sz
 have hFl:=jK3 nd hlt
 have hWl:=fine.len
 wp_walk using 1,qJ0,kJm,iSeq
 refine⟨_,by simp only[jQt,hp,asL];rfl,?_⟩
 rw[qKu]
 refine jKe (fun i:Nat=>T.tup [.int (F.getD i 0:Nat),.int (i:Nat)]) (by simp;omega) (fun G' s=>by simp only[jQt,s _ _ hp,asL]) ?_ ?_
 ·intro i k hk G' K K0 s hkk
  wp_walk using 1,tSeq
  exact⟨by omega,hkk _ (.refl _)⟩
 ·intro q G1 hq0 hq1 s1
  wp_walk using 1,tSeq
  have hq2:G1 q=some (.lst ((numK F).map fun kv=> .tup [.int kv.1,kv.2])):=by rw[hq1,numK,lJy];rfl
  refine⟨q,numK F,rfl,hq2,?_,by simp[numK];omega,fun nn hnn=> ?_⟩
  ·rw[qKv]
   exact List.Pairwise.map _ (fun a b h z=>h (by omega)) nd
  ·have s2:Sub G (gup G1 nn (.dck ((numK F).map fun kv=>(Sum.inl kv.1,kv.2)))):=s1.trans (.new hnn)
   have hn2:(gup G1 nn (.dck ((numK F).map fun kv=>((Sum.inl kv.1:L2.Key),kv.2)))) nn=some (.dck ((numK F).map fun kv=>(Sum.inl kv.1,kv.2))):=jJe
   generalize gup G1 nn (.dck ((numK F).map fun kv=>((Sum.inl kv.1:L2.Key),kv.2)))=G2 at s2 hn2
   have hp2:=s2 _ _ hp
   refine⟨_,jJi hp2,?_⟩
   refine jKe (es:=F) (enc:=fun n:Nat=>T.int (n:Nat)) (fun q=>encR (endT F (row W q))) (by omega) (fun G' s=>jJi (s _ _ hp2)) ?_ ?_
   ·intro i x hx G' K K0 s hkk
    have hxF:=lJu hx
    have hxW:=hlt x hxF
    obtain⟨es,hrow⟩:∃es,W[x]? =some es:=⟨_,lJp hxW⟩
    have hel:=fine.row x es hrow
    wp_walk using 1,iSeq,jV6 hrow,encR
    refine jKe (es:=es) (enc:=encE) (fun e=>encE (ix F e.1,e.2)) (by omega) (fun _ _=>trivial) ?_ ?_
    ·intro j e he G'' K' K0' s' hkk'
     have heF:e.1∈F:=cl x hxF e (by rw[jXf hrow];exact lJu he)
     wp_walk using 1,encE
     exact⟨_,qZ3 (s' _ _ (s _ _ hn2)) (kZ5 nd heF),by omega,hkk' _ (.refl _)⟩
    ·intro w G3 hw0 hw3 s3
     wp_walk using 1,jJi hw3
     have:=hkk G3 s3
     unfold endT at this
     rw[jXf hrow,encR,lJy] at this
     exact this
   ·intro w G3 hw0 hw3 s3
    wp_walk using 1,jJi hw3
    have:=kk G3 (s2.trans s3)
    unfold encW at this
    rw[lJy] at this
    exact this
theorem kU7:RdOk jY9 kQm kYt:=by
 intro xs G Q h_;apply xe2 h_;clear h_;intro W r0 h_;apply ae3 h_;clear h_;intro fine hr0 kk
 rw[show jQ3 kYt [encW W,.int (r0:Nat)]=[some (.tup (W.map encR)),some (.int (r0:Nat)),none,none,none,none,none,none,none] from rfl,qU8]
 have hs:=sz
 have hl:=fine.len
 wp_walk using 1,jVp,jJ2
 refine⟨by omega,fun p hp=> ?_⟩
 let P:Nat->St3->Gp->Prop:=fun m τ G'=>∃(k:Nat) (v4 v5:Option T) (F:List Nat),τ=[some (.tup (W.map encR)),some (.int (r0:Nat)),some (.ref p),some (.int (k:Nat)),v4,v5,none,none,none]/\G' p=some (.lst (jJk F))/\Found W r0 F/\Sub G G'/\bfs W r0=bfsN W (W.length-k) k F/\m=W.length-k/\∀q,q∈F.take k->∀e,e∈row W q->e.1∈F
 refine⟨P,⟨_,0,none,none,[r0],rfl,jJe,⟨by simp,by simpa using hr0,fun S h0 _ x hx=>by rw[lJt] at hx;rw[hx];exact h0⟩,.new hp,rfl,rfl,fun q hq=>by simp at hq⟩,?_⟩
 intro m τ G1 h_;apply xe4 h_;clear h_;intro k v4 v5 F h_;apply ae6 h_;clear h_;intro h1 h2 h3 hB e4_ hcl
 subst e4_
 wp_walk using 1,iSeq,jJi h1,jUt h1
 have hFl:=jK3 h2.nd h2.lt
 split
 ·rename_i hc
  have hat:k<F.length:=by rw[jJk,lJf] at hc;omega
  have hF:F[k]? =some F[k]:=lJp hat
  have hfm:F[k]∈F:=lV4 hat
  generalize F[k]=r at hF hfm
  have hrW:=h2.lt r hfm
  have hW:W[r]? =some W[r]:=lJp hrW
  generalize W[r]=es at hW
  have hatI:L2.atI (jJk F) (k:Nat)=some (.int (r:Nat)):=by rw[atN];simp[jJk,hF]
  wp_walk using 1,hatI,jV6 hW,encR
  let N:St3->Gp->Prop:=P (W.length-(k+1))
  refine⟨N,fun τ' G' hN=>⟨_,by omega,hN⟩,?_⟩
  let J1:Nat->St3->Gp->Prop:=fun j τ G'=>∃(v4 v5:Option T) (X:List Nat),τ=[some (.tup (W.map encR)),some (.int (r0:Nat)),some (.ref p),some (.int (k:Nat)),v4,v5,none,none,none]/\G' p=some (.lst (jJk (F++X)))/\Found W r0 (F++X)/\Sub G G'/\F++X=vis F (es.take j)/\∀e,e∈es.take j->e.1∈F++X
  refine⟨J1,?_,?_,?_,?_⟩
  ·exact⟨_,_,[],rfl,by rw[lQb];exact h1,by rw[lQb];exact h2,h3,by rw[lQb];rfl,fun e z=>by simp at z⟩
  ·intros;trivial
  ·intro j x τ G2 hx0 h_;apply xe3 h_;clear h_;intro v4 v5 X h_;apply ae5 h_;clear h_;intro i1 i3 i4 iB i5
   obtain⟨e,hx,rfl⟩:=jJ9 hx0
   have hen:=kQ4 hW hx
   have hv:=kJ9 (F:=F) hx
   rw[<-iB] at hv
   have hte:es.take (j+1)=es.take j++[e]:=by rw[lQi,hx];rfl
   wp_walk using 1,encE,jKw,kYc i1,jKl i1,i1
   by_cases hm:e.1∈F++X
   ·have hct:(F++X).contains e.1=true:=lQr.mpr hm
    rw[lJb (by rw[hct];decide)]
    rw[lJc hct] at hv
    refine⟨_,_,X,rfl,i1,i3,i4,hv.symm,fun e' z=> ?_⟩
    rw[hte,lJn,lJt] at z
    rcases z with z | rfl
    ·exact i5 e' z
    ·exact hm
   ·have hct:(F++X).contains e.1=false:=by rw[<-lX9,lQr];exact hm
    rw[lJc hct]
    rw[lJb (by rw[hct];decide)] at hv
    have hFl:=jK3 i3.nd i3.lt
    refine⟨by rw[jJk,lJf];omega,_,_,X++[e.1],rfl,by rw[jJe,<-lJo];simp[jJk],?_,i4.over hp,by rw[<-lJo];exact hv.symm,fun e' z=> ?_⟩
    ·rw[<-lJo]
     refine⟨?_,?_,?_⟩
     ·rw[lVa];exact⟨i3.nd,by simp,fun a ha b hb=>by rw[lJt] at hb;subst hb;rintro rfl;exact hm ha⟩
     ·intro x hx
      rw[lJn,lJt] at hx
      rcases hx with hx | rfl
      ·exact i3.lt x hx
      ·exact fine.rng _ _ _ _ hen
     ·intro S h0 hc x hx
      rw[lJn,lJt] at hx
      rcases hx with hx | rfl
      ·exact i3.got S h0 hc x hx
      ·exact hc _ _ _ _ (h2.got S h0 hc r hfm) hen
    ·rw[hte,lJn,lJt] at z
     rw[<-lJo]
     rcases z with z | rfl
     ·exact lKd _ (i5 e' z)
     ·exact lJ3 _ (by simp)
  ·intro τ G' h_;apply xe3 h_;clear h_;intro v4 v5 X h_;apply ae5 h_;clear h_;intro i1 i3 i4 iB i5
   wp_walk using 1,tSeq
   rw[lJf,lQq] at iB i5
   refine⟨k+1,_,_,F++X,rfl,i1,i3,i4,?_,rfl,fun q hq e he=> ?_⟩
   ·rw[hB,show W.length-k=W.length-(k+1)+1 by omega,jXy hF,jXf hW,iB]
   ·rw[lQi,lKi hat,hF,lVt (by omega)] at hq
    rcases (lJn.mp hq) with hq | hq
    ·exact lKd _ (hcl q hq e he)
    ·have:q=r:=by simpa using hq
     subst this
     rw[jXf hW] at he;exact i5 e he
 ·rename_i hc
  have hkF:F.length<=k:=by rw[jJk,lJf] at hc;omega
  have hb:bfs W r0=F:=by rw[hB,jZ6 hkF]
  rw[lQs hkF] at hcl
  refine tf3_ok fine h2.nd h2.lt hcl h1 fun G' s'=> ?_
  have:=kk G' (h3.trans s')
  unfold kQc at this
  rw[hb] at this
  exact this
abbrev DD:=List ((Nat×Nat)×(Nat×Nat))
def getE (e:Nat×Nat) (D:DD):Option (Nat×Nat):=(D.find? fun p=>decide (p.1=e)).map (·.2)
def putE (D:DD) (k v:Nat×Nat):DD:=if (D.any fun p=>decide (p.1=k))=true then D.map (fun p=>if p.1=k then (p.1,v) else p) else D++[(k,v)]
def tieE (D:DD) (a b:Nat×Nat):DD:=putE (putE D a b) b a
def mxE (D:DD):Nat:=D.foldl (fun m p=>if p.1.1>m then p.1.1 else m) 0
noncomputable def jQv (D:DD) (e:Nat×Nat) (r d:Nat):List DD:=
 if (getE e D).isSome=true then [D] else (List.range (min (mxE D+2) r-e.1)).flatMap fun k=>(List.range d).filterMap fun i=>if (getE (e.1+k,i) D).isSome=true then none else some (tieE D e (e.1+k,i))
def rowL (r d room:Nat) (l:List DD):Nat->List DD
 | 0=>l
 | j+1=>(rowL r d room l j).flatMap fun D=>jQv D (room,j) r d
def allL (r d:Nat):Nat->List DD
 | 0=>[[]]
 | k+1=>rowL r d k (allL r d k) d
def webD (r d:Nat) (D:DD):Web:=(List.range r).map fun k=>(List.range d).map fun i=>(getE (k,i) D).getD (0,0)
def symB (W:Web):Bool:=(List.range W.length).all fun r=>(List.range (row W r).length).all fun i=>match en W r i with
 | some e=>decide (en W e.1 e.2=some (r,i))
 | none=>true
def isWB (W:Web):Bool:=decide (0<W.length)&&(symB W&&decide ((bfs W 0).length=W.length))
def evP (r d:Nat):List Web:=((allL r d r).map (webD r d)).filter isWB
noncomputable def prs:Nat->List (Nat×Nat)->List DD
 | _,[]=>[[]]
 | 0,_::_=>[]
 | n+1,f::rest=>(prs n rest).map ((f,f):: ·)++(List.range rest.length).flatMap fun k=>(prs n (rest.take k++rest.drop (k+1))).map ((f,rest.getD k (0,0)):: ·)
def allE (r d:Nat):List (Nat×Nat):=(List.range r).flatMap fun k=>(List.range d).map fun i=>(k,i)
def jU0 (p:DD):DD:=(p++p.map fun x=>(x.2,x.1)).foldl (fun D x=>putE D x.1 x.2) []
def evL (r d:Nat):List Web:=((prs 9 (allE r d)).map fun p=>webD r d (jU0 p)).filter fun W=>decide (kQc W 0=W)
def keyR (es:List (Nat×Nat)):List L2.K1:=es.map fun p=> .inr [.inl (p.1:Int),.inl (p.2:Int)]
def keyW (V:Web):L2.TKey:=V.map fun es=> .inr (keyR es)
def risB:List Web->Bool
 | a::b::l=>decide (ltK (keyW a) (keyW b)=some true)&&risB (b::l)
 | _=>true
def okL (l:List DD):Bool:=decide (l.length<=5000)&&l.all fun D=>decide (D.length<=20)&&D.all fun p=>decide (p.1.1<12)&&decide (p.1.2<12)
noncomputable def chkS (r d:Nat):Bool:=decide (evP r d=evL r d)&&(risB (evL r d)&&(((List.range r).all fun k=>(List.range (d+1)).all fun j=>okL (rowL r d k (allL r d k) j))&&(((allL r d r).all fun D=>(allE r d).all fun e=>(getE e D).isSome)&&((prs 9 (allE r d)).all fun p=>decide (p.length<=20)&&(((allE r d).all fun e=>(getE e (jU0 p)).isSome)&&symB (webD r d (jU0 p)))))))
noncomputable def szF (most doors:Nat):List (Nat×Nat):=(List.range 8).flatMap fun w=>(((List.range (7-doors)).map (· +doors)).filter fun m=>decide ((w+1)*m<=most)&&(decide (m>0)||decide (w+1<4))).map fun m=>(w+1,m)
theorem chk10:chkS 1 0=true:=by decide +kernel
theorem chk11:chkS 1 1=true:=by decide +kernel
theorem chk12:chkS 1 2=true:=by decide +kernel
theorem chk13:chkS 1 3=true:=by decide +kernel
theorem chk14:chkS 1 4=true:=by decide +kernel
theorem chk15:chkS 1 5=true:=by decide +kernel
theorem chk16:chkS 1 6=true:=by decide +kernel
theorem chk20:chkS 2 0=true:=by decide +kernel
theorem chk21:chkS 2 1=true:=by decide +kernel
theorem chk22:chkS 2 2=true:=by decide +kernel
theorem chk23:chkS 2 3=true:=by decide +kernel
theorem chk24:chkS 2 4=true:=by decide +kernel
theorem chk30:chkS 3 0=true:=by decide +kernel
theorem chk31:chkS 3 1=true:=by decide +kernel
theorem chk32:chkS 3 2=true:=by decide +kernel
theorem chk41:chkS 4 1=true:=by decide +kernel
theorem chk42:chkS 4 2=true:=by decide +kernel
theorem chk51:chkS 5 1=true:=by decide +kernel
theorem chk61:chkS 6 1=true:=by decide +kernel
theorem chk71:chkS 7 1=true:=by decide +kernel
theorem chk81:chkS 8 1=true:=by decide +kernel
theorem qJi:szF 8 0=[(1,0),(1,1),(1,2),(1,3),(1,4),(1,5),(1,6),(2,0),(2,1),(2,2),(2,3),(2,4),(3,0),(3,1),(3,2),(4,1),(4,2),(5,1),(6,1),(7,1),(8,1)]:=by decide +kernel
theorem chk_of {s:Nat×Nat} (h:s∈szF 8 0):(1<=s.1/\s.1<=9/\s.2<=6)/\chkS s.1 s.2=true:=by
 rw[qJi] at h
 simp only[lJr,lKt,lQk] at h
 rcases h with rfl | rfl | rfl | rfl | rfl | rfl | rfl | rfl | rfl | rfl | rfl | rfl | rfl | rfl | rfl | rfl | rfl | rfl | rfl | rfl | rfl
 ·exact⟨by decide,chk10⟩
 ·exact⟨by decide,chk11⟩
 ·exact⟨by decide,chk12⟩
 ·exact⟨by decide,chk13⟩
 ·exact⟨by decide,chk14⟩
 ·exact⟨by decide,chk15⟩
 ·exact⟨by decide,chk16⟩
 ·exact⟨by decide,chk20⟩
 ·exact⟨by decide,chk21⟩
 ·exact⟨by decide,chk22⟩
 ·exact⟨by decide,chk23⟩
 ·exact⟨by decide,chk24⟩
 ·exact⟨by decide,chk30⟩
 ·exact⟨by decide,chk31⟩
 ·exact⟨by decide,chk32⟩
 ·exact⟨by decide,chk41⟩
 ·exact⟨by decide,chk42⟩
 ·exact⟨by decide,chk51⟩
 ·exact⟨by decide,chk61⟩
 ·exact⟨by decide,chk71⟩
 ·exact⟨by decide,chk81⟩
theorem ln21:(evP 2 1).length<=1:=by decide +kernel
theorem ln22:(evP 2 2).length<=6:=by decide +kernel
theorem ln23:(evP 2 3).length<=60:=by decide +kernel
theorem ln24:(evP 2 4).length<=664:=by decide +kernel
theorem ln31:(evP 3 1).length<=0:=by decide +kernel
theorem ln32:(evP 3 2).length<=16:=by decide +kernel
theorem ln41:(evP 4 1).length<=0:=by decide +kernel
theorem ln42:(evP 4 2).length<=40:=by decide +kernel
theorem ln51:(evP 5 1).length<=0:=by decide +kernel
theorem ln61:(evP 6 1).length<=0:=by decide +kernel
theorem ln71:(evP 7 1).length<=0:=by decide +kernel
theorem ln81:(evP 8 1).length<=0:=by decide +kernel
abbrev Kvs:=List (L2.TKey×T)
def kvD (D:DD):Kvs:=D.map fun p=>(keyE p.1,encE p.2)
theorem kX9 {a b:Nat×Nat}:keyE a=keyE b↔a=b:=⟨kX8,fun h=>by rw[h]⟩
theorem kKa {D:DD} {e:Nat×Nat}:valT (kvD D) (keyE e)=(getE e D).map encE:=by
 unfold valT getE kvD
 rw[List.find?_map,show ((fun kv:L2.TKey×T=>decide (kv.1=keyE e))∘fun p:(Nat×Nat)×(Nat×Nat)=>(keyE p.1,encE p.2))=fun p=>decide (p.1=e) from funext fun p=>decide_eq_decide.mpr kX9,Option.map_map,Option.map_map]
 rfl
theorem kKt {D:DD} {k v:Nat×Nat}:putT (kvD D) (keyE k) (encE v)=kvD (putE D k v):=by
 unfold putT putE kvD
 rw[List.any_map,show ((fun kv:L2.TKey×T=>decide (kv.1=keyE k))∘fun p:(Nat×Nat)×(Nat×Nat)=>(keyE p.1,encE p.2))=fun p=>decide (p.1=k) from funext fun p=>decide_eq_decide.mpr kX9]
 split
 ·rw[lJy,lJy]
  refine List.map_congr_left fun p _=> ?_
  show (if keyE p.1=keyE k then (keyE p.1,encE v) else (keyE p.1,encE p.2))=(fun p:(Nat×Nat)×(Nat×Nat)=>(keyE p.1,encE p.2)) (if p.1=k then (p.1,v) else p)
  by_cases h:p.1=k
  ·rw[lJc (by rw[h]),lJc h]
  ·rw[lJb (fun z=>h (kX8 z)),lJb h]
 ·rw[lKl];rfl
def SmD (D:DD):Prop:=∀p,p∈D->p.1.1<12/\p.1.2<12
theorem SmD.small {D:DD} (h:SmD D):∀x,x∈kvD D->kUk x.1:=by
 intro x hx
 obtain⟨p,hp,rfl⟩:=lJl.mp hx
 exact⟨p.1.1,p.1.2,(h p hp).1,(h p hp).2,rfl⟩
theorem qZt {D:DD}:(kvD D).length=D.length:=by simp[kvD]
def DctAt (G:Gp) (p:Addr) (D:DD):Prop:=G p=some (.dct (kvD D))\/G p=some (.fdc (kvD D))
noncomputable def kUx:Sp3:=fun xs G Q=>∃(p:Addr) (D:DD) (a b:Nat×Nat),xs=[.ref p,encE a,encE b]/\DctAt G p D/\SmD D/\D.length<=1000/\∀q G',G q=none->G' q=some (.dct (kvD (tieE D a b)))->Sub G G'->Q (.ref q) G'
def N_tied:List Str:=["leads","start","end","further"]
noncomputable def kVc:TS3:=
 (tSeq (tAsg (tCB qJ7 (jJc (tVar 0) tNil)) (jJg 3))
 (tSeq (tAsg (tVar 2) (gSub (tVar 3) (tVar 1) kJi))
 (tSeq (tAsg (tVar 1) (gSub (tVar 3) (tVar 2) kJi))
 (tRet (tVar 3)))))
theorem qJy:RdOk kUx kVc N_tied:=by
 intro xs G Q h_;apply xe4 h_;clear h_;intro p D a b h_;apply ae4 h_;clear h_;intro hp hk hl kk
 show kVc _ [some (.ref p),some (encE a),some (encE b),none] G
 have hs:=sz
 have hl2:=qZt (D:=D)
 wp_walk using 1,kVc,qJ7
 refine⟨kvD D,hp,hk.small,fun q hq=> ?_⟩
 have h1:=qVf (kvD D) (keyE a) (encE b)
 wp_walk using 1,tSeq
 refine⟨_,kXi jJe (ks:=keyE a) rfl (by omega),?_⟩
 wp_walk using 1,tSeq
 refine⟨_,kXi jJe (ks:=keyE b) rfl (by omega),?_⟩
 wp_walk using 1,tSeq
 exact kk q _ hq (by rw[jJe,kKt,kKt];rfl) (.new hq)
def rowD (d:Nat) (D:DD) (k:Nat):List (Nat×Nat):=(List.range d).map fun i=>(getE (k,i) D).getD (0,0)
noncomputable def jUi:Sp3:=fun xs G Q=>∃(c p:Addr) (r d:Nat) (D:DD),xs=[.ref c,.ref p]/\G c=some (.lst (jJk (List.replicate r d)))/\G p=some (.dct (kvD D))/\r<=100/\d<=100/\(∀k i,k<r->i<d->(getE (k,i) D).isSome=true)/\∀G',Sub G G'->Q (encW (webD r d D)) G'
def kZz:List Str:=["counts","leads","rooms","room","doors","door"]
noncomputable def jVw:TS3:=
 (tSeq (tAsg (tLst tNil) (jJg 2))
 (tSeq (tFor (kJm (jJc (tVar 0) tNil)) (gTup 2 (jKg (jJg 3) (jKg (jJg 4) gNil))) (jUh (tBM "list" jKq (tVar 2) (jJc (tCB jK2 (jJc (jKp [false,false,false,false,false,true] (jK6 (jJc (tVar 4) tNil)) (jJg 5) jQg (tBM "dict" qY7 (tVar 1) (jJc (tTup (jJc (tVar 3) (jJc (tVar 5) tNil))) tNil))) tNil)) tNil))))
 (tRet (tCB jK2 (jJc (tVar 2) tNil)))))
theorem kKn:RdOk jUi jVw kZz:=by
 intro xs G Q h_;apply xe5 h_;clear h_;intro c p r d D h_;apply ae6 h_;clear h_;intro hc hp hr hd hall kk
 show jVw _ [some (.ref c),some (.ref p),none,none,none,none] G
 have hs:=sz
 wp_walk using 1,jVw,jJ2,kJm
 refine⟨lJz _,fun q hq=> ?_⟩
 have hpq:=jJj hp hq
 have hcq:=jJj hc hq
 have ls:∀G',Sub G G'->jQt G' (.ref c)=some (jJk (List.replicate r d)):=fun G' s=>by simp only[jQt,s _ _ hc,asL]
 refine⟨_,ls _ (.new hq),?_⟩
 let J1:Nat->St3->Gp->Prop:=fun i τ G'=>∃(v3 v4:Option T),τ=[some (.ref c),some (.ref p),some (.ref q),v3,v4,none]/\G' q=some (.lst ((List.range i).map fun k=>encR (rowD d D k)))/\Sub G G'
 refine⟨J1,?_,?_,?_,?_⟩
 ·exact xi2 _ _ rfl ⟨jJe,.new hq⟩
 ·intro i τ G' hi h_;apply xe2 h_;clear h_;intro v3 v4 h_;apply ae2 h_;clear h_;intro h2 h3
  exact ls _ h3
 ·intro i y τ G1 hy h_;apply xe2 h_;clear h_;intro v3 v4 h_;apply ae2 h_;clear h_;intro h2 h3
  obtain⟨z,hz,rfl⟩:=kKx hy
  obtain⟨d',hd',rfl⟩:=jJ9 hz
  rw[List.getElem?_replicate] at hd'
  split at hd'
  rotate_left
  ·cases hd'
  rename_i hi
  cases hd'
  wp_walk using 1,jK6,jKl h2
  refine⟨by omega,by omega,?_⟩
  rw[show ((d:Nat):Int).toNat=d by omega,jVg]
  refine jKe (es:=List.range d) (enc:=fun k:Nat=>T.int k) (fun j=>encE ((getE (i,j) D).getD (0,0))) (by simp;omega) (fun _ _=>trivial) ?_ ?_
  ·intro j x hx G2 K K0 s2 hK
   have hxd:x<d:=by have:=lJu hx;simpa using this
   have hp2:=s2 _ _ (h3 _ _ hp)
   have ha:=hall i x hi hxd
   obtain⟨e,he⟩:=lXc.mp ha
   wp_walk using 1,qY7
   refine⟨by simp[tyT,hp2],by omega,some (encE e),?_,?_⟩
   ·simp only[dAt,hp2]
    show (match jQy [.int (i:Nat),.int (x:Nat)] with | some ks=>some (valT (kvD D) ks) | none=>none)=_
    rw[show jQy [.int (i:Nat),.int (x:Nat)]=some (keyE (i,x)) from rfl]
    show some (valT (kvD D) (keyE (i,x)))=_
    rw[kKa,he];rfl
   ·have:=hK G2 (.refl _)
    rw[he] at this
    exact this
  ·intro E G2 hE hE2 s2
   refine⟨_,jJi hE2,?_⟩
   have hq2:=s2 _ _ h2
   wp_walk using 1,hq2
   refine⟨by simp;omega,xi2 _ _ rfl ⟨?_,(h3.trans s2).over hq⟩⟩
   rw[jJe,lVc,lKl]
   congr 3
   show [T.tup _]=[encR (rowD d D i)]
   unfold encR rowD
   rw[lJy];rfl
 ·intro τ G1 h_;apply xe2 h_;clear h_;intro v3 v4 h_;apply ae2 h_;clear h_;intro h2 h3
  wp_walk using 1,tSeq
  refine⟨_,jJi h2,?_⟩
  have:=kk G1 h3
  unfold encW webD at this
  rw[lJy] at this
  rw[jJ3,show (jJk (List.replicate r d)).length=r by simp[jJk]]
  exact this
def DsAt (G:Gp) (us:List Addr) (Ds:List DD):Prop:=us.length=Ds.length/\∀(i:Nat) (u:Addr),us[i]? =some u->∃D,Ds[i]? =some D/\G u=some (.dct (kvD D))
theorem qQe {G:Gp} {p:Addr} {D:DD} {e:Nat×Nat} (h:DctAt G p D):inR G (encE e) (.ref p)=some (getE e D).isSome:=by
 have:(valT (kvD D) (keyE e)).isSome=(getE e D).isSome:=by rw[kKa,lXw]
 rw[<-this]
 unfold inR
 rcases h with h | h<;>(simp only[seqT,h,asL,dAt];rfl)
theorem qZm:∀(D:DD) (m:Nat),jZt (m:Int) (D.map fun x=>((x.1.1:Nat):Int))=((D.foldl (fun m p=>if p.1.1>m then p.1.1 else m) m:Nat):Int)
 | [],m=>rfl
 | x::D,m=>by
  rw[lJq,jZt,lXf]
  by_cases h:x.1.1>m
  ·rw[lJc h,lJc (by omega)];exact qZm D _
  ·rw[lJb h,lJb (by omega)];exact qZm D m
theorem DsAt.sub {G G':Gp} {us:List Addr} {Ds:List DD} (h:DsAt G us Ds) (s:∀u,u∈us->∀o,G u=some o->G' u=some o):DsAt G' us Ds:=⟨h.1,fun i u hu=>let ⟨D,h1,h2⟩:=h.2 i u hu;⟨D,h1,s u (lJu hu) _ h2⟩⟩
theorem DsAt.mem {G:Gp} {us:List Addr} {Ds:List DD} (h:DsAt G us Ds) {u:Addr} (hu:u∈us):∃o,G u=some o:=by
 obtain⟨i,hi⟩:=lKa hu
 obtain⟨D,_,h2⟩:=h.2 i u hi
 exact⟨_,h2⟩
theorem DsAt.snoc {G:Gp} {us:List Addr} {Ds:List DD} (h:DsAt G us Ds) {q:Addr} {D:DD} (hq:G q=some (.dct (kvD D))):DsAt G (us++[q]) (Ds++[D]):=by
 refine⟨by simp[h.1],fun i u hu=> ?_⟩
 by_cases hi:i<us.length
 ·rw[lKi hi] at hu
  rw[lKi (by rw[<-h.1];exact hi)]
  exact h.2 i u hu
 ·rw[lKu (by omega)] at hu
  rw[lKu (by rw[<-h.1];omega),<-h.1]
  match hk:i-us.length,hu with
  | 0,hu=>cases hu;exact⟨D,rfl,hq⟩
theorem kQv {p q:Addr} {G G':Gp} {o:GO} (k:Keep p G G') (hp:G' p=some o) (hq:G' q=none):G q=none:=by
 cases h:G q with
 | none=>rfl
 | some u=>
  have:q≠p:=fun e=>by rw[e,hp] at hq;cases hq
  rw[k q u this h] at hq;cases hq
theorem kZc {us:List Addr} {q:Addr} (h:us.Nodup) (hq:q∉us):(us++[q]).Nodup:=by
 rw[lVa]
 exact⟨h,by simp,fun a ha b hb=>by rw[lJt] at hb;subst hb;rintro rfl;exact hq ha⟩
noncomputable def jVe:Sp3:=fun xs G Q=>∃(p:Addr) (D:DD) (e:Nat×Nat) (r d:Nat),xs=[.ref p,encE e,.int r,.int d]/\G p=some (.dct (kvD D))/\SmD D/\D.length<=20/\r<=9/\d<=9/\e.1<=9/\∀q us G',G q=none->G' q=some (.lst (us.map T.ref))->DsAt G' us (jQv D e r d)->(∀u,u∈us->u=p\/G u=none)->us.Nodup->q∉us->Keep p G G'->Q (.ref q) G'
def qUn:List Str:=["begun","end","rooms","doors","least_new","told","room","door","other"]
noncomputable def jX5:TS3:=
 (tSeq (tIfS (jJy (tOp qY6 (tVar 1) (tVar 0))) (tRet (tLst (jJc (tVar 0) tNil))) jKr)
 (tSeq (tAsg (tOp jK1 (tCB qY4 (jJc (tOp jK1 (tLst (jJc (tC (.int 0)) tNil)) (jKp [false,false,false,false,false,false,false,false,true] (iFd (tVar 0)) (jJg 8) jQg (tOp rIxF (tVar 8) (tC (.int 0))))) tNil)) (tC (.int 1))) (jJg 4))
 (tSeq (tAsg (tLst tNil) (jJg 5))
 (tSeq (tFor (jYq (jJc (tOp rIxF (tVar 1) (tC (.int 0))) (jJc (tCB qY3 (jJc (tOp jK1 (tVar 4) (tC (.int 1))) (jJc (tVar 2) tNil))) tNil))) (jJg 6) (tFor (jK6 (jJc (tVar 3) tNil)) (jJg 7) (tSeq (tAsg (tTup (jJc (tVar 6) (jJc (tVar 7) tNil))) (jJg 8))
 (tIfS (jJy (tOp jKw (tVar 8) (tVar 0))) (jUh (tBM "list" jKq (tVar 5) (jJc (jJr kUx (jJc (tVar 0) (jJc (tVar 1) (jJc (tVar 8) tNil)))) tNil))) jKr))))
 (tRet (tVar 5))))))
theorem kQi:RdOk jVe jX5 qUn:=by
 intro xs G Q h_;apply xe5 h_;clear h_;intro p D e r d h_;apply ae7 h_;clear h_;intro hp hk hl hr hd he kk
 show jX5 _ [some (.ref p),some (encE e),some (.int r),some (.int d),none,none,none,none,none] G
 have hs:=sz
 wp_walk using 1,jX5,jJ2,iFd,jK6,jYq,qY4,qY3
 refine⟨_,qQe (.inl hp),_,rfl,?_⟩
 by_cases h0:(getE e D).isSome=true
 ·rw[lJc h0]
  refine⟨by omega,fun q hq=> ?_⟩
  have hpq:=jJj hp hq
  have ht:jQv D e r d=[D]:=by rw[jQv,lJc h0]
  refine kk q [p] _ hq jJe ⟨by rw[ht];rfl,fun i u hu=> ?_⟩ (fun u hu=> .inl (lJt.mp hu)) (by simp) (fun z=>hpq (lJt.mp z).symm) (.new hq)
  rw[ht]
  match i,hu with
  | 0,hu=>cases hu;exact⟨D,rfl,by rw[jJo hpq];exact hp⟩
 rw[lJb h0]
 refine⟨by omega,fun z hz=> ?_⟩
 have hpz:=jJj hp hz
 refine⟨kvD D,by rw[jJo hpz];exact hp,D.map (fun x=>[T.int (x.1.1:Nat),T.int (x.1.2:Nat)]),?_,?_⟩
 ·unfold kvD
  rw[lJy,lJy];rfl
 rw[lJy]
 have kf:Keep p G (gup (gup G z (.lst [.int 0])) p (.fdc (kvD D))):=Keep.trans (.new hz) .gup
 have pf:gup (gup G z (.lst [.int 0])) p (.fdc (kvD D)) p=some (.fdc (kvD D)):=jJe
 have zf:gup (gup G z (.lst [.int 0])) p (.fdc (kvD D)) z=some (.lst [.int 0]):=by rw[jJo hpz.symm,jJe]
 generalize gup (gup G z (.lst [.int 0])) p (.fdc (kvD D))=Gf at kf pf zf
 refine jKe (es:=D) (enc:=fun x:(Nat×Nat)×(Nat×Nat)=>T.tup [T.int (x.1.1:Nat),T.int (x.1.2:Nat)]) (fun x=>T.int (x.1.1:Nat)) (by omega) (fun _ _=>trivial) ?_ ?_
 ·intro i x hx G2 K K0 s2 hK
  wp_walk using 1,tSeq
  exact hK G2 (.refl _)
 intro L G2 hL hL2 s2
 refine⟨_,jVl (s2 _ _ zf) hL2 (by simp;omega),?_⟩
 intro M hM
 refine⟨M,rfl,0,D.map (fun x=>((x.1.1:Nat):Int)),by rw[jJe];simp[lJy,Function.comp_def],by omega,fun t ht=> ?_⟩
 have htM:=(jKi ht).1
 have ht2:=(jKi ht).2
 have s3:Sub Gf (gup (gup G2 M (.lst ([T.int 0]++D.map fun x=>T.int (x.1.1:Nat)))) t (.lst [])):=(s2.trans (.new hM)).trans (.new ht)
 have tf:gup (gup G2 M (.lst ([T.int 0]++D.map fun x=>T.int (x.1.1:Nat)))) t (.lst []) t=some (.lst []):=jJe
 generalize gup (gup G2 M (.lst ([T.int 0]++D.map fun x=>T.int (x.1.1:Nat)))) t (.lst [])=G3 at s3 tf
 have hGt:G t=none:=kQv (kf.trans (.sub s2)) (s2 _ _ pf) ht2
 have k3:Keep p G G3:=kf.trans (.sub s3)
 have p3:=s3 _ _ pf
 have hmx:jZt 0 (D.map fun x=>((x.1.1:Nat):Int))=((mxE D:Nat):Int):=qZm D 0
 rw[hmx]
 generalize hm:mxE D=m
 refine⟨.int (e.1:Nat),rfl,_,rfl,by omega,by omega,by split<;>omega,by split<;>omega,?_⟩
 rw[show ((if ((r:Nat):Int)<(m:Int)+1+1 then ((r:Nat):Int) else (m:Int)+1+1)-((e.1:Nat):Int)).toNat=min (m+2) r-e.1 by split<;>omega,jU6]
 generalize hc:min (m+2) r-e.1=c
 have hcr:c<=9:=by omega
 let F2:Nat->Nat->Option DD:=fun k i=>if (getE (e.1+k,i) D).isSome=true then none else some (tieE D e (e.1+k,i))
 let F:Nat->List DD:=fun k=>(List.range d).filterMap (F2 k)
 have hT:jQv D e r d=(List.range c).flatMap F:=by rw[jQv,lJb h0,hm,hc]
 let J1:Nat->St3->Gp->Prop:=fun a τ G'=>∃(v6 v7 v8:Option T) (us:List Addr),τ=[some (.ref p),some (encE e),some (.int r),some (.int d),some (.int ((m:Int)+1)),some (.ref t),v6,v7,v8]/\G' t=some (.lst (us.map T.ref))/\DsAt G' us ((List.range a).flatMap F)/\(∀u,u∈us->G u=none)/\us.Nodup/\t∉us/\us.length<=9*a/\Keep p G G'/\G' p=some (.fdc (kvD D))
 refine⟨J1,?_,?_,?_,?_⟩
 ·exact⟨none,none,none,[],rfl,tf,⟨rfl,fun i u hu=>by simp at hu⟩,fun u hu=>by simp at hu,lVl,by simp,by simp,k3,p3⟩
 ·intros;trivial
 ·intro a y τ G4 hy h_;apply xe4 h_;clear h_;intro v6 v7 v8 us h_;apply ae8 h_;clear h_;intro h1 h2 h3 h4 h5 h6 h7 h8
  obtain⟨k',hk',rfl⟩:=jJ9 hy
  obtain⟨ha,rfl⟩:a<c/\a=k':=by
   have:=lJj.mp hk'
   obtain⟨q1,q2⟩:=this
   rw[lY2] at q2
   rw[lKw] at q1
   exact⟨q1,q2⟩
  wp_walk using 1,jJ2,jK6
  refine⟨by omega,by omega,?_⟩
  rw[show ((d:Nat):Int).toNat=d by omega]
  let J2:Nat->St3->Gp->Prop:=fun b τ G'=>∃(v7 v8:Option T) (us:List Addr),τ=[some (.ref p),some (encE e),some (.int r),some (.int d),some (.int ((m:Int)+1)),some (.ref t),some (.int ((e.1+a:Nat):Int)),v7,v8]/\G' t=some (.lst (us.map T.ref))/\DsAt G' us ((List.range a).flatMap F++(List.range b).filterMap (F2 a))/\(∀u,u∈us->G u=none)/\us.Nodup/\t∉us/\us.length<=9*a+b/\Keep p G G'/\G' p=some (.fdc (kvD D))
  refine⟨J2,?_,?_,?_,?_⟩
  ·exact⟨_,_,us,rfl,h1,by simpa using h2,h3,h4,h5,by omega,h7,h8⟩
  ·intros;trivial
  ·intro b x τ G5 hx h_;apply xe3 h_;clear h_;intro v7 v8 us h_;apply ae8 h_;clear h_;intro i1 i2 i3 i4 i5 i6 i7 i8
   obtain⟨hb,rfl⟩:=jU5 hx
   wp_walk using 1,jKw
   refine⟨by omega,_,qQe (e:=(e.1+a,b)) (.inr i8),?_⟩
   have hrs:List.range (b+1)=List.range b++[b]:=lVc
   by_cases hg:(getE (e.1+a,b) D).isSome=true
   ·rw[lJb (by rw[hg];decide)]
    have:F2 a b=none:=lJc hg
    exact⟨_,_,us,rfl,i1,by rw[hrs,lYo];simpa[this] using i2,i3,i4,i5,by omega,i7,i8⟩
   ·have hF:F2 a b=some (tieE D e (e.1+a,b)):=lJb hg
    rw[lJc (by simpa using hg)]
    refine⟨of_eq_true (jKl i1),p,D,e,(e.1+a,b),rfl,.inr i8,hk,by omega,fun q G6 hq hq6 s6=> ?_⟩
    have hqt:t≠q:=jJj i1 hq
    have hqu:q∉us:=fun z=>by obtain⟨o,ho⟩:=i2.mem z;rw[hq] at ho;cases ho
    have t6:=s6 _ _ i1
    wp_walk using 1,jKl t6,t6
    refine⟨by rw[lJf];omega,_,_,us++[q],rfl,by rw[jJe,lKl];rfl,?_,?_,kZc i4 hqu,?_,by rw[lKc,List.length_singleton];omega,?_,?_⟩
    ·rw[hrs,lYo,<-lJo]
     have hsn:=(i2.sub fun u hu o h=>s6 u o h).snoc hq6
     simp only[lQx,hF,List.filterMap_nil]
     refine hsn.sub fun u hu o h=> ?_
     rw[jJo]
     ·exact h
     ·rintro rfl
      rcases (lJn.mp hu) with z | z
      ·exact i5 z
      ·exact hqt (lJt.mp z)
    ·intro u hu
     rcases (lJn.mp hu) with z | z
     ·exact i3 u z
     ·rw[lJt.mp z];exact kQv i7 i8 hq
    ·intro z
     rcases (lJn.mp z) with z | z
     ·exact i5 z
     ·exact hqt (lJt.mp z)
    ·intro x o hx ho
     rw[jJo (fun z=>by rw[z,hGt] at ho;cases ho)]
     exact s6 _ _ (i7 x o hx ho)
    ·rw[jJo (fun z=>by rw[z] at hp;rw[hGt] at hp;cases hp)]
     exact s6 _ _ i8
  ·intro τ G5 h_;apply xe3 h_;clear h_;intro v7 v8 us h_;apply ae8 h_;clear h_;intro i1 i2 i3 i4 i5 i6 i7 i8
   rw[jXg] at i2 i6
   refine⟨_,_,_,us,rfl,i1,?_,i3,i4,i5,by omega,i7,i8⟩
   rw[lVc,lVq]
   simpa using i2
 ·intro τ G4 h_;apply xe4 h_;clear h_;intro v6 v7 v8 us h_;apply ae8 h_;clear h_;intro h1 h2 h3 h4 h5 h6 h7 h8
  wp_walk using 1,tSeq
  rw[lJf,lKw] at h2
  exact kk t us G4 hGt h1 (by rw[hT];exact h2) (fun u hu=> .inr (h3 u hu)) h4 h5 h7
theorem symB_iff {W:Web}:symB W=true↔Sym W:=by
 unfold symB
 rw[lKp]
 constructor
 ·intro h r i s j he
  obtain⟨es,h1,h2⟩:=jV7 he
  have:=h r (lJ7.mpr (qQ2 he))
  rw[lKp] at this
  have:=this i (lJ7.mpr (by rw[jXf h1];exact (lJj.mp h2).1))
  rw[he] at this
  exact lY6 this
 ·intro h r hr
  rw[lKp]
  intro i hi
  cases he:en W r i with
  | none=>rfl
  | some e=>exact lJ4 (h r i e.1 e.2 he)
theorem isWB_iff {W:Web}:IsW W↔isWB W=true:=by
 unfold isWB IsW
 rw[lKv,lKv,lKm,lKm,symB_iff]
theorem jXa {r d:Nat} {D:DD}:(webD r d D).length=r:=by simp[webD]
theorem jYs {r d:Nat} {D:DD} {k:Nat} {es:List (Nat×Nat)} (h:(webD r d D)[k]? =some es):es.length=d:=by
 unfold webD at h
 rw[lKj] at h
 cases hk:(List.range r)[k]? with
 | none=>(rw[hk] at h;cases h)
 | some x=>rw[hk] at h;cases h;simp
theorem kUs {r d:Nat} {D:DD} (hr:r<=1000) (hd:d<=1000):Sz (webD r d D):=⟨by rw[jXa];exact hr,fun k es h=>by rw[jYs h];exact hd⟩
structure Chk (r d:Nat):Prop where
 r1:1<=r
 r9:r<=9
 d6:d<=6
 rd:r*d<=9
 eq:evP r d=evL r d
 ris:risB (evL r d)=true
 lev:∀k j,k<r->j<=d->okL (rowL r d k (allL r d k) j)=true
 all:∀D,D∈allL r d r->∀k i,k<r->i<d->(getE (k,i) D).isSome=true
 prs:∀p,p∈prs 9 (allE r d)->p.length<=20/\(∀k i,k<r->i<d->(getE (k,i) (jU0 p)).isSome=true)/\Sym (webD r d (jU0 p))
theorem kXy {r d k i:Nat} (hk:k<r) (hi:i<d):(k,i)∈allE r d:=List.mem_flatMap.mpr ⟨k,lJ7.mpr hk,lJl.mpr ⟨i,lJ7.mpr hi,rfl⟩⟩
theorem chk_is {r d:Nat} (h1:1<=r) (h2:r<=9) (h3:d<=6) (h4:r*d<=9) (h:chkS r d=true):Chk r d:=by
 unfold chkS at h
 simp only[lKv,lKm,lKp] at h
 obtain⟨a,b,c,e,f⟩:=h
 exact⟨h1,h2,h3,h4,a,b,fun k j hk hj=>c k (lJ7.mpr hk) j (lJ7.mpr (by omega)),fun D hD k i hk hi=>e D hD _ (kXy hk hi),fun p hp=>⟨(f p hp).1,fun k i hk hi=>(f p hp).2.1 _ (kXy hk hi),symB_iff.mp (f p hp).2.2⟩⟩
theorem kXt {l:List DD} (h:okL l=true):l.length<=5000/\∀D,D∈l->D.length<=20/\SmD D:=by
 unfold okL at h
 simp only[lKv,lKm,lKp] at h
 exact⟨h.1,fun D hD=>⟨(h.2 D hD).1,fun p hp=>(h.2 D hD).2 p hp⟩⟩
theorem DsAt.app {G:Gp} {us vs:List Addr} {Ds Es:List DD} (h:DsAt G us Ds) (h':DsAt G vs Es):DsAt G (us++vs) (Ds++Es):=by
 refine⟨by simp[h.1,h'.1],fun i u hu=> ?_⟩
 by_cases hi:i<us.length
 ·rw[lKi hi] at hu
  rw[lKi (by rw[<-h.1];exact hi)]
  exact h.2 i u hu
 ·rw[lKu (by omega)] at hu
  rw[lKu (by rw[<-h.1];omega),<-h.1]
  exact h'.2 _ u hu
structure Bg (G G':Gp) (b:Addr) (us:List Addr) (Ds:List DD):Prop where
 at_:G' b=some (.lst (us.map T.ref))
 ds:DsAt G' us Ds
 nd:us.Nodup
 nb:b∉us
 new:∀u,u∈us->G u=none
 sub:Sub G G'
theorem kYw {α β γ:Type} {f:α->γ} {us:List α} {Ds:List β} (h:us.length=Ds.length):(us.zip Ds).map (fun z=>f z.1)=us.map f:=by
 have:=lJ8 (List.map f) (List.map_fst_zip (l₁:=us) (l₂:=Ds) (by omega))
 rwa [lJy] at this
theorem zip_2 {α β γ:Type} {f:β->γ} {us:List α} {Ds:List β} (h:us.length=Ds.length):(us.zip Ds).map (fun z=>f z.2)=Ds.map f:=by
 have:=lJ8 (List.map f) (List.map_snd_zip (l₁:=us) (l₂:=Ds) (by omega))
 rwa [lJy] at this
def jU4:Sp3:=fun xs G Q=>∃r d:Nat,xs=[.int r,.int d]/\Chk r d/\∀q G',G q=none->G' q=some (.lst ((evP r d).map encW))->Sub G G'->Q (.ref q) G'
def kJb:List Str:=["rooms","doors","begun","room","door","further","leads","webs","web"]
noncomputable def jYj:TS3:=
 (tSeq (tAsg (tLst (jJc kKf tNil)) (jJg 2))
 (tSeq (tFor (jK6 (jJc (tVar 0) tNil)) (jJg 3) (tFor (jK6 (jJc (tVar 1) tNil)) (jJg 4) (tSeq (tAsg (tLst tNil) (jJg 5))
 (tSeq (tFor (iSeq (tVar 2)) (jJg 6) (jUh (tBM "list" jV0 (tVar 5) (jJc (jJr jVe (jJc (tVar 6) (jJc (tTup (jJc (tVar 3) (jJc (tVar 4) tNil))) (jJc (tVar 0) (jJc (tVar 1) tNil))))) tNil))))
 (tAsg (tVar 5) (jJg 2))))))
 (tSeq (tAsg (jKp [false,false,false,false,false,false,true,false,false] (iSeq (tVar 2)) (jJg 6) jQg (jJr jUi (jJc (tOp jX9 (tLst (jJc (tVar 1) tNil)) (tVar 0)) (jJc (tVar 6) tNil)))) (jJg 7))
 (tRet (jKp [false,false,false,false,false,false,false,false,true] (iSeq (tVar 7)) (jJg 8) (jJy (jJr jXd (jJc (tVar 8) tNil))) (tVar 8))))))
noncomputable def qJ3:TS3:=(tSeq (tAsg (jKp [false,false,false,false,false,false,true,false,false] (iSeq (tVar 2)) (jJg 6) jQg (jJr jUi (jJc (tOp jX9 (tLst (jJc (tVar 1) tNil)) (tVar 0)) (jJc (tVar 6) tNil)))) (jJg 7))
 (tRet (jKp [false,false,false,false,false,false,false,false,true] (iSeq (tVar 7)) (jJg 8) (jJy (jJr jXd (jJc (tVar 8) tNil))) (tVar 8))))
theorem qVa:jYj=tSeq (tAsg (tLst (jJc kKf tNil)) (jJg 2)) (tSeq (tFor (jK6 (jJc (tVar 0) tNil)) (jJg 3) (tFor (jK6 (jJc (tVar 1) tNil)) (jJg 4) (tSeq (tAsg (tLst tNil) (jJg 5))
 (tSeq (tFor (iSeq (tVar 2)) (jJg 6) (jUh (tBM "list" jV0 (tVar 5) (jJc (jJr jVe (jJc (tVar 6) (jJc (tTup (jJc (tVar 3) (jJc (tVar 4) tNil))) (jJc (tVar 0) (jJc (tVar 1) tNil))))) tNil))))
 (tAsg (tVar 5) (jJg 2)))))) qJ3):=rfl
theorem ev2_ok {D':Ends3} {G0 G:Gp} {b:Addr} {us:List Addr} {r d:Nat} {v3 v4 v5 v6:Option T} (c:Chk r d) (g:Bg G0 G b us (allL r d r)) (kk:∀q G',G q=none->G' q=some (.lst ((evP r d).map encW))->Sub G0 G'->D'.rt (.ref q) G'):
  qJ3 D' [some (.int r),some (.int d),some (.ref b),v3,v4,v5,v6,none,none] G:=by
 have hs:=sz
 have hr:=c.r9
 have hr1:=c.r1
 have hd:=c.d6
 have hl:(allL r d r).length<=5000:=by
  obtain⟨k,rfl⟩:∃k,r=k+1:=⟨r-1,by omega⟩
  exact (kXt (c.lev k d (by omega) (lJg _))).1
 have hul:=g.ds.1
 wp_walk using 1,qJ3,iSeq
 refine⟨_,jJi g.at_,?_⟩
 rw[<-kYw (f:=T.ref) hul]
 refine jKe (es:=us.zip (allL r d r)) (enc:=fun z=>T.ref z.1) (fun z=>encW (webD r d z.2)) (by rw[lXn];omega) (fun G' s=>by rw[kYw (f:=T.ref) hul];exact jJi (s _ _ g.at_)) ?_ ?_
 ·intro i z hz G2 K K0 s2 hK
  obtain⟨u,D⟩:=z
  have hz2:=lXy.mp hz
  obtain⟨D2,hD2,hG2⟩:=g.ds.2 i u hz2.1
  rw[hz2.2] at hD2;cases hD2
  wp_walk using 1,tSeq
  refine⟨by omega,fun p hp=> ?_⟩
  have e1:mulR (gup G2 p (.lst [.int d])) (.ref p) (.int r)=some (.newL (jJk (List.replicate r d))):=by
   have e2:(List.replicate ((r:Nat):Int).toNat [T.int (d:Nat)]).flatten=jJk (List.replicate r d):=by
    rw[show ((r:Nat):Int).toNat=r by omega]
    unfold jJk
    rw[List.map_replicate]
    simp
   simp only[mulR,jJe];rw[lJc,e2];refine⟨?_,?_,?_⟩<;>simp<;>omega
  refine⟨_,e1,?_⟩
  intro q hq
  have hup:u≠p:=jJj (s2 _ _ hG2) hp
  have huq:u≠q:=fun e=>by rw[e] at hup;have:=(jKi hq).2;rw[<-e,s2 _ _ hG2] at this;cases this
  refine⟨q,u,r,d,D,rfl,jJe,by rw[jJo huq,jJo hup];exact s2 _ _ hG2,by omega,by omega,c.all D (lJu hz2.2),fun G3 s3=>hK G3 (((Sub.new hp).trans (.new hq)).trans s3)⟩
 ·intro q G2 hq hq2 s2
  refine⟨_,jJi hq2,?_⟩
  rw[show (us.zip (allL r d r)).map (fun z=>encW (webD r d z.2))=((allL r d r).map (webD r d)).map encW by rw[lJy];exact zip_2 (f:=fun D=>encW (webD r d D)) hul] at hq2 ⊢
  refine jXw (es:=(allL r d r).map (webD r d)) (enc:=encW) (fun W=>if isWB W=true then some (encW W) else none) (by simp;omega) (fun G' s=>jJi (s _ _ hq2)) ?_ ?_
  ·intro i W hW G3 K K0 s3 hK hK0
   obtain⟨D,_,rfl⟩:=lJl.mp (lJu hW)
   wp_walk using 1,tSeq
   refine⟨_,rfl,kUs (by omega) (by omega),fun G4 x hx s4=>⟨x,rfl,?_⟩⟩
   have hxe:x=isWB (webD r d D):=by
    rw[isWB_iff] at hx
    exact Bool.eq_iff_iff.mpr hx
   by_cases h:isWB (webD r d D)=true
   ·rw[hxe,lJc h];exact hK _ _ (by rw[lJc h]) s4
   ·rw[hxe,lJb h];exact hK0 (by rw[lJb h]) _ s4
  ·intro E G3 hE hE3 s3
   refine kk E G3 (s2.none hE) ?_ ((g.sub.trans s2).trans s3)
   rw[hE3,evP]
   congr 2
   generalize (allL r d r).map (webD r d)=l
   induction l with
   | nil=>rfl
   | cons a l ih=>
    rw[lQx,lVd]
    by_cases h:isWB a=true
    ·rw[lJc h,lJc h,lJq,ih]
    ·rw[lJb h,lJb h,ih]
theorem kJh:RdOk jU4 jYj kJb:=by
 intro xs G Q h_;apply xe2 h_;clear h_;intro r d h_;apply ae2 h_;clear h_;intro c kk
 rw[show jQ3 kJb [.int r,.int d]=[some (.int r),some (.int d),none,none,none,none,none,none,none] from rfl,qVa]
 have hs:=sz
 have hr:=c.r9
 have hr1:=c.r1
 have hd:=c.d6
 wp_walk using 1,jJ2,jK6,kKf
 refine .inl fun z hz=> ?_
 refine⟨by omega,fun b0 hb0=>⟨by omega,by omega,?_⟩⟩
 rw[show ((r:Nat):Int).toNat=r by omega]
 have hzb:=(jKi hb0).1
 have g0:Bg G (gup (gup G z (.dct [])) b0 (.lst [.ref z])) b0 [z] (allL r d 0):=by
  refine⟨jJe,⟨rfl,fun i u hu=> ?_⟩,by simp,by simpa using hzb,fun u hu=>by rw[lJt.mp hu];exact hz,(Sub.new hz).trans (.new hb0)⟩
  match i,hu with
  | 0,hu=>cases hu;exact⟨[],rfl,by rw[jJo hzb.symm,jJe];rfl⟩
 generalize gup (gup G z (.dct [])) b0 (.lst [.ref z])=G1 at g0
 let J1:Nat->St3->Gp->Prop:=fun k τ G'=>∃(v3 v4 v5 v6:Option T) (b:Addr) (us:List Addr),τ=[some (.int r),some (.int d),some (.ref b),v3,v4,v5,v6,none,none]/\Bg G G' b us (allL r d k)
 refine⟨J1,?_,?_,?_,?_⟩
 ·exact⟨none,none,none,none,b0,[z],rfl,g0⟩
 ·intros;trivial
 ·intro k y τ G2 hy h_;apply xe6 h_;clear h_;intro v3 v4 v5 v6 b us g
  obtain⟨hk,rfl⟩:=jU5 hy
  wp_walk using 1,jJ2,jK6,iSeq
  refine⟨by omega,by omega,?_⟩
  rw[show ((d:Nat):Int).toNat=d by omega]
  let J2:Nat->St3->Gp->Prop:=fun j τ G'=>∃(v4 v5 v6:Option T) (b:Addr) (us:List Addr),τ=[some (.int r),some (.int d),some (.ref b),some (.int (k:Nat)),v4,v5,v6,none,none]/\Bg G G' b us (rowL r d k (allL r d k) j)
  refine⟨J2,?_,?_,?_,?_⟩
  ·exact⟨_,_,_,b,us,rfl,g⟩
  ·intros;trivial
  ·intro j x τ G3 hx h_;apply xe5 h_;clear h_;intro v4 v5 v6 b us g
   obtain⟨hj,rfl⟩:=jU5 hx
   obtain⟨_,ok1⟩:=kXt (c.lev k j hk (by omega))
   obtain⟨ok2,_⟩:=kXt (c.lev k (j+1) hk (by omega))
   rw[rowL] at ok2
   generalize hDs:rowL r d k (allL r d k) j=Ds at g ok1 ok2
   wp_walk using 1,iSeq,jJ2
   refine⟨by omega,fun f hf=> ?_⟩
   have hbf:=jJj g.at_ hf
   have fus:f∉us:=fun z=>by obtain⟨o,ho⟩:=g.ds.mem z;rw[hf] at ho;cases ho
   have hGf:G f=none:=g.sub.none hf
   have hGb:∀u,u∈us->u≠b:=fun u hu e=>g.nb (e▸hu)
   refine⟨_,jJi (by rw[jJo hbf];exact g.at_),?_⟩
   let J3:Nat->St3->Gp->Prop:=fun i τ G'=>∃(v6:Option T) (ws:List Addr),τ=[some (.int r),some (.int d),some (.ref b),some (.int (k:Nat)),some (.int (j:Nat)),some (.ref f),v6,none,none]/\G' b=some (.lst (us.map T.ref))/\G' f=some (.lst (ws.map T.ref))/\DsAt G' ws ((Ds.take i).flatMap fun D=>jQv D (k,j) r d)/\ws.Nodup/\f∉ws/\b∉ws/\(∀w,w∈ws->G w=none)/\(∀(i':Nat) u D,i<=i'->us[i']? =some u->Ds[i']? =some D->G' u=some (.dct (kvD D)))/\(∀w,w∈ws->∀i',i<=i'->us[i']? ≠some w)/\Sub G G'
   refine⟨J3,?_,?_,?_,?_⟩
   ·refine⟨_,[],rfl,by rw[jJo hbf];exact g.at_,jJe,⟨rfl,fun i u hu=>by simp at hu⟩,lVl,by simp,by simp,fun w hw=>by simp at hw,fun i' u D _ hu hD=> ?_,fun w hw=>by simp at hw,g.sub.over hGf⟩
    obtain⟨D',hD',h⟩:=g.ds.2 i' u hu
    rw[hD] at hD';cases hD'
    rw[jJo (show u≠f from fun e=>fus (e▸lJu hu))];exact h
   ·intro i τ G' hi h_;apply xe2 h_;clear h_;intro v6 ws h_;apply ae2 h_;clear h_;intro h1 _
    exact jJi h1
   ·intro i y τ G4 hy h_;apply xe2 h_;clear h_;intro v6 ws h_;apply ae10 h_;clear h_;intro h1 h2 h3 h4 h5 h6 h7 h8 h9 h10
    obtain⟨u,hu,rfl⟩:=jJ9 hy
    have hum:=lJu hu
    have hil:i<Ds.length:=by rw[<-g.ds.1];exact (lJj.mp hu).1
    have hD:Ds[i]? =some Ds[i]:=lJp hil
    have hDm:Ds[i]∈Ds:=lV4 hil
    generalize Ds[i]=D at hD hDm
    have tk:(Ds.take (i+1)).flatMap (fun D=>jQv D (k,j) r d)=(Ds.take i).flatMap (fun D=>jQv D (k,j) r d)++jQv D (k,j) r d:=by rw[lQi,hD,lVq];simp
    have tl:((Ds.take (i+1)).flatMap fun D=>jQv D (k,j) r d).length<=5000:=by
     have:(Ds.flatMap fun D=>jQv D (k,j) r d)=(Ds.take (i+1)).flatMap (fun D=>jQv D (k,j) r d)++(Ds.drop (i+1)).flatMap fun D=>jQv D (k,j) r d:=by rw[<-lVq,lK6]
     rw[this,lKc] at ok2;omega
    wp_walk using 1,tSeq
    have huG:=h8 i u D (lJg _) hu hD
    have huf:u≠f:=fun e=>fus (e▸hum)
    have hub:=hGb u hum
    refine⟨of_eq_true (jKl h2),by omega,u,D,(k,j),r,d,rfl,huG,(ok1 D hDm).2,(ok1 D hDm).1,hr,by omega,by show k<=9;omega,fun q vs G5 hq hq5 ds hv nv hqv kp=> ?_⟩
    have f5:=kp f _ huf.symm h2
    have hqf:q≠f:=(jJj h2 hq).symm
    have fv:f∉vs:=fun z=>by
     rcases hv f z with e | e
     ·exact huf e.symm
     ·rw[h2] at e;cases e
    have bv:b∉vs:=fun z=>by
     rcases hv b z with e | e
     ·exact hub e.symm
     ·rw[h1] at e;cases e
    have wu:∀w,w∈ws->w≠u:=fun w hw e=>h9 w hw i (lJg _) (e▸hu)
    have sm:∀w,w∈ws->∃o,G4 w=some o:=fun w hw=>h3.mem hw
    have hlv:ws.length+vs.length<=5000:=by rw[h3.1,ds.1,<-lKc,<-tk];exact tl
    refine⟨f,q,_,_,rfl,rfl,f5,hq5,by rw[lJf,lJf];omega,?_⟩
    refine⟨_,ws++vs,rfl,by rw[jJo hbf];exact kp b _ hub.symm h1,by rw[jJe,lKl],?_,?_,?_,?_,?_,?_,?_,?_⟩
    ·rw[tk]
     refine ((h3.sub fun w hw o ho=>kp w o (wu w hw) ho).app ds).sub fun w hw o ho=> ?_
     rw[jJo]
     ·exact ho
     ·rintro rfl
      exact (lJn.mp hw).elim h5 fv
    ·rw[lVa]
     refine⟨h4,nv,fun a ha v hv'=> ?_⟩
     rcases hv v hv' with e | e
     ·rw[e];exact wu a ha
     ·rintro rfl;obtain⟨o,ho⟩:=sm a ha;rw[e] at ho;cases ho
    ·exact fun z=>(lJn.mp z).elim h5 fv
    ·exact fun z=>(lJn.mp z).elim h6 bv
    ·intro w hw
     rcases (lJn.mp hw) with z | z
     ·exact h7 w z
     ·rcases hv w z with e | e
      ·rw[e];exact g.new u hum
      ·exact h10.none e
    ·intro i' u' D' hi' hu' hD'
     have hne:u'≠u:=fun e=>by
      have:=(lY1 (lJj.mp hu).1 g.nd).mp (hu.trans (e▸hu'.symm))
      omega
     rw[jJo (show u'≠f from fun e=>fus (e▸lJu hu'))]
     exact kp _ _ hne (h8 i' u' D' (by omega) hu' hD')
    ·intro w hw i' hi' hu'
     rcases (lJn.mp hw) with z | z
     ·exact h9 w z i' (by omega) hu'
     ·rcases hv w z with e | e
      ·rw[e] at hu'
       have:=(lY1 (lJj.mp hu).1 g.nd).mp (hu.trans hu'.symm)
       omega
      ·have hl':i'<Ds.length:=by rw[<-g.ds.1];exact (lJj.mp hu').1
       rw[h8 i' w _ (by omega) hu' (lJp hl')] at e;cases e
    ·intro c' o hc'
     rw[jJo (fun e=>by rw[e,hGf] at hc';cases hc')]
     exact kp _ _ (fun e=>by rw[e,g.new u hum] at hc';cases hc') (h10 _ _ hc')
   ·intro τ G4 h_;apply xe2 h_;clear h_;intro v6 ws h_;apply ae10 h_;clear h_;intro h1 h2 h3 h4 h5 h6 h7 h8 h9 h10
    wp_walk using 1,tSeq
    rw[lJf,g.ds.1,lQq] at h3
    exact⟨_,_,_,f,ws,rfl,⟨h2,by rw[rowL,hDs];exact h3,h4,h5,h7,h10⟩⟩
  ·intro τ G3 h_;apply xe5 h_;clear h_;intro v4 v5 v6 b us g
   rw[jXg] at g
   exact⟨_,_,_,_,b,us,rfl,g⟩
 ·intro τ G2 h_;apply xe6 h_;clear h_;intro v3 v4 v5 v6 b us g
  rw[jXg] at g
  exact ev2_ok c g fun q G' hq hq' s=>kk q G' (g.sub.none hq) hq' s
theorem jY0 {α:Type} [DecidableEq α] {f:α->T} (h:∀x y,eqT (f x) (f y)=decide (x=y)):∀xs ys:List α,eqTs (xs.map f) (ys.map f)=decide (xs=ys)
 | [],[]=>by simp[eqTs]
 | [],_::_=>by simp[eqTs]
 | _::_,[]=>by simp[eqTs]
 | x::xs,y::ys=>by
  show (eqT (f x) (f y)&&eqTs (xs.map f) (ys.map f))=_
  rw[h,jY0 h xs ys]
  by_cases e:x=y
  ·subst e;by_cases e2:xs=ys<;>simp[e2]
  ·simp[e]
theorem kVz (x y:Nat):eqT (.int x) (.int y)=decide (x=y):=by
 by_cases h:x=y
 ·subst h;simp[eqT]
 ·have:¬ (x:Int)=y:=by omega
  simp[eqT,h,this]
theorem eqT_E (x y:Nat×Nat):eqT (encE x) (encE y)=decide (x=y):=by
 obtain⟨a,b⟩:=x
 obtain⟨c,d⟩:=y
 show (eqT (.int a) (.int c)&&(eqT (.int b) (.int d)&&true))=_
 rw[kVz,kVz]
 by_cases h:a=c<;>by_cases h2:b=d<;>simp[h,h2]
theorem eqT_R (x y:List (Nat×Nat)):eqT (encR x) (encR y)=decide (x=y):=jY0 eqT_E x y
theorem eqT_W (x y:Web):eqT (encW x) (encW y)=decide (x=y):=jY0 eqT_R x y
structure OkD (d:Nat) (x:T):Prop where
 tr:tree x=true
 lay:(td x).canLay0=true
 dep:(td x).depth<=d
theorem kVk {i:Int}:OkD 0 (.int i):=⟨rfl,rfl,Nat.le_of_eq (by simp[td,PyData.depth])⟩
theorem kVl {d:Nat}:∀xs:List T,(∀x,x∈xs->OkD d x)->jQa xs=true/\PyData.canLayAll0 (tds xs)=true/\PyData.depthAll (tds xs)<=d
 | [],_=>⟨rfl,by simp[tds,PyData.canLayAll0],by simp[tds,PyData.depthAll]⟩
 | x::xs,h=>by
  obtain⟨a1,a2,a3⟩:=kVl xs fun y hy=>h y (lJ1 _ hy)
  obtain⟨b1,b2,b3⟩:=h x (lJx ..)
  refine⟨?_,?_,?_⟩
  ·show (tree x&&jQa xs)=true;rw[a1,b1];rfl
  ·rw[tds,PyData.canLayAll0,a2,b2];rfl
  ·rw[tds,PyData.depthAll];omega
theorem jZq {d:Nat} {xs:List T} (h:∀x,x∈xs->OkD d x):OkD (d+1) (.tup xs):=by
 obtain⟨a1,a2,a3⟩:=kVl xs h
 exact⟨a1,by rw[td,PyData.canLay0];exact a2,by rw[td,PyData.depth];omega⟩
theorem OkD.mono {d d':Nat} {x:T} (h:OkD d x) (l:d<=d'):OkD d' x:=⟨h.tr,h.lay,lK1 h.dep l⟩
theorem qKp {xs:List T} (h:∀x,x∈xs->OkD 40 x):jZ1 xs=true:=by
 obtain⟨a1,a2,a3⟩:=kVl xs h
 unfold jZ1
 rw[a1,a2,lJ4 (show (PyData.list (tds xs)).depth<=50 by rw[PyData.depth];omega)];rfl
theorem qZj {W:Web}:OkD 3 (encW W):=by
 refine jZq fun x hx=> ?_
 obtain⟨es,_,rfl⟩:=lJl.mp hx
 refine jZq fun x hx=> ?_
 obtain⟨e,_,rfl⟩:=lJl.mp hx
 refine jZq fun x hx=> ?_
 simp only[lKt,lJr,lQk] at hx
 rcases hx with rfl | rfl<;>exact kVk
theorem qXb {G:Gp} {A B:Web}:eqG G (encW A) (encW B)=some (decide (A=B)):=by
 have e:∀W:Web,eqOk (encW W)=true:=by
  intro W
  have h:=qZj (W:=W)
  unfold eqOk
  rw[h.tr,h.lay,lJ4 (show (td (encW W)).depth<=50 by have:=h.dep;omega)];rfl
 show (if eqOk (encW A)=true/\eqOk (encW B)=true then some (eqT (encW A) (encW B)) else none)=_
 rw[lJc ⟨e A,e B⟩,eqT_W]
theorem kUi {k d:Nat}:allE (k+1) d=allE k d++(List.range d).map fun i=>(k,i):=by
 unfold allE
 rw[lVc,lVq];simp
theorem kQa {d:Nat}:∀ {k:Nat},(allE k d).length=k*d
 | 0=>by simp[allE]
 | k+1=>by rw[kUi,lKc,kQa,lJf,lKw,Nat.succ_mul]
def jUm:Sp3:=fun xs G Q=>∃r d:Nat,xs=[.int r,.int d]/\r<=9/\d<=9/\∀q G',G q=none->G' q=some (.lst ((allE r d).map encE))->Sub G G'->Q (.ref q) G'
def kUn:List Str:=["_law_wide","_law_doors","_law_found","_law_room","_law_door"]
noncomputable def jUp:TS3:=
 (tSeq (tAsg (tLst tNil) (jJg 2))
 (tSeq (tFor (jK6 (jJc (tVar 0) tNil)) (jJg 3) (jUh (tBM "list" jV0 (tVar 2) (jJc (jKp [false,false,false,false,true] (jK6 (jJc (tVar 1) tNil)) (jJg 4) jQg (tTup (jJc (tVar 3) (jJc (tVar 4) tNil)))) tNil))))
 (tRet (tVar 2))))
theorem jZf:RdOk jUm jUp kUn:=by
 intro xs G Q h_;apply xe2 h_;clear h_;intro r d h_;apply ae3 h_;clear h_;intro hr hd kk
 show jUp _ [some (.int r),some (.int d),none,none,none] G
 have hs:=sz
 wp_walk using 1,jUp,jJ2,jK6
 refine⟨by omega,fun q hq=>⟨by omega,by omega,?_⟩⟩
 rw[show ((r:Nat):Int).toNat=r by omega]
 let J1:Nat->St3->Gp->Prop:=fun k τ G'=>∃(v3:Option T),τ=[some (.int r),some (.int d),some (.ref q),v3,none]/\G' q=some (.lst ((allE k d).map encE))/\Sub G G'
 refine⟨J1,?_,?_,?_,?_⟩
 ·exact xi1 _ rfl ⟨jJe,.new hq⟩
 ·intros;trivial
 ·intro k y τ G1 hy h_;apply xe1 h_;clear h_;intro v3 h_;apply ae2 h_;clear h_;intro h1 h2
  obtain⟨hk,rfl⟩:=jU5 hy
  wp_walk using 1,jK6,jKl h1
  refine⟨by omega,by omega,?_⟩
  rw[show ((d:Nat):Int).toNat=d by omega,jVg]
  refine jKe (es:=List.range d) (enc:=fun k:Nat=>T.int k) (fun j=>encE (k,j)) (by simp;omega) (fun _ _=>trivial) ?_ ?_
  ·intro j x hx G2 K K0 s2 hK
   wp_walk using 1,tSeq
   exact⟨by omega,hK G2 (.refl _)⟩
  ·intro E G2 hE hE2 s2
   have hkd:k*d<=9*9:=Nat.mul_le_mul (by omega) hd
   refine⟨q,E,_,_,rfl,rfl,s2 _ _ h1,hE2,by rw[lJf,lJf,lKw,kQa];omega,?_⟩
   exact xi1 _ rfl ⟨by rw[jJe,kUi,lKl,lJy];rfl,(h2.trans s2).over hq⟩
 ·intro τ G1 h_;apply xe1 h_;clear h_;intro v3 h_;apply ae2 h_;clear h_;intro h1 h2
  rw[jXg] at h1
  wp_walk using 1,tSeq
  exact kk q G1 hq h1 h2
def encP (x:(Nat×Nat)×(Nat×Nat)):T:= .tup [encE x.1,encE x.2]
def PrAt (G:Gp) (rs:List Addr) (Ps:List DD):Prop:=rs.length=Ps.length/\∀(i:Nat) (r:Addr),rs[i]? =some r->∃P,Ps[i]? =some P/\G r=some (.lst (P.map encP))
theorem PrAt.sub {G G':Gp} {us:List Addr} {Ds:List DD} (h:PrAt G us Ds) (s:∀u,u∈us->∀o,G u=some o->G' u=some o):PrAt G' us Ds:=⟨h.1,fun i u hu=>let ⟨D,h1,h2⟩:=h.2 i u hu;⟨D,h1,s u (lJu hu) _ h2⟩⟩
theorem PrAt.app {G:Gp} {us vs:List Addr} {Ds Es:List DD} (h:PrAt G us Ds) (h':PrAt G vs Es):PrAt G (us++vs) (Ds++Es):=by
 refine⟨by simp[h.1,h'.1],fun i u hu=> ?_⟩
 by_cases hi:i<us.length
 ·rw[lKi hi] at hu
  rw[lKi (by rw[<-h.1];exact hi)]
  exact h.2 i u hu
 ·rw[lKu (by omega)] at hu
  rw[lKu (by rw[<-h.1];omega),<-h.1]
  exact h'.2 _ u hu
def fct:Nat->Nat
 | 0=>1
 | n+1=>(n+1)*fct n
theorem qQu:∀ {n:Nat},n<=9->fct n<=362880:=by decide
theorem qQs {α β:Type} {f:α->List β} {c:Nat}:∀ {l:List α},(∀a,a∈l->(f a).length<=c)->(l.flatMap f).length<=l.length*c
 | [],_=>by simp
 | a::l,h=>by
  rw[List.flatMap_cons,lKc,lJ5,Nat.succ_mul]
  have h1:=h a (lJx ..)
  have h2:=qQs (l:=l) fun b hb=>h b (lJ1 _ hb)
  omega
theorem jYa:∀ {n:Nat} {es:List (Nat×Nat)},es.length<=n->(prs n es).length<=fct n
 | n,[],h=>by
  clear h
  have:1<=fct n:=by
   induction n with
   | zero=>exact lJg _
   | succ n ih=>rw[fct];exact Nat.mul_le_mul (Nat.succ_le_succ (lJz n)) ih
  rw[prs];exact this
 | n+1,f::rest,h=>by
  rw[prs,lKc,lJf,fct,Nat.succ_mul]
  have hl:rest.length<=n:=by simpa using h
  have h1:=jYa hl
  have h2:((List.range rest.length).flatMap fun k=>(prs n (rest.take k++rest.drop (k+1))).map ((f,rest.getD k (0,0)):: ·)).length<=(List.range rest.length).length*fct n:=qQs fun k hk=>by
   rw[lJf]
   exact jYa (by simp;have:=lJ7.mp hk;omega)
  rw[lKw] at h2
  have h3:rest.length*fct n<=n*fct n:=Nat.mul_le_mul_right _ hl
  omega
theorem kYp {xs:List T} {k:Nat} (h:k<=xs.length):cutT xs (some (k:Int)) none=xs.drop k:=by
 simp only[cutT,HT.sIx]
 rw[lJb (by omega),show min ((k:Int).toNat) xs.length=k by omega]
 (rw[lQs (by simp)])
theorem cut_to {xs:List T} {k:Nat} (h:k<=xs.length):cutT xs none (some (k:Int))=xs.take k:=by
 simp only[cutT,HT.sIx]
 rw[lJb (by omega),show min ((k:Int).toNat) xs.length=k by omega]
 simp
theorem okE {e:Nat×Nat}:OkD 40 (encE e):=(jZq (d:=0) fun x hx=>by
 (simp only[lJr,lKt,lQk] at hx)
 rcases hx with rfl | rfl<;>exact kVk).mono (by decide)
theorem kYk {G:Gp} {p q:Addr} {F:List (Nat×Nat)} (h1:G p=some (.lst (F.map encE))) (h2:G q=some (.lst [])):eqG G (.ref p) (.ref q)=some F.isEmpty:=by
 have:eqG G (.ref p) (.ref q)=if jZ1 (F.map encE)=true/\jZ1 []=true then some (eqTs (F.map encE) []) else none:=by simp only[eqG,h1,h2]
 rw[this,lJc ⟨qKp fun x hx=>by obtain⟨e,_,rfl⟩:=lJl.mp hx;exact okE,rfl⟩]
 cases F<;>rfl
noncomputable def jVm (n:Nat):Sp3:=fun xs G Q=>∃(p:Addr) (es:List (Nat×Nat)),xs=[.ref p]/\G p=some (.lst (es.map encE))/\es.length<=n/\n<=9/\∀q rs G',G q=none->G' q=some (.lst (rs.map T.ref))->PrAt G' rs (prs n es)->(∀r,r∈rs->G r=none)->Sub G G'->Q (.ref q) G'
section
variable (jQi:Sp3)
def jVd:List Str:=["_law_ends","_law_first","_law_rest","_law_found","_law_k","_law_other","_law_more"]
noncomputable def jKd:TS3:=
 (tSeq (tIfS (jJy (tOp rEqA (tVar 0) (tLst tNil))) (tRet (tLst (jJc (tLst tNil) tNil))) jKr)
 (tSeq (tAsg (tTup (jJc (tOp rIxF (tVar 0) (tC (.int 0))) (jJc (tSl rSlF (tVar 0) (kJf (tC (.int 1))) jU3) tNil))) (gTup 2 (jKg (jJg 1) (jKg (jJg 2) gNil))))
 (tSeq (tAsg (jKp [false,false,false,false,false,false,true] (iSeq (jJr jQi (jJc (tVar 2) tNil))) (jJg 6) jQg (tOp jK1 (tLst (jJc (tTup (jJc (tVar 1) (jJc (tVar 1) tNil))) tNil)) (tVar 6))) (jJg 3))
 (tSeq (tFor (kJm (jJc (tVar 2) tNil)) (gTup 2 (jKg (jJg 4) (jKg (jJg 5) gNil))) (jUh (tBM "list" jV0 (tVar 3) (jJc (jKp [false,false,false,false,false,false,true] (iSeq (jJr jQi (jJc (tOp jK1 (tSl rSlF (tVar 2) jU3 (kJf (tVar 4))) (tSl rSlF (tVar 2) (kJf (tOp jK1 (tVar 4) (tC (.int 1)))) jU3)) tNil))) (jJg 6) jQg (tOp jK1 (tLst (jJc (tTup (jJc (tVar 1) (jJc (tVar 5) tNil))) tNil)) (tVar 6))) tNil))))
 (tRet (tVar 3))))))
end
theorem qX5 {sp:Sp3} {n:Nat} {p:Addr} {G:Gp} {Q:VK3} (hp:G p=some (.lst [])) (kk:∀q rs G',G q=none->G' q=some (.lst (rs.map T.ref))->PrAt G' rs (prs n [])->(∀r,r∈rs->G r=none)->Sub G G'->Q (.ref q) G'):jKd sp {nx:=fun _ G'=>Q .non G',rt:=Q} [some (.ref p),none,none,none,none,none,none] G:=by
 have hs:=sz
 wp_walk using 1,jKd,rEqA
 refine⟨by omega,fun c hc=> ?_⟩
 have hpc:=jJj hp hc
 refine⟨true,kYk (F:=[]) (by rw[jJo hpc];exact hp) jJe,?_⟩
 rw[lJc rfl]
 refine⟨by omega,fun a ha=>⟨by omega,fun q hq=> ?_⟩⟩
 have hqa:=(jKi hq).1
 refine kk q [a] _ ((jKi (jKi hq).2).2) jJe ⟨by rw[prs];rfl,fun i u hu=> ?_⟩ (fun r hr=>by rw[lJt.mp hr];exact (jKi ha).2) (((Sub.new hc).trans (.new ha)).trans (.new hq))
 match i,hu with
 | 0,hu=>cases hu;exact⟨[],by rw[prs];rfl,by rw[jJo hqa.symm,jJe];rfl⟩
theorem jYo (sp:Sp3):∀xs G Q,jVm 0 xs G Q->jKd sp {nx:=fun _ G'=>Q .non G',rt:=Q} (jQ3 jVd xs) G:=by
 intro xs G Q h_;apply xe2 h_;clear h_;intro p es h_;apply ae4 h_;clear h_;intro hp hl _ kk
 cases lQ9.mp (Nat.le_zero.mp hl)
 exact qX5 hp kk
theorem kXo:∀ {n:Nat} {es:List (Nat×Nat)} {P:DD},P∈prs n es->P.length<=n
 | n,[],P,h=>by rw[prs] at h;rw[lJt.mp h];exact lJz _
 | 0,_::_,P,h=>by rw[prs] at h;cases h
 | n+1,f::rest,P,h=>by
  rw[prs] at h
  rcases (lJn.mp h) with h | h
  ·obtain⟨P',hP,rfl⟩:=lJl.mp h
   rw[lJ5]
   exact Nat.succ_le_succ (kXo hP)
  ·obtain⟨k,_,h⟩:=List.mem_flatMap.mp h
   obtain⟨P',hP,rfl⟩:=lJl.mp h
   rw[lJ5]
   exact Nat.succ_le_succ (kXo hP)
theorem kYf {α:Type} {G:Gp} {rs:List Addr} {es:List α} (hl:rs.length=es.length) (h:∀(i:Nat) (r:Addr) (e:α),rs[i]? =some r->es[i]? =some e->G r=none):∀r,r∈rs->G r=none:=by
 intro r hr
 obtain⟨i,hi⟩:=lKa hr
 have hil:i<es.length:=by rw[<-hl];exact (lJj.mp hi).1
 exact h i r _ hi (lJp hil)
theorem kXp {G:Gp} {x:(Nat×Nat)×(Nat×Nat)} {rs rs1:List Addr} {Ps:List DD} (h0:rs.length=Ps.length) (h1:rs1.length=(rs.zip Ps).length) (h:∀(i:Nat) (r:Addr) (z:Addr×DD),rs1[i]? =some r->(rs.zip Ps)[i]? =some z->G r=some (.lst ((x::z.2).map encP))):PrAt G rs1 (Ps.map (x:: ·)):=by
 rw[lXn] at h1
 refine⟨by rw[lJf];omega,fun i r hr=> ?_⟩
 have hi:i<rs1.length:=(lJj.mp hr).1
 have e1:Ps[i]? =some (Ps[i]'(by omega)):=lJp _
 have e2:rs[i]? =some (rs[i]'(by omega)):=lJp _
 have:=h i r (rs[i]'(by omega),Ps[i]'(by omega)) hr (lXy.mpr ⟨e2,e1⟩)
 exact⟨_,by rw[lKj,e1];rfl,this⟩
theorem jJt (n:Nat):∀xs G Q,jVm (n+1) xs G Q->jKd (jVm n) {nx:=fun _ G'=>Q .non G',rt:=Q} (jQ3 jVd xs) G:=by
 intro xs G Q h_;apply xe2 h_;clear h_;intro p es h_;apply ae4 h_;clear h_;intro hp hl hn kk
 cases es with
 | nil=>exact qX5 hp kk
 | cons f rest=>
 show jKd _ _ [some (.ref p),none,none,none,none,none,none] G
 have hs:=sz
 have hrl:rest.length<=n:=by simpa using hl
 have hf:=qQu (n:=n) (by omega)
 have hf1:=qQu hn
 have pl:=jYa hl
 wp_walk using 1,jKd,rEqA,jJ2,iSeq,kJm,tSl,rSlF,kJf,jU3
 refine⟨by omega,fun c hc=> ?_⟩
 have hpc:=jJj hp hc
 refine⟨false,kYk (F:=f::rest) (by rw[jJo hpc];exact hp) jJe,?_⟩
 rw[lJb (by decide)]
 have hpc':(gup G c (.lst [])) p=some (.lst ((f::rest).map encE)):=by rw[jJo hpc];exact hp
 refine⟨encE f,by rw[jUt hpc',show (0:Int)=((0:Nat):Int) from rfl,atN];rfl,.newL (rest.map encE),?_,?_⟩
 ·simp only[slR,hpc']
  rw[show (1:Int)=((1:Nat):Int) from rfl,kYp (by simp)];rfl
 intro a2 ha2
 have h2:gup (gup G c (.lst [])) a2 (.lst (rest.map encE)) a2=some (.lst (rest.map encE)):=jJe
 have s2:Sub G (gup (gup G c (.lst [])) a2 (.lst (rest.map encE))):=(Sub.new hc).trans (.new ha2)
 generalize gup (gup G c (.lst [])) a2 (.lst (rest.map encE))=G2 at h2 s2 ⊢
 refine⟨by omega,a2,rest,rfl,h2,hrl,by omega,fun q rs G3 hq hq3 pr _ s3=>⟨_,jJi hq3,?_⟩⟩
 have pl1:=jYa hrl
 have body:∀(x:Nat×Nat) {G3:Gp} {rs:List Addr} {Ps:List DD},PrAt G3 rs Ps->(∀P,P∈Ps->P.length<=n)->∀(i:Nat) (z:Addr×DD),(rs.zip Ps)[i]? =some z->∀G4 (K:T->Gp->Prop),Sub G3 G4->(∀p G5,G4 p=none->G5 p=some (.lst (((f,x)::z.2).map encP))->Sub G4 G5->K (.ref p) G5)->
   2<=sizeLine/\1<=sizeLine/\∀c2,G4 c2=none->∃r,addR (gup G4 c2 (.lst [.tup [encE f,encE x]])) (.ref c2) (.ref z.1)=some r/\fin3 r (gup G4 c2 (.lst [.tup [encE f,encE x]])) K:=by
  intro x G3 rs Ps pr hPl i z hz G4 K s4 hK
  have hz2:=lXy.mp hz
  obtain⟨P2,hP2,hG⟩:=pr.2 i z.1 hz2.1
  rw[hz2.2] at hP2;cases hP2
  have hG4:=s4 _ _ hG
  have hPn:=hPl _ (lJu hz2.2)
  refine⟨by omega,by omega,fun c2 hc2=> ?_⟩
  have huc:=jJj hG4 hc2
  refine⟨_,jVl jJe (by rw[jJo huc];exact hG4) (by simp;omega),?_⟩
  intro m hm
  exact hK m _ (jKi hm).2 jJe ((Sub.new hc2).trans (.new hm))
 rw[<-kYw (f:=T.ref) (Ds:=prs n rest) pr.1]
 refine jYf (es:=rs.zip (prs n rest)) (enc:=fun z=>T.ref z.1) (fun z=>((f,f)::z.2).map encP) (by rw[lXn];omega) (fun G' s=>by rw[kYw (f:=T.ref) pr.1];exact jJi (s _ _ hq3)) ?_ ?_
 ·intro i z hz G4 K K0 s4 hK
  wp_walk using 1,tSeq
  exact body f pr (fun P hP=>kXo hP) i z hz G4 K s4 hK
 intro D rs1 G4 hD hD4 s4 hl1 hn1 hr1
 have hG2D:=s3.none hD
 have ls:∀G',Sub G2 G'->jQt G' (.ref a2)=some (rest.map encE):=fun G' s=>by simp only[jQt,s _ _ h2,asL]
 refine⟨_,ls _ (s3.trans s4),?_⟩
 rw[lK2] at hn1
 let Fk:Nat->List DD:=fun k=>(prs n (rest.take k++rest.drop (k+1))).map ((f,rest.getD k (0,0)):: ·)
 have hprs:prs (n+1) (f::rest)=(prs n rest).map ((f,f):: ·)++(List.range rest.length).flatMap Fk:=by rw[prs]
 let J:Nat->St3->Gp->Prop:=fun i τ G'=>∃(v4 v5:Option T) (ws:List Addr),τ=[some (.ref p),some (encE f),some (.ref a2),some (.ref D),v4,v5,none]/\G' D=some (.lst (ws.map T.ref))/\PrAt G' ws ((prs n rest).map ((f,f):: ·)++(List.range i).flatMap Fk)/\D∉ws/\(∀w,w∈ws->G w=none)/\Sub G2 G'
 refine⟨J,?_,?_,?_,?_⟩
 ·exact⟨none,none,rs1,rfl,hD4,by simpa using kXp pr.1 hl1 fun i r z h1 h2=>(hr1 i r z h1 h2).2,hn1.1,kYf hl1 (fun i r z h1 h2=>(s2.trans s3).none (hr1 i r z h1 h2).1),s3.trans s4⟩
 ·intro i τ G' hi h_;apply xe3 h_;clear h_;intro v4 v5 ws h_;apply ae5 h_;clear h_;intro h1 h3 h4 hw h5
  exact ls _ h5
 ·intro i y τ G5 hy h_;apply xe3 h_;clear h_;intro v4 v5 ws h_;apply ae5 h_;clear h_;intro h1 h3 h4 hw h5
  obtain⟨z,hz,rfl⟩:=kKx hy
  obtain⟨o,ho,rfl⟩:=jJ9 hz
  have hil:i<rest.length:=(lJj.mp ho).1
  have hog:rest.getD i (0,0)=o:=by simp[List.getD,ho]
  wp_walk using 1,iSeq,tSl,rSlF,kJf,jU3,jKl h1
  have a5:=h5 _ _ h2
  refine⟨.newL ((rest.take i).map encE),?_,?_⟩
  ·simp only[slR,a5]
   rw[cut_to (by rw[lJf];omega),List.map_take]
  intro b1 hb1
  have ab1:=jJj a5 hb1
  refine⟨.newL ((rest.drop (i+1)).map encE),?_,?_⟩
  ·simp only[slR,jJo ab1,a5]
   rw[show ((i:Nat):Int)+1=((i+1:Nat):Int) by omega,kYp (by rw[lJf];omega),List.map_drop]
  intro b2 hb2
  have hb21:=(jKi hb2).1
  refine⟨_,jVl (by rw[jJo hb21.symm];exact jJe) jJe (by simp;omega),?_⟩
  intro b3 hb3
  have s6:Sub G5 (gup (gup (gup G5 b1 (.lst ((rest.take i).map encE))) b2 (.lst ((rest.drop (i+1)).map encE))) b3 (.lst ((rest.take i).map encE++(rest.drop (i+1)).map encE))):=((Sub.new hb1).trans (.new hb2)).trans (.new hb3)
  have h6:gup (gup (gup G5 b1 (.lst ((rest.take i).map encE))) b2 (.lst ((rest.drop (i+1)).map encE))) b3 (.lst ((rest.take i).map encE++(rest.drop (i+1)).map encE)) b3=some (.lst ((rest.take i++rest.drop (i+1)).map encE)):=by rw[jJe,lKl]
  generalize gup (gup (gup G5 b1 (.lst ((rest.take i).map encE))) b2 (.lst ((rest.drop (i+1)).map encE))) b3 (.lst ((rest.take i).map encE++(rest.drop (i+1)).map encE))=G6 at s6 h6 ⊢
  have hl6:(rest.take i++rest.drop (i+1)).length<=n:=by simp;omega
  have pl6:=jYa hl6
  refine⟨b3,_,rfl,h6,hl6,by omega,fun q2 rs2 G7 hq2 hq7 pr7 _ s7=>⟨_,jJi hq7,?_⟩⟩
  rw[<-kYw (f:=T.ref) (Ds:=prs n (rest.take i++rest.drop (i+1))) pr7.1]
  refine jYf (es:=rs2.zip (prs n (rest.take i++rest.drop (i+1)))) (enc:=fun z=>T.ref z.1) (fun z=>((f,o)::z.2).map encP) (by rw[lXn];omega) (fun G' s=>by rw[kYw (f:=T.ref) pr7.1];exact jJi (s _ _ hq7)) ?_ ?_
  ·intro j z hz G8 K K0 s8 hK
   wp_walk using 1,tSeq
   exact body o pr7 (fun P hP=>kXo hP) j z hz G8 K s8 hK
  intro E rs3 G8 hE hE8 s8 hl3 hn3 hr3
  have D8:=s8 _ _ (s7 _ _ (s6 _ _ h1))
  have hDr:D∉rs3:=fun z=>by
   obtain⟨j,hj⟩:=lKa z
   have hjl:j<(rs2.zip (prs n (rest.take i++rest.drop (i+1)))).length:=by rw[<-hl3];exact (lJj.mp hj).1
   have:=(hr3 j D _ hj (lJp hjl)).1
   rw[s7 _ _ (s6 _ _ h1)] at this;cases this
  have p8:=kXp (G:=G8) (x:=(f,o)) pr7.1 hl3 fun i r z h1 h2=>(hr3 i r z h1 h2).2
  have all8:=(h3.sub fun u hu o ho=>s8 _ _ (s7 _ _ (s6 _ _ ho))).app p8
  have e8:(prs n rest).map ((f,f):: ·)++(List.range i).flatMap Fk++(prs n (rest.take i++rest.drop (i+1))).map ((f,o):: ·)=(prs n rest).map ((f,f):: ·)++(List.range (i+1)).flatMap Fk:=by
   rw[lVc,lVq,<-lJo]
   simp only[List.flatMap_cons,List.flatMap_nil,lQb,Fk,hog]
  rw[e8] at all8
  have len8:ws.length+rs3.length<=362880:=by
   have e1:=all8.1
   rw[lKc] at e1
   rw[e1]
   rw[hprs] at pl
   have e2:(List.range rest.length).flatMap Fk=(List.range (i+1)).flatMap Fk++((List.range rest.length).drop (i+1)).flatMap Fk:=by
    rw[<-lVq]
    congr 1
    rw[show List.range (i+1)=(List.range rest.length).take (i+1) by rw[List.take_range];congr 1;omega,lK6]
   rw[e2,<-lJo,lKc] at pl
   omega
  refine⟨D,E,_,_,rfl,rfl,D8,hE8,by rw[lJf,lJf];omega,_,_,ws++rs3,rfl,by rw[jJe,lKl],all8.sub fun u hu o ho=> ?_,fun z=>(lJn.mp z).elim h4 hDr,fun w hm=>(lJn.mp hm).elim (hw w) (kYf hl3 (fun i r z h1 h2=>(((s2.trans h5).trans s6).trans s7).none (hr3 i r z h1 h2).1) w),(((h5.trans s6).trans s7).trans s8).over hG2D⟩
  rw[jJo (show u≠D from fun e=>(lJn.mp (e▸hu)).elim h4 hDr)];exact ho
 ·intro τ G5 h_;apply xe3 h_;clear h_;intro v4 v5 ws h_;apply ae5 h_;clear h_;intro h1 h3 h4 hw h5
  wp_walk using 1,tSeq
  rw[jJ3,lJf] at h3
  exact kk D ws G5 (s2.none hG2D) h1 (by rw[hprs];exact h3) hw (s2.trans h5)
abbrev jQi:=jVm 9
theorem kK9 {α K:Type} {f:T->Option K} {enc:α->T} {g:α->K} (h:∀a,f (enc a)=some (g a)):∀l:List α,allK f (l.map enc)=some (l.map g)
 | []=>rfl
 | a::l=>by
  rw[lJq,lJq]
  unfold allK
  rw[h a,kK9 h l]
theorem keysW (V:Web):jQy (V.map encR)=some (keyW V):=kK9 (fun es=>by
 show (allK key1 _).map Sum.inr=_
 rw[kK9 (g:=fun p:Nat×Nat=>(.inr [.inl (p.1:Int),.inl (p.2:Int)]:L2.K1)) fun p=>rfl];rfl) V
theorem qUy {V:Web} (h:1<=V.length):SKey false (V.map encR) (keyW V):=by
 refine⟨keysW V,?_,?_⟩
 ·cases V with
  | nil=>cases h
  | cons a V=>rfl
 ·show (keyW V).all _=true
  rw[lKp]
  intro k hk
  obtain⟨es,_,rfl⟩:=lJl.mp hk
  show (keyR es).all _=true
  rw[lKp]
  intro k hk
  obtain⟨p,_,rfl⟩:=lJl.mp hk
  rfl
theorem jYw {α K:Type} [DecidableEq K] {lt:K->K->Option Bool} {f:α->K} (h:∀a b,(lt (f a) (f b)).isSome=true):∀a b:List α,(L3.lexLt lt (a.map f) (b.map f)).isSome=true
 | [],[]=>rfl
 | [],_::_=>rfl
 | _::_,[]=>rfl
 | x::a,y::b=>by
  rw[lJq,lJq]
  unfold L3.lexLt
  split
  ·exact jYw h a b
  ·exact h x y
theorem qZc (p q:Nat×Nat):(L3.lexLt ltI [.inl (p.1:Int),.inl (p.2:Int)] [.inl (q.1:Int),.inl (q.2:Int)]).isSome=true:=
 jYw (lt:=ltI) (f:=fun i:Nat=>(.inl (i:Int):L2.Key)) (fun i j=>rfl) [p.1,p.2] [q.1,q.2]
theorem row_lt (es fs:List (Nat×Nat)):(L3.lexLt (ltS ltI) (keyR es) (keyR fs)).isSome=true:=
 jYw (lt:=ltS ltI) (f:=fun p:Nat×Nat=>(.inr [.inl (p.1:Int),.inl (p.2:Int)]:L2.K1)) (fun p q=>qZc p q) es fs
theorem web_lt (V V':Web):(ltK (keyW V) (keyW V')).isSome=true:=
 jYw (lt:=ltS (ltS ltI)) (f:=fun es=>(.inr (keyR es):L2.K2)) (fun es fs=>row_lt es fs) V V'
theorem kXg:∀ {a b:List (List T×L2.TKey)},a.Perm b->a.Pairwise (fun x y=>ltK y.2 x.2≠some true)->b.Pairwise (fun x y=>ltK x.2 y.2=some true)->a=b
 | [],b,hp,_,_=>(List.nil_perm.mp hp).symm
 | x::a,[],hp,_,_=>List.perm_nil.mp hp
 | x::a,y::b,hp,ha,hb=>by
  rw[lYq] at ha hb
  have e:x=y:=by
   rcases lJr.mp (hp.mem_iff.mp (lJx ..)) with e | hx
   ·exact e
   ·rcases lJr.mp (hp.mem_iff.mpr (lJx ..)) with e | hy
    ·exact e.symm
    ·exact absurd (hb.1 x hx) (ha.1 y hy)
  subst e
  rw[kXg hp.cons_inv ha.2 hb.2]
theorem qX0:∀ {l:List Web},risB l=true->l.Pairwise fun a b=>ltK (keyW a) (keyW b)=some true
 | [],_=> .nil
 | [a],_=>List.pairwise_singleton ..
 | a::b::l,h=>by
  rw[risB,lKv,lKm] at h
  have ih:=qX0 h.2
  refine lYq.mpr ⟨fun c hc=> ?_,ih⟩
  rcases (lJr.mp hc) with rfl | hc
  ·exact h.1
  ·exact kVt h.1 ((lYq.mp ih).1 c hc)
theorem qK2:∀(L D:DD),(L.map fun x=>(([.int (x.1.1:Nat),.int (x.1.2:Nat)]:List T),keyE x.1,encE x.2)).foldl (fun kvs e=>putT kvs e.2.1 e.2.2) (kvD D)=kvD (L.foldl (fun D x=>putE D x.1 x.2) D)
 | [],D=>rfl
 | x::L,D=>by
  rw[lJq,lXf,lXf,<-qK2 L,kKt]
theorem qZo {r d:Nat} {V:Web} (h:V∈evL r d):∃p,p∈prs 9 (allE r d)/\V=webD r d (jU0 p):=by
 obtain⟨p,hp,e⟩:=lJl.mp (lXr.mp h).1
 exact⟨p,hp,e.symm⟩
theorem ixR_dE {G:Gp} {p:Addr} {D:DD} {e v:Nat×Nat} (h:G p=some (.dct (kvD D))) (hv:getE e D=some v):ixR G (.ref p) (.tup [.int (e.1:Nat),.int (e.2:Nat)])=some (encE v):=by
 have h1:valT (kvD D) (keyE e)=some (encE v):=by rw[kKa,hv];rfl
 have h2:jQy [.int (e.1:Nat),.int (e.2:Nat)]=some (keyE e):=rfl
 simp only[ixR,seqT,h,asL,dAt,h2,h1]
def jXc:Sp3:=fun xs G Q=>∃r d:Nat,xs=[.int r,.int d]/\Chk r d/\∀q G',G q=none->G' q=some (.lst ((evL r d).map encW))->Sub G G'->Q (.ref q) G'
def qXq:List Str:=["_law_wide","_law_doors","_law_found","_law_pairs","_law_lead","_law_web","_law_end","_law_other","_law_room","_law_door"]
noncomputable def jZl:TS3:=
 (tSeq (tAsg (tLst tNil) (jJg 2))
 (tSeq (tFor (iSeq (jJr jQi (jJc (jJr jUm (jJc (tVar 0) (jJc (tVar 1) tNil))) tNil))) (jJg 3) (tSeq (tAsg (tCB qX2 (jJc (tOp jK1 (tVar 3) (jKp [false,false,false,false,false,false,true,true,false,false] (iSeq (tVar 3)) (gTup 2 (jKg (jJg 6) (jKg (jJg 7) gNil))) jQg (tTup (jJc (tVar 7) (jJc (tVar 6) tNil))))) tNil)) (jJg 4))
 (tSeq (tAsg (tCB jK2 (jJc (jKp [false,false,false,false,false,false,false,false,true,false] (jK6 (jJc (tVar 0) tNil)) (jJg 8) jQg (tCB jK2 (jJc (jKp [false,false,false,false,false,false,false,false,false,true] (jK6 (jJc (tVar 1) tNil)) (jJg 9) jQg (tOp rIxF (tVar 4) (tTup (jJc (tVar 8) (jJc (tVar 9) tNil))))) tNil))) tNil)) (jJg 5))
 (tIfS (jJy (tOp rEqA (jJr jY9 (jJc (tVar 5) (jJc (tC (.int 0)) tNil))) (tVar 5))) (jUh (tBM "list" jKq (tVar 2) (jJc (tVar 5) tNil))) jKr))))
 (tRet (tCB qX1 (jJc (tVar 2) tNil)))))
theorem kU9:RdOk jXc jZl qXq:=by
 intro xs G Q h_;apply xe2 h_;clear h_;intro r d h_;apply ae2 h_;clear h_;intro c kk
 show jZl _ [some (.int r),some (.int d),none,none,none,none,none,none,none,none] G
 have hs:=sz
 have hr:=c.r9
 have hr1:=c.r1
 have hd:=c.d6
 have hrd:=c.rd
 wp_walk using 1,jZl,jJ2,iSeq
 refine⟨by omega,fun f hf=> ?_⟩
 refine⟨r,d,rfl,by omega,by omega,fun q0 G2 hq0 hq2 s2=> ?_⟩
 have f2:=s2 _ _ (jJe (a:=f) (o:= .lst []))
 have sG2:Sub G G2:=(Sub.new hf).trans s2
 have hal:(allE r d).length<=9:=by rw[kQa];exact hrd
 refine⟨q0,allE r d,rfl,hq2,hal,lJg _,fun q1 rs G3 hq1 hq3 pr fr s3=>⟨_,jJi hq3,?_⟩⟩
 have pl:=jYa hal
 have pl9:fct 9<=362880:=qQu (lJg _)
 have f3:=s3 _ _ f2
 have q1f:q1≠f:=(jJj f2 hq1).symm
 have rf:∀u,u∈rs->u≠f:=fun u hu e=>by have:=fr u hu;rw[e,f2] at this;cases this
 generalize hPs:prs 9 (allE r d)=Ps at pr pl
 have cp:=c.prs
 rw[hPs] at cp
 let J:Nat->St3->Gp->Prop:=fun i τ G'=>∃(v3 v4 v5:Option T),τ=[some (.int r),some (.int d),some (.ref f),v3,v4,v5,none,none,none,none]/\G' f=some (.lst ((((Ps.take i).map fun p=>webD r d (jU0 p)).filter fun W=>decide (kQc W 0=W)).map encW))/\G' q1=some (.lst (rs.map T.ref))/\PrAt G' rs Ps/\Sub G G'
 refine⟨J,?_,?_,?_,?_⟩
 ·exact⟨none,none,none,rfl,f3,hq3,pr,sG2.trans s3⟩
 ·intro i τ G' hi h_;apply xe3 h_;clear h_;intro v3 v4 v5 h_;apply ae4 h_;clear h_;intro h1 h2 h3 h4
  exact jJi h2
 ·intro i y τ G4 hy h_;apply xe3 h_;clear h_;intro v3 v4 v5 h_;apply ae4 h_;clear h_;intro h1 h2 h3 h4
  obtain⟨u,hu,rfl⟩:=jJ9 hy
  obtain⟨P,hP,hG⟩:=h3.2 i u hu
  have hPm:=lJu hP
  obtain⟨c1,c2,c3⟩:=cp P hPm
  wp_walk using 1,iSeq,rEqA,jK6
  refine⟨_,jJi hG,?_⟩
  refine jKe (es:=P) (enc:=encP) (fun x=>encP (x.2,x.1)) (by omega) (fun G' s=>jJi (s _ _ hG)) ?_ ?_
  ·intro j x hx G5 K K0 s5 hK
   wp_walk using 1,encP
   exact⟨by omega,hK G5 (.refl _)⟩
  intro E G5 hE hE5 s5
  refine⟨_,jVl (s5 _ _ hG) hE5 (by simp;omega),?_⟩
  intro m hm
  refine⟨m,(P++P.map fun x=>(x.2,x.1)).map (fun x=>(([.int (x.1.1:Nat),.int (x.1.2:Nat)]:List T),keyE x.1,encE x.2)),rfl,by rw[jJe,lJy,lKl,lJy];rfl,fun e he=> ?_,by simp;omega,fun lq hlq=> ?_⟩
  ·obtain⟨x,_,rfl⟩:=lJl.mp he;rfl
  have hlead:=(jJe (G:=gup G5 m (.lst (P.map encP++P.map fun x=>encP (x.2,x.1)))) (a:=lq) (o:= .dct (((P++P.map fun x=>(x.2,x.1)).map (fun x=>(([.int (x.1.1:Nat),.int (x.1.2:Nat)]:List T),keyE x.1,encE x.2))).foldl (fun kvs e=>putT kvs e.2.1 e.2.2) [])))
  have s7:Sub G4 (gup (gup G5 m (.lst (P.map encP++P.map fun x=>encP (x.2,x.1)))) lq (.dct (((P++P.map fun x=>(x.2,x.1)).map (fun x=>(([.int (x.1.1:Nat),.int (x.1.2:Nat)]:List T),keyE x.1,encE x.2))).foldl (fun kvs e=>putT kvs e.2.1 e.2.2) []))):=(s5.trans (.new hm)).trans (.new hlq)
  generalize gup (gup G5 m (.lst (P.map encP++P.map fun x=>encP (x.2,x.1)))) lq (.dct (((P++P.map fun x=>(x.2,x.1)).map (fun x=>(([.int (x.1.1:Nat),.int (x.1.2:Nat)]:List T),keyE x.1,encE x.2))).foldl (fun kvs e=>putT kvs e.2.1 e.2.2) []))=G7 at hlead s7 ⊢
  rw[show ((P++P.map fun x=>(x.2,x.1)).map (fun x=>(([.int (x.1.1:Nat),.int (x.1.2:Nat)]:List T),keyE x.1,encE x.2))).foldl (fun kvs e=>putT kvs e.2.1 e.2.2) []=kvD (jU0 P) from qK2 _ []] at hlead
  refine⟨by omega,by omega,?_⟩
  rw[show ((r:Nat):Int).toNat=r by omega,jVg]
  refine jKe (es:=List.range r) (enc:=fun k:Nat=>T.int k) (fun k=>encR (rowD d (jU0 P) k)) (by simp;omega) (fun _ _=>trivial) ?_ ?_
  ·intro j k hk G8 K K0 s8 hK
   have hkr:k<r:=by have:=lJu hk;simpa using this
   wp_walk using 1,jK6
   refine⟨by omega,by omega,?_⟩
   rw[show ((d:Nat):Int).toNat=d by omega,jVg]
   refine jKe (es:=List.range d) (enc:=fun k:Nat=>T.int k) (fun i=>encE ((getE (k,i) (jU0 P)).getD (0,0))) (by simp;omega) (fun _ _=>trivial) ?_ ?_
   ·intro j2 x hx G9 K' K0' s9 hK'
    have hxd:x<d:=by have:=lJu hx;simpa using this
    obtain⟨v,hv⟩:=lXc.mp (c2 k x hkr hxd)
    wp_walk using 1,tSeq
    refine⟨by omega,_,ixR_dE (e:=(k,x)) (s9 _ _ (s8 _ _ hlead)) hv,?_⟩
    have:=hK' G9 (.refl _)
    rw[hv] at this
    exact this
   ·intro E2 G9 hE2 hE9 s9
    refine⟨_,jJi hE9,?_⟩
    have:=hK G9 s9
    unfold encR rowD at this
    rw[lJy] at this
    exact this
  intro E2 G8 hE2 hE8 s8
  refine⟨_,jJi hE8,?_⟩
  have hW:T.tup ((List.range r).map fun k=>encR (rowD d (jU0 P) k))=encW (webD r d (jU0 P)):=by unfold encW webD;rw[lJy];rfl
  rw[hW]
  have tk:Ps.take (i+1)=Ps.take i++[P]:=by rw[lQi,hP];rfl
  have hlen:(((Ps.take i).map fun p=>webD r d (jU0 p)).filter fun W=>decide (kQc W 0=W)).length<=362880:=by
   have h1:=lYa (fun W=>decide (kQc W 0=W)) ((Ps.take i).map fun p=>webD r d (jU0 p))
   rw[lJf,lQg] at h1
   omega
  refine⟨webD r d (jU0 P),0,rfl,(kUs (by omega) (by omega)).fine c3,by rw[jXa];omega,fun G9 s9=>⟨_,qXb,?_⟩⟩
  have s49:=(s7.trans s8).trans s9
  by_cases ht:kQc (webD r d (jU0 P)) 0=webD r d (jU0 P)
  ·rw[lJc (lJ4 ht)]
   have f9:=s49 _ _ h1
   wp_walk using 1,jKl f9,f9
   refine⟨by rw[lJf];omega,_,_,_,rfl,?_,by rw[jJo q1f];exact s49 _ _ h2,(h3.sub fun u hu o ho=>by rw[jJo (rf u hu)];exact s49 _ _ ho),(h4.trans s49).over hf⟩
   rw[jJe,tk,lKl,List.filter_append,lKl]
   simp only[lJq,List.map_nil,lVd,lJ4 ht,lKh,List.filter_nil]
  ·rw[lJb (by simpa using ht)]
   refine⟨_,_,_,rfl,?_,s49 _ _ h2,h3.sub fun u hu o ho=>s49 _ _ ho,h4.trans s49⟩
   rw[s49 _ _ h1,tk,lKl,List.filter_append]
   simp only[lJq,List.map_nil,lVd,lJv ht,lKf,lJ6,List.filter_nil,lQb]
 ·intro τ G4 h_;apply xe3 h_;clear h_;intro v3 v4 v5 h_;apply ae4 h_;clear h_;intro h1 h2 h3 h4
  rw[lJf,pr.1,lQq,<-hPs] at h1
  have h1':G4 f=some (.lst ((evL r d).map encW)):=h1
  wp_walk using 1,tSeq
  have hel:(evL r d).length<=362880:=by
   have h1:=lYa (fun W=>decide (kQc W 0=W)) ((prs 9 (allE r d)).map fun p=>webD r d (jU0 p))
   rw[lJf,hPs] at h1
   show (List.filter _ _).length<=_
   rw[hPs];omega
  have hVl:∀V,V∈evL r d->1<=V.length:=fun V hV=>by obtain⟨p,_,rfl⟩:=qZo hV;rw[jXa];exact hr1
  refine⟨.ref f,false,(evL r d).map fun V=>(V.map encR,keyW V),rfl,by simp only[jQt,h1',asL,lJy];rfl,by rw[lJf];omega,fun e he=> ?_,fun e he e' he'=> ?_,fun p kys hp pe pw=> ?_⟩
  ·obtain⟨V,hV,rfl⟩:=lJl.mp he
   exact qUy (hVl V hV)
  ·obtain⟨V,hV,rfl⟩:=lJl.mp he
   obtain⟨V',hV',rfl⟩:=lJl.mp he'
   exact web_lt V V'
  ·have ek:kys=(evL r d).map fun V=>(V.map encR,keyW V):=kXg pe pw (by rw[lXm];exact qX0 c.ris)
   refine kk p _ (h4.none hp) ?_ (h4.trans (.new hp))
   rw[jJe,ek,lJy];rfl
theorem jVb {α β:Type} {p:α->Bool} {f:α->β}:∀l:List α,l.filterMap (fun r=>if p r=true then some (f r) else none)=(l.filter p).map f
 | []=>rfl
 | a::l=>by
  rw[lQx,lVd]
  by_cases h:p a=true
  ·rw[lJc h,lJc h,lJq,jVb l]
  ·rw[lJb h,lJb h,jVb l]
noncomputable def szR (most doors w:Nat):List (Nat×Nat):=(((List.range (7-doors)).map (· +doors)).filter fun m=>decide ((w+1)*m<=most)&&(decide (m>0)||decide (w+1<4))).map fun m=>(w+1,m)
theorem qJh {most doors w:Nat}:(szR most doors w).length<=7:=by
 unfold szR
 rw[lJf]
 refine lK1 (lYa _ _) ?_
 rw[lJf,lKw];omega
noncomputable def jVf:Sp3:=fun xs G Q=>∃most doors:Nat,xs=[.int most,.int doors]/\most<=100/\doors<=7/\∀q G',G q=none->G' q=some (.lst ((szF most doors).map encE))->Sub G G'->Q (.ref q) G'
def qUo:List Str:=["_law_most","_law_doors","_law_found","_law_wide","_law_some","_law_many"]
noncomputable def jX6:TS3:=
 (tSeq (tAsg (tLst tNil) (jJg 2))
 (tSeq (tFor (jYq (jJc (tC (.int 1)) (jJc (tC (.int 9)) tNil))) (jJg 3) (tSeq (tAsg (jKp [false,false,false,false,false,true] (jYq (jJc (tVar 1) (jJc (tC (.int 7)) tNil))) (jJg 5) (jJy (tOp rLeF (tOp jX9 (tVar 3) (tVar 5)) (tVar 0))) (tVar 5)) (jJg 4))
 (jUh (tBM "list" jV0 (tVar 2) (jJc (jKp [false,false,false,false,false,true] (iSeq (tVar 4)) (jJg 5) (tOr (jJy (tOp rGt (tVar 5) (tC (.int 0)))) (jJy (tOp rLt (tVar 3) (tC (.int 4))))) (tTup (jJc (tVar 3) (jJc (tVar 5) tNil)))) tNil)))))
 (tRet (tVar 2))))
theorem kQj:RdOk jVf jX6 qUo:=by
 intro xs G Q h_;apply xe2 h_;clear h_;intro most doors h_;apply ae3 h_;clear h_;intro hm hd kk
 show jX6 _ [some (.int most),some (.int doors),none,none,none,none] G
 have hs:=sz
 wp_walk using 1,jX6,jJ2,jYq
 refine⟨by omega,fun q hq=>⟨by omega,by omega,by omega,by omega,?_⟩⟩
 rw[show ((9:Int)-1).toNat=8 from rfl,show (1:Int)=((1:Nat):Int) from rfl,jU6]
 let J1:Nat->St3->Gp->Prop:=fun k τ G'=>∃(v3 v4:Option T),τ=[some (.int most),some (.int doors),some (.ref q),v3,v4,none]/\G' q=some (.lst (((List.range k).flatMap (szR most doors)).map encE))/\Sub G G'
 refine⟨J1,?_,?_,?_,?_⟩
 ·exact xi2 _ _ rfl ⟨jJe,.new hq⟩
 ·intros;trivial
 ·intro w y τ G1 hy h_;apply xe2 h_;clear h_;intro v3 v4 h_;apply ae2 h_;clear h_;intro h1 h2
  obtain⟨w',hw',rfl⟩:=jJ9 hy
  obtain⟨hw,rfl⟩:w<8/\w=w':=by
   obtain⟨q1,q2⟩:=lJj.mp hw'
   rw[lY2] at q2
   rw[lKw] at q1
   exact⟨q1,q2⟩
  wp_walk using 1,jYq,iSeq,rLeF
  refine⟨by omega,by omega,by omega,by omega,?_⟩
  rw[show ((7:Int)-(doors:Nat)).toNat=7-doors by omega,jU6,show ((List.range (7-doors)).map fun (k:Nat)=>T.int ((doors+k:Nat):Int))=((List.range (7-doors)).map (· +doors)).map fun m:Nat=>T.int m by rw[lJy];exact List.map_congr_left fun k _=>by simp[lXg]]
  generalize hes:(List.range (7-doors)).map (· +doors)=es
  have hel:es.length<=7:=by rw[<-hes,lJf,lKw];omega
  have hem:∀m,m∈es->m<14:=fun m hmm=>by
   rw[<-hes] at hmm
   obtain⟨k,hk,rfl⟩:=lJl.mp hmm
   have:=lJ7.mp hk;omega
  refine jXw (es:=es) (enc:=fun m:Nat=>T.int m) (fun m=>if decide ((w+1)*m<=most)=true then some (T.int (m:Nat)) else none) (by omega) (fun _ _=>trivial) ?_ ?_
  ·intro j m hj G2 K K0 s2 hK hK0
   have hm14:=hem m (lJu hj)
   wp_walk using 1,rLeF
   refine⟨.inl ⟨by omega,by omega⟩,?_⟩
   have e:(((1+w:Nat):Int)*((m:Nat):Int)<=((most:Nat):Int))↔(w+1)*m<=most:=by
    rw[<-Int.natCast_mul,Int.ofNat_le,lXg]
   by_cases h:(w+1)*m<=most
   ·rw[lJc (e.mpr h)];exact hK _ _ (by rw[lJc (lJ4 h)]) (.refl _)
   ·rw[lJb (fun z=>h (e.mp z))];exact hK0 (by rw[lJb (by simpa using h)]) _ (.refl _)
  intro E G2 hE hE2 s2
  rw[jVb (p:=fun m=>decide ((w+1)*m<=most))] at hE2
  generalize hfs:es.filter (fun m=>decide ((w+1)*m<=most))=fs at hE2
  have hfl:fs.length<=7:=by rw[<-hfs];exact lK1 (lYa _ _) hel
  have q2:=s2 _ _ h1
  wp_walk using 1,jKl q2,iSeq
  refine⟨_,jJi hE2,?_⟩
  refine jXw (es:=fs) (enc:=fun m:Nat=>T.int m) (fun m=>if (decide (m>0)||decide (w+1<4))=true then some (encE (w+1,m)) else none) (by omega) (fun G' s=>jJi (s _ _ hE2)) ?_ ?_
  ·intro j m hj G3 K K0 s3 hK hK0
   wp_walk using 1,tSeq
   have fin:(decide (m>0)||decide (w+1<4))=true->2<=sizeLine/\K (.tup [.int ((1+w:Nat):Int),.int (m:Nat)]) G3:=fun h=>⟨by omega,by
    have:=hK _ G3 (lJc h) (.refl _)
    rw[lXg 1 w];exact this⟩
   by_cases h1:m>0
   ·rw[lJc (by omega)]
    exact fin (by simp[h1])
   ·rw[lJb (by omega)]
    by_cases h2:w+1<4
    ·rw[lJc (by omega)]
     exact fin (by simp[h2])
    ·rw[lJb (by omega)]
     exact hK0 (lJb (by simp[h1];omega)) _ (.refl _)
  intro F G3 hF hF3 s3
  rw[jVb (p:=fun m=>decide (m>0)||decide (w+1<4)),<-hfs,List.filter_filter] at hF3
  have hrow:(es.filter fun m=>(decide (m>0)||decide (w+1<4))&&decide ((w+1)*m<=most)).map (fun m=>encE (w+1,m))=(szR most doors w).map encE:=by
   unfold szR
   rw[lJy,hes]
   congr 1
   refine List.filter_congr fun m _=>Bool.and_comm ..
  rw[hrow] at hF3
  have hfw:((List.range w).flatMap (szR most doors)).length<=(List.range w).length*7:=qQs fun a _=>qJh
  have hrl:=qJh (most:=most) (doors:=doors) (w:=w)
  rw[lKw] at hfw
  refine⟨q,F,_,_,rfl,rfl,s3 _ _ q2,hF3,by rw[lJf,lJf];omega,?_⟩
  exact xi2 _ _ rfl ⟨by rw[jJe,lVc,lVq,lKl];simp,((h2.trans s2).trans s3).over hq⟩
 ·intro τ G1 h_;apply xe2 h_;clear h_;intro v3 v4 h_;apply ae2 h_;clear h_;intro h1 h2
  rw[lJf,lKw] at h1
  wp_walk using 1,tSeq
  exact kk q G1 hq h1 h2
def jU9 (r:Nat) (es:List (Nat×Nat)):Nat:=(es.getLast?.map Prod.fst).getD r
def goW (W:Web) (r:Nat) (ds:List Nat):Option (List (Nat×Nat)):=ds.foldl (fun o d=>o.bind fun es=>(en W (jU9 r es) d).map fun e=>es++[e]) (some [])
theorem jXu {W:Web} {r d:Nat} {ds:List Nat}:goW W r (ds++[d])=(goW W r ds).bind fun es=>(en W (jU9 r es) d).map fun e=>es++[e]:=by
 unfold goW;rw[lY0];rfl
theorem qV9 {W:Web} {r:Nat} {ds ds':List Nat} (h:goW W r ds=none):goW W r (ds++ds')=none:=by
 unfold goW at h ⊢
 rw[lY0,h]
 induction ds' with
 | nil=>rfl
 | cons a as ih=>exact ih
theorem jUc {r:Nat} {es:List (Nat×Nat)} {e:Nat×Nat}:jU9 r (es++[e])=e.1:=by simp[jU9]
theorem kU1 {α:Type} {P:List α->Prop} (h0:P []) (h1:∀ds d,P ds->P (ds++[d])) (ds:List α):P ds:=by
 have:∀l:List α,P l.reverse:=by
  intro l
  induction l with
  | nil=>exact h0
  | cons a as ih=>rw[lXu];exact h1 _ _ ih
 have h:=this ds.reverse
 rwa [List.reverse_reverse] at h
theorem jYn {W:Web} (f:Fine W) {r:Nat} (hr:r<W.length):∀ {ds:List Nat} {es:List (Nat×Nat)},goW W r ds=some es->jU9 r es<W.length/\es.length=ds.length/\∀e,e∈es->e.1<W.length:=by
 intro ds
 refine kU1 (P:=fun ds=>∀ {es:List (Nat×Nat)},goW W r ds=some es->jU9 r es<W.length/\es.length=ds.length/\∀e,e∈es->e.1<W.length) ?_ ?_ ds
 ·intro es h;cases h;exact⟨hr,rfl,fun e he=>by cases he⟩
 ·intro ds d ih es h
  rw[jXu] at h
  cases e1:goW W r ds with
  | none=>rw[e1] at h;cases h
  | some es1=>
   rw[e1] at h
   obtain⟨a1,a2,a3⟩:=ih e1
   simp only[lYb] at h
   cases e2:en W (jU9 r es1) d with
   | none=>rw[e2] at h;cases h
   | some e=>
    rw[e2] at h;cases h
    have he:=f.rng _ _ e.1 e.2 e2
    refine⟨by rw[jUc];exact he,by simp[a2],fun x hx=> ?_⟩
    rw[lJn,lJt] at hx
    rcases hx with hx | rfl
    ·exact a3 x hx
    ·exact he
theorem kK0 {W:Web} {r i d:Nat} {ds:List Nat} (hd:ds[i]? =some d):goW W r (ds.take (i+1))=(goW W r (ds.take i)).bind fun es=>(en W (jU9 r es) d).map fun e=>es++[e]:=by
 rw[lQi,hd];exact jXu
theorem qQi {W:Web} {r i d:Nat} {ds:List Nat} {es:List (Nat×Nat)} (hd:ds[i]? =some d) (h:goW W r (ds.take i)=some es) (hn:en W (jU9 r es) d=none):goW W r ds=none:=by
 have:goW W r (ds.take (i+1))=none:=by rw[kK0 hd,h];simp[hn]
 have h2:=qV9 (ds':=ds.drop (i+1)) this
 rwa [lK6] at h2
noncomputable def jQ6:Sp3:=fun xs G Q=>∃(W:Web) (r:Nat) (x:T) (ds:List Nat),xs=[encW W,.int r,x]/\Fine W/\r<W.length/\seqT G x=some (jJk ds)/\ds.length<=1000/\∀G',Sub G G'->(goW W r ds=none->Q .non G')/\(∀es p,goW W r ds=some es->G p=none->G' p=some (.lst (es.map encE))->Q (.ref p) G')
def qUq:List Str:=["web","room","way","ends","here","door","end"]
noncomputable def jX8:TS3:=
 (tSeq (tAsg (tLst tNil) (jJg 3))
 (tSeq (tAsg (tVar 1) (jJg 4))
 (tSeq (tFor (iSeq (tVar 2)) (jJg 5) (tSeq (tIfS (tNot (jJy (jVq rLeF rLt (tC (.int 0)) (tVar 5) (tCB rLen (jJc (tOp rIxF (tVar 0) (tVar 4)) tNil))))) (tRet (tC .non)) jKr)
 (tSeq (tAsg (tOp rIxF (tOp rIxF (tVar 0) (tVar 4)) (tVar 5)) (jJg 6))
 (tSeq (jUh (tBM "list" jKq (tVar 3) (jJc (tVar 6) tNil)))
 (tAsg (tOp rIxF (tVar 6) (tC (.int 0))) (jJg 4))))))
 (tRet (tVar 3)))))
theorem qXz {W:Web} {r:Nat} (hr:r<W.length):∃es,W[r]? =some es/\∀d,en W r d=es[d]? :=⟨W[r],lJp hr,fun d=>by unfold en;rw[lJp hr];rfl⟩
theorem kQl:RdOk jQ6 jX8 qUq:=by
 intro xs G Q h_;apply xe4 h_;clear h_;intro W r x ds h_;apply ae5 h_;clear h_;intro fine hr hx hdl kk
 show jX8 _ [some (.tup (W.map encR)),some (.int r),some x,none,none,none,none] G
 have hs:=sz
 wp_walk using 1,jX8,jJ2,iSeq
 refine⟨lJz _,fun p hp=> ?_⟩
 refine⟨jJk ds,(Sub.new hp).seq hx,?_⟩
 refine⟨fun i τ G'=>∃(v5 v6:Option T) (es:List (Nat×Nat)),τ=[some (.tup (W.map encR)),some (.int r),some x,some (.ref p),some (.int (jU9 r es:Nat)),v5,v6]/\goW W r (ds.take i)=some es/\G' p=some (.lst (es.map encE))/\Sub G G',?_,?_,?_,?_⟩
 ·exact⟨none,none,[],rfl,rfl,jJe,.new hp⟩
 ·intro i τ G' hi h_;apply xe3 h_;clear h_;intro v5 v6 es h_;apply ae3 h_;clear h_;intro h1 h2 h3
  exact h3.seq hx
 ·intro i y τ G1 hy h_;apply xe3 h_;clear h_;intro v5 v6 es h_;apply ae3 h_;clear h_;intro h1 h2 h3
  obtain⟨d,hd,rfl⟩:=jJ9 hy
  have hi:i<ds.length:=(lJj.mp hd).1
  obtain⟨b1,b2,b3⟩:=jYn fine hr h1
  obtain⟨row,hrow,hen⟩:=qXz b1
  have hrl:=fine.row _ _ hrow
  rw[lQg] at b2
  have hatR:=jV6 hrow
  wp_walk using 1,jVq,rLeF,hatR,encR,List.length_map
  rw[lJc (by omega)]
  by_cases hdr:d<row.length
  ·have hed:row[d]? =some row[d]:=lJp hdr
   generalize row[d]=e at hed
   have heR:=kK2 hed
   wp_walk using 1,heR,show decide ((d:Int)<(row.length:Int))=true by simp;omega,encE,jKl h2,h2,List.length_map
   refine⟨by omega,_,_,es++[e],by rw[jUc],rfl,rfl,?_,by simp[encE],h3.over hp⟩
   rw[kK0 hd,h1]
   simp[hen,hed]
  ·have hnone:row[d]? =none:=lKo (by omega)
   wp_walk using 1,show decide ((d:Int)<(row.length:Int))=false by simp;omega
   exact (kk G1 h3).1 (qQi hd h1 (by rw[hen];exact hnone))
 ·intro τ G1 h_;apply xe3 h_;clear h_;intro v5 v6 es h_;apply ae3 h_;clear h_;intro h1 h2 h3
  wp_walk using 1,tSeq
  have e1:(jJk ds).length=ds.length:=by simp[jJk]
  rw[e1,lQq] at h1
  exact (kk G1 h3).2 es p h1 hp h2
def qV7 (r:Nat) (es:List (Nat×Nat)):T:=match es.getLast? with
 | some e=>encE e
 | none=> .tup [.int r,.non]
noncomputable def kUy:Sp3:=fun xs G Q=>∃(W:Web) (r:Nat) (x:T) (ds:List Nat),xs=[encW W,.int r,x]/\Fine W/\r<W.length/\seqT G x=some (jJk ds)/\ds.length<=1000/\∀G',Sub G G'->(goW W r ds=none->Q .non G')/\(∀es,goW W r ds=some es->Q (qV7 r es) G')
def N_gone:List Str:=["web","room","way","ends"]
noncomputable def kVd:TS3:=
 (tSeq (tAsg (jJr jQ6 (jJc (tVar 0) (jJc (tVar 1) (jJc (tVar 2) tNil)))) (jJg 3))
 (tSeq (tIfS (jJy (tOp rIsN (tVar 3) (tC .non))) (tRet (tC .non)) jKr)
 (tRet (tIf (tTru rTru (tVar 3)) (tOp rIxF (tVar 3) (tUn rNeg (tC (.int 1)))) (tTup (jJc (tVar 1) (jJc (tC .non) tNil)))))))
theorem qJz:RdOk kUy kVd N_gone:=by
 intro xs G Q h_;apply xe4 h_;clear h_;intro W r x ds h_;apply ae5 h_;clear h_;intro fine hr hx hdl kk
 show kVd _ [some (encW W),some (.int r),some x,none] G
 have hs:=sz
 wp_walk using 1,kVd
 refine⟨W,r,x,ds,rfl,fine,hr,hx,hdl,fun G1 s1=>⟨fun hn=> ?_,fun es p he hp hp1=> ?_⟩⟩
 ·wp_walk using 1,tSeq
  exact (kk G1 s1).1 hn
 ·wp_walk using 1,jJi hp1,jUt hp1,hp1
  have:=(kk G1 s1).2 es he
  rcases es.eq_nil_or_concat with rfl | ⟨l,a,h⟩
  ·exact⟨by omega,this⟩
  ·rw[List.concat_eq_append] at h;subst h
   rw[lJc (by simp)]
   refine⟨encE a,by rw[lKl];exact uJ1,?_⟩
   simpa[qV7] using this
theorem kQh {r:Nat} {es:List (Nat×Nat)}:jJk (r::es.map Prod.fst)=((r::es.map Prod.fst).map fun n:Nat=>(n:Int)).map T.int:=by rw[jJk,lJy];rfl
noncomputable def jKt:Sp3:=fun xs G Q=>∃(W:Web) (r:Nat) (ds:List Nat) (es:List (Nat×Nat)),xs=[encW W,.int r,.tup (jJk ds)]/\Fine W/\r<W.length/\W.length<=60/\ds.length<=900/\goW W r ds=some es/\∀q (ys:List Int) G',ys.Nodup->(∀z,z∈ys↔z∈(r::es.map Prod.fst).map fun n:Nat=>(n:Int))->G' q=some (.lst (ys.map T.int))->Sub G G'->Q (.ref q) G'
def kJp:List Str:=["_law_web","_law_room","_law_way","_law_found","_law_door"]
noncomputable def jQo:TS3:=
 (tSeq (tAsg (tLst (jJc (tVar 1) tNil)) (jJg 3))
 (tSeq (tFor (iSeq (tVar 2)) (jJg 4) (tSeq (tAsg (tOp rIxF (tOp rIxF (tOp rIxF (tVar 0) (tVar 1)) (tVar 4)) (tC (.int 0))) (jJg 1))
 (jUh (tBM "list" jKq (tVar 3) (jJc (tVar 1) tNil)))))
 (tRet (qJe (jJc (tVar 3) tNil)))))
theorem jX3:RdOk jKt jQo kJp:=by
 intro xs G Q h_;apply xe4 h_;clear h_;intro W r ds es0 h_;apply ae6 h_;clear h_;intro fine hr hW hl hgo kk
 show jQo _ [some (.tup (W.map encR)),some (.int r),some (.tup (jJk ds)),none,none] G
 have hs:=sz
 wp_walk using 1,jQo,jJ2,iSeq
 refine⟨by omega,fun q hq=> ?_⟩
 let J1:Nat->St3->Gp->Prop:=fun i τ G'=>∃(v4:Option T) (es:List (Nat×Nat)),τ=[some (.tup (W.map encR)),some (.int (jU9 r es:Nat)),some (.tup (jJk ds)),some (.ref q),v4]/\goW W r (ds.take i)=some es/\G' q=some (.lst (jJk (r::es.map Prod.fst)))/\Sub G G'
 refine⟨J1,?_,?_,?_,?_⟩
 ·exact⟨none,[],rfl,rfl,jJe,.new hq⟩
 ·intro i τ G' hi h_;apply xe2 h_;clear h_;intro v4 es h_;apply ae3 h_;clear h_;intro h1 h2 h3
  trivial
 ·intro i y τ G1 hy h_;apply xe2 h_;clear h_;intro v4 es h_;apply ae3 h_;clear h_;intro h1 h2 h3
  obtain⟨d,hd,rfl⟩:=jJ9 hy
  have hi:i<ds.length:=(lJj.mp hd).1
  obtain⟨b1,b2,b3⟩:=jYn fine hr h1
  rw[lQg] at b2
  obtain⟨row,hrow,hen⟩:=qXz b1
  have hdr:d<row.length:=by
   rcases lQm d row.length with z | z
   ·exact z
   ·have hn:goW W r ds=none:=qQi hd h1 (by rw[hen d,lKo z])
    rw[hn] at hgo;cases hgo
  have hed:row[d]? =some row[d]:=lJp hdr
  generalize row[d]=e at hed
  have heR:=kK2 hed
  wp_walk using 1,jV6 hrow,encR,heR,encE,jKl h2,h2
  refine⟨by rw[jJk,lJf,lJ5,lJf];omega,⟨_,es++[e],by rw[jUc],by rw[kK0 hd,h1,lYb,hen d,hed];rfl,by rw[jJe];simp[jJk],h3.over hq⟩⟩
 ·intro τ G1 h_;apply xe2 h_;clear h_;intro v4 es h_;apply ae3 h_;clear h_;intro h1 h2 h3
  rw[show (jJk ds).length=ds.length by rw[jJk,lJf],lQq,hgo] at h1
  cases h1
  obtain⟨b1,b2,b3⟩:=jYn fine hr hgo
  wp_walk using 1,qJe
  refine⟨_,by simp only[jQt,h2,asL];rw[kQh],by rw[lJf,lJ5,lJf];omega,⟨(List.range W.length).map fun n:Nat=>(n:Int),by rw[lJf,lKw];omega,fun z hz=> ?_⟩,fun p2 ys hp2 hn hm=>kk p2 ys _ hn hm jJe (h3.trans (.new hp2))⟩
  obtain⟨n,hn,rfl⟩:=lJl.mp hz
  refine lJl.mpr ⟨n,lJ7.mpr ?_,rfl⟩
  rcases (lJr.mp hn) with rfl | hn
  ·exact hr
  ·obtain⟨e,he,rfl⟩:=lJl.mp hn
   exact b3 e he
noncomputable def jVu:Sp3:=fun xs G Q=>∃(W:Web) (r:Nat) (x:T) (ds:List Nat),xs=[encW W,.int r,x]/\Fine W/\r<W.length/\seqT G x=some (jJk ds)/\ds.length<=900/\∀(c:Bool) G',(goW W r ds=none->c=false)->(∀es,goW W r ds=some es->∃ys:List Int,ys.Nodup/\(∀z,z∈ys↔z∈(r::es.map Prod.fst).map fun n:Nat=>(n:Int))/\c=decide (ys.length=W.length))->Sub G G'->Q (.bl c) G'
def kZ0:List Str:=["web","room","way","ends","end"]
noncomputable def jVx:TS3:=
 (tSeq (tAsg (jJr jQ6 (jJc (tVar 0) (jJc (tVar 1) (jJc (tVar 2) tNil)))) (jJg 3))
 (tSeq (tIfS (jJy (tOp rIsN (tVar 3) (tC .non))) (tRet (tC (.bl false))) jKr)
 (tRet (tOp rEqA (qJf (jJc (tOp jK1 (tLst (jJc (tVar 1) tNil)) (jKp [false,false,false,false,true] (iSeq (tVar 3)) (jJg 4) jQg (tOp rIxF (tVar 4) (tC (.int 0))))) tNil)) (tCB rLen (jJc (tVar 0) tNil))))))
theorem kKo:RdOk jVu jVx kZ0:=by
 intro xs G Q h_;apply xe4 h_;clear h_;intro W r x ds h_;apply ae5 h_;clear h_;intro fine hr hx hl kk
 show jVx _ [some (.tup (W.map encR)),some (.int r),some x,none,none] G
 have hs:=sz
 wp_walk using 1,jVx,rIsN
 refine⟨W,r,x,ds,rfl,fine,hr,hx,by omega,fun G1 s1=>⟨fun hn=> ?_,fun es p hgo hp hp1=> ?_⟩⟩
 ·wp_walk using 1,tSeq
  exact kk false G1 (fun _=>rfl) (fun es h=>by rw[hn] at h;cases h) s1
 ·obtain⟨b1,b2,b3⟩:=jYn fine hr hgo
  wp_walk using 1,qJf,iSeq
  refine⟨by omega,fun q hq=> ?_⟩
  have hpq:=jJj hp1 hq
  have hp2:gup G1 q (GO.lst [T.int (r:Nat)]) p=some (.lst (es.map encE)):=by rw[jJo hpq];exact hp1
  refine⟨_,jJi hp2,?_⟩
  refine jKe (fun e=>T.int (e.1:Nat)) (by omega) (fun G' s=>jJi (s _ _ hp2)) ?_ ?_
  ·intro i e he G' K K0 s hk
   wp_walk using 1,encE
   exact hk G' (.refl _)
  ·intro D G2 hD h2 s2
   have hq2:=s2 _ _ (show gup G1 q (GO.lst [T.int (r:Nat)]) q=some (.lst [T.int (r:Nat)]) from jJe)
   refine⟨_,jVl hq2 h2 (by simp;omega),?_⟩
   simp only[fin3]
   intro E hE
   refine⟨(r::es.map Prod.fst).map fun n:Nat=>(n:Int),?_,by rw[lJf,lJ5,lJf];omega,fun ys hn hm=> ?_⟩
   ·simp only[jQt,jJe,asL]
    rw[<-kQh,jJk,lJq,lJy];rfl
   ·simp only[rEqA,lJf]
    refine⟨_,kV0,kk _ _ (fun h=>by rw[hgo] at h;cases h) (fun es' h=> ?_) (((s1.trans (.new hq)).trans s2).trans (.new hE))⟩
    rw[hgo] at h;cases h
    exact⟨ys,hn,hm,rfl⟩
theorem jZ0 {W:Web} {r0 r:Nat} (fine:Fine W):∀(es:List (Nat×Nat)) {F:List Nat},(∀e,e∈es->∃i,en W r i=some e)->Found W r0 F->r∈F->Found W r0 (vis F es)
 | [],_,_,h,_=>h
 | e::es,F,he,h,hr=>by
  have e1:vis F (e::es)=vis (if F.contains e.1=true then F else F++[e.1]) es:=rfl
  rw[e1]
  obtain⟨i,hi⟩:=he e (lJx ..)
  by_cases hc:F.contains e.1=true
  ·rw[lJc hc]
   exact jZ0 fine es (fun e h=>he e (lJ1 _ h)) h hr
  ·rw[lJb hc]
   have hm:e.1∉F:=fun z=>hc (lQr.mpr z)
   refine jZ0 fine es (fun e h=>he e (lJ1 _ h)) ⟨?_,?_,?_⟩ (lKd _ hr)
   ·rw[lVa];exact⟨h.nd,by simp,fun a ha b hb=>by rw[lJt] at hb;subst hb;rintro rfl;exact hm ha⟩
   ·intro x hx
    rcases (lJn.mp hx) with hx | hx
    ·exact h.lt x hx
    ·rw[lJt.mp hx];exact fine.rng _ _ e.1 e.2 hi
   ·intro S h0 hc x hx
    rcases (lJn.mp hx) with hx | hx
    ·exact h.got S h0 hc x hx
    ·rw[lJt.mp hx];exact hc _ _ e.1 e.2 (h.got S h0 hc r hr) hi
theorem kJ3 {W:Web} {r0:Nat} (fine:Fine W):∀(n k:Nat) {F:List Nat},Found W r0 F->Found W r0 (bfsN W n k F)
 | 0,_,_,h=>h
 | n+1,k,F,h=>by
  cases hk:F[k]? with
  | none=>rw[bfsN,hk];exact h
  | some r=>
   rw[jXy hk]
   refine kJ3 fine n _ (jZ0 fine _ (fun e he=> ?_) h (lJu hk))
   have hrW:=h.lt r (lJu hk)
   obtain⟨es,hes⟩:∃es,W[r]? =some es:=⟨_,lJp hrW⟩
   rw[jXf hes] at he
   obtain⟨i,hi⟩:=lKa he
   exact⟨i,kQ4 hes hi⟩
theorem qV2 {W:Web} (fine:Fine W) (h:IsW W):Conn W:=by
 refine Found.conn (F:=bfs W 0) (kJ3 fine _ _ ⟨by simp,fun x hx=> ?_,fun S h0 _ x hx=> ?_⟩) h.2.2
 ·rw[lJt.mp hx];exact h.1
 ·rw[lJt.mp hx];exact h0
structure Ev (d:Nat) (W:Web):Prop where
 any:AnyWeb W
 deg:∀(r i:Nat),r<W.length->i<d->∃e,en W r i=some e
 up:∀(r:Nat) (es:List (Nat×Nat)),W[r]? =some es->es.length<=d
theorem uJe {k d:Nat} (c:Chk k d) {W:Web} (h:W∈evP k d):Ev d W/\W.length=k:=by
 have hf:=lXr.mp h
 obtain⟨D,hD,rfl⟩:=lJl.mp hf.1
 have hz:=kUs (r:=k) (d:=d) (D:=D) (by have:=c.r9;omega) (by have:=c.d6;omega)
 have iw:=isWB_iff.mpr hf.2
 have fine:=hz.fine iw.2.1
 refine⟨⟨⟨iw.1,by rw[jXa];have:=c.r9;omega,iw.2.1,fun r es hr=>by rw[jYs hr];exact c.d6,qV2 fine iw⟩,fun r i hr hi=> ?_,fun r es hr=>by rw[jYs hr];exact lJg _⟩,jXa⟩
 obtain⟨es,hes⟩:∃es,(webD k d D)[r]? =some es:=⟨_,lJp hr⟩
 have hl:=jYs hes
 exact⟨_,kQ4 hes (lJp (by omega))⟩
def DW (d:Nat) (ds:List Nat):Prop:=∀x,x∈ds->x<d
def esOf (W:Web) (ds:List Nat):List (Nat×Nat):=(goW W 0 ds).getD []
theorem jV5 {d:Nat} {W:Web} (e:Ev d W):∀ {ds:List Nat},DW d ds->goW W 0 ds=some (esOf W ds):=by
 intro ds
 refine kU1 (P:=fun ds=>DW d ds->goW W 0 ds=some (esOf W ds)) (fun _=>rfl) (fun ds x ih h=> ?_) ds
 have h1:=ih fun y hy=>h y (lKd _ hy)
 obtain⟨b1,_,_⟩:=jYn e.any.fine e.any.pos h1
 obtain⟨en',he⟩:=e.deg _ x b1 (h x (by simp))
 unfold esOf
 rw[jXu,h1,lYb,he];rfl
def snR (W:Web) (ds:List Nat):List Nat:=0::(esOf W ds).map Prod.fst
def SA (W:Web) (ds:List Nat):Prop:=∀x,x<W.length->x∈snR W ds
theorem sn_lt {d:Nat} {W:Web} (e:Ev d W) {ds:List Nat} (h:DW d ds) {x:Nat} (hx:x∈snR W ds):x<W.length:=by
 obtain⟨_,_,b3⟩:=jYn e.any.fine e.any.pos (jV5 e h)
 rcases (lJr.mp hx) with rfl | hx
 ·exact e.any.pos
 ·obtain⟨z,hz,rfl⟩:=lJl.mp hx
  exact b3 z hz
theorem es_app {d:Nat} {W:Web} (e:Ev d W) {ds:List Nat}:∀ {w:List Nat},DW d (ds++w)->∃fs,esOf W (ds++w)=esOf W ds++fs:=by
 intro w
 refine kU1 (P:=fun w=>DW d (ds++w)->∃fs,esOf W (ds++w)=esOf W ds++fs) (fun _=>⟨[],by simp⟩) (fun w x ih h=> ?_) w
 rw[<-lJo] at h ⊢
 have h':DW d (ds++w):=fun y hy=>h y (lKd _ hy)
 obtain⟨fs,hfs⟩:=ih h'
 have h1:=jV5 e h'
 obtain⟨b1,_,_⟩:=jYn e.any.fine e.any.pos h1
 obtain⟨en',he⟩:=e.deg _ x b1 (h x (by simp))
 refine⟨fs++[en'],?_⟩
 rw[<-lJo,<-hfs]
 show (goW W 0 (ds++w++[x])).getD []=_
 rw[jXu,h1,lYb,he];rfl
theorem kU2 {d:Nat} {W:Web} (e:Ev d W) {ds w:List Nat} (h:DW d (ds++w)) {x:Nat} (hx:x∈snR W ds):x∈snR W (ds++w):=by
 obtain⟨fs,hfs⟩:=es_app e h
 unfold snR at hx ⊢
 rw[hfs,lKl]
 rcases (lJr.mp hx) with rfl | hx
 ·exact lJx ..
 ·exact lJ1 _ (lKd _ hx)
theorem SA.mono {d:Nat} {W:Web} (e:Ev d W) {ds w:List Nat} (h:DW d (ds++w)) (s:SA W ds):SA W (ds++w):=fun x hx=>kU2 e h (s x hx)
theorem kX2 {W:Web} {x:Nat}:∀ {w:List Nat} {ds:List Nat} {es:List (Nat×Nat)},goW W 0 ds=some es->kJd W (jU9 0 es) w x->∃fs,goW W 0 (ds++w)=some fs/\jU9 0 fs=x
 | [],ds,es,h,l=>⟨es,by rw[lQb];exact h,l⟩
 | c::w,ds,es,h,⟨s,j,e,l⟩=>by
  have h1:goW W 0 (ds++[c])=some (es++[(s,j)]):=by rw[jXu,h,lYb,e];rfl
  have:=kX2 (w:=w) h1 (by rw[jUc];exact l)
  rwa [lJo] at this
theorem kX3 {d:Nat} {W:Web} (hd:∀(r:Nat) (es:List (Nat×Nat)),W[r]? =some es->es.length<=d) {x:Nat}:∀ {w:List Nat} {r:Nat},kJd W r w x->DW d w
 | [],_,_=>fun y hy=>by cases hy
 | c::w,r,⟨s,j,e,l⟩=>by
  intro y hy
  rcases (lJr.mp hy) with rfl | hy
  ·obtain⟨es,h1,h2⟩:=jV7 e
   have:=hd r es h1
   have:=(lJj.mp h2).1
   omega
  ·exact kX3 hd l y hy
theorem qZs {W:Web} {ds:List Nat} {es:List (Nat×Nat)} (h:goW W 0 ds=some es):jU9 0 es∈snR W ds:=by
 unfold snR esOf
 rw[h]
 rcases List.eq_nil_or_concat es with rfl | ⟨m,e,rfl⟩
 ·exact lJx ..
 ·rw[List.concat_eq_append,jUc]
  exact lJ1 _ (lJl.mpr ⟨e,by simp,rfl⟩)
def saB (W:Web) (ds:List Nat):Bool:=(List.range W.length).all fun x=>(snR W ds).contains x
theorem qYy {W:Web} {ds:List Nat}:saB W ds=true↔SA W ds:=by
 unfold saB SA
 rw[lKp]
 exact⟨fun h x hx=>lQr.mp (h x (lJ7.mpr hx)),fun h x hx=>lQr.mpr (h x (lJ7.mp hx))⟩
def fm (Ws:List Web) (ds:List Nat):Option Web:=Ws.find? fun W=> !saB W ds
theorem not_sa {W:Web} {ds:List Nat}:(!saB W ds)=true↔¬ SA W ds:=by
 rw[<-qYy];simp
def oW:Option Web->T
 | none=> .non
 | some W=>encW W
theorem qQo {Ws:List Web} {ds:List Nat} (h:∀W,W∈Ws->SA W ds):fm Ws ds=none:=by
 unfold fm
 rw[lYs]
 intro W hW z
 exact not_sa.mp z (h W hW)
theorem fm_at {Ws:List Web} {ds:List Nat} {i:Nat} {W:Web} (hi:Ws[i]? =some W) (h:∀j V,j<i->Ws[j]? =some V->SA V ds) (hn:¬ SA W ds):fm Ws ds=some W:=by
 unfold fm
 have hil:=(lJj.mp hi).1
 have e:Ws=Ws.take i++W::Ws.drop (i+1):=by
  have e2:=(lJj.mp hi).2
  conv=>lhs;rw[<-lK6 i Ws,lYx hil,e2]
 rw[e,List.find?_append,lYs.mpr,Option.none_or,List.find?_cons_of_pos]
 ·exact not_sa.mpr hn
 ·intro V hV z
  obtain⟨j,hj⟩:=lKa hV
  rw[lQu] at hj
  split at hj
  ·rename_i hji
   exact not_sa.mp z (h j V hji hj)
  ·cases hj
theorem uJa {Ws:List Web} {ds:List Nat} {W:Web} (h:fm Ws ds=some W):W∈Ws/\¬ SA W ds:=by
 unfold fm at h
 exact⟨List.mem_of_find?_eq_some h,not_sa.mp (by have:=List.find?_some h;exact this)⟩
theorem fm_all {Ws:List Web} {ds:List Nat} (h:fm Ws ds=none):∀W,W∈Ws->SA W ds:=by
 intro W hW
 unfold fm at h
 rw[lYs] at h
 have:=h W hW
 rw[not_sa,Classical.not_not] at this
 exact this
theorem kXj {d:Nat} {W:Web} (e:Ev d W) {ds:List Nat} (hd:DW d ds) {c:Bool} (h:∀es,goW W 0 ds=some es->∃ys:List Int,ys.Nodup/\(∀z,z∈ys↔z∈(0::es.map Prod.fst).map fun n:Nat=>(n:Int))/\c=decide (ys.length=W.length)):c=true↔SA W ds:=by
 obtain⟨ys,nd,hm,hc⟩:=h _ (jV5 e hd)
 have nd2:(ys.map Int.toNat).Nodup:=by
  refine List.Pairwise.map _ ?_ (List.Pairwise.imp_of_mem (R:=fun a b=>a≠b) (S:=fun a b=>a≠b/\0<=a/\0<=b) (fun {a b} ha hb hab=> ?_) nd)
  ·intro a b hab z
   exact hab.1 (by omega)
  ·have pos:∀a,a∈ys->(0:Int)<=a:=fun a ha=>by
    obtain⟨n,_,rfl⟩:=lJl.mp ((hm a).mp ha);omega
   exact⟨hab,pos a ha,pos b hb⟩
 have mem2:∀x:Nat,x∈ys.map Int.toNat↔x∈snR W ds:=fun x=>by
  constructor
  ·intro h
   obtain⟨z,hz,rfl⟩:=lJl.mp h
   obtain⟨n,hn,rfl⟩:=lJl.mp ((hm z).mp hz)
   show ((n:Nat):Int).toNat∈snR W ds
   rw[lVz];exact hn
  ·intro h
   exact lJl.mpr ⟨(x:Int),(hm _).mpr (lJl.mpr ⟨x,h,rfl⟩),by simp⟩
 rw[hc,lKm]
 constructor
 ·intro hl x hx
  exact (mem2 x).mp (kQs nd2 (fun y hy=>sn_lt e hd ((mem2 y).mp hy)) (by rw[lJf];exact hl) x hx)
 ·intro hs
  have h1:=jK3 nd2 (fun y hy=>sn_lt e hd ((mem2 y).mp hy))
  have h2:(List.range W.length).length<=(ys.map Int.toNat).length:=List.nodup_range.length_le_of_subset fun x hx=>(mem2 x).mpr (hs x (lJ7.mp hx))
  rw[lKw,lJf] at h2
  rw[lJf] at h1
  omega
def upTo (d:Nat):Nat->List Web
 | 0=>[]
 | k+1=>upTo d k++evP (k+1) d
def kUq (r d:Nat):Prop:=∀k,1<=k->k<=r->Chk k d
theorem kZ6 {d:Nat}:∀ {r:Nat},kUq r d->∀W,W∈upTo d r->Ev d W/\W.length<=r
 | 0,_,W,h=>by cases h
 | k+1,c,W,h=>by
  rcases (lJn.mp h) with h | h
  ·obtain⟨a,b⟩:=kZ6 (fun j h1 h2=>c j h1 (by omega)) W h
   exact⟨a,by omega⟩
  ·obtain⟨a,b⟩:=uJe (c (k+1) (by omega) (lJg _)) h
   exact⟨a,by omega⟩
theorem qYi {r d:Nat} (c:Chk r d):(evP r d).length<=5000:=by
 have hr:=c.r1
 obtain⟨k,rfl⟩:∃k,r=k+1:=⟨r-1,by omega⟩
 have h1:=(kXt (c.lev k d (by omega) (lJg _))).1
 have h2:=lYa isWB ((allL (k+1) d (k+1)).map (webD (k+1) d))
 rw[lJf] at h2
 exact lK1 h2 h1
theorem qXv {d:Nat}:∀ {r:Nat},kUq r d->(upTo d r).length<=5000*r
 | 0,_=>lJg _
 | k+1,c=>by
  rw[upTo,lKc]
  have h1:=qXv (r:=k) fun j h1 h2=>c j h1 (by omega)
  have h2:=qYi (c (k+1) (by omega) (lJg _))
  omega
def jQh:Sp3:=fun xs G Q=>∃r d:Nat,xs=[.int r,.int d]/\r<=9/\kUq r d/\∀q G',G q=none->G' q=some (.lst ((upTo d r).map encW))->Sub G G'->Q (.ref q) G'
def kUl:List Str:=["rooms","doors","webs","many"]
noncomputable def jUn:TS3:=
 (tSeq (tAsg (tLst tNil) (jJg 2))
 (tSeq (tFor (jYq (jJc (tC (.int 1)) (jJc (tOp jK1 (tVar 0) (tC (.int 1))) tNil))) (jJg 3) (jUh (tBM "list" jV0 (tVar 2) (jJc (jJr jU4 (jJc (tVar 3) (jJc (tVar 1) tNil))) tNil))))
 (tRet (tVar 2))))
theorem jZd:RdOk jQh jUn kUl:=by
 intro xs G Q h_;apply xe2 h_;clear h_;intro r d h_;apply ae3 h_;clear h_;intro hr c kk
 show jUn _ [some (.int r),some (.int d),none,none] G
 have hs:=sz
 wp_walk using 1,jUn,jJ2,jYq
 refine⟨by omega,fun q hq=>⟨by omega,by omega,by omega,by omega,?_⟩⟩
 rw[show ((r:Int)+1-1).toNat=r by omega,show (1:Int)=((1:Nat):Int) from rfl,jU6]
 let J1:Nat->St3->Gp->Prop:=fun k τ G'=>∃(v3:Option T),τ=[some (.int r),some (.int d),some (.ref q),v3]/\G' q=some (.lst ((upTo d k).map encW))/\Sub G G'
 refine⟨J1,?_,?_,?_,?_⟩
 ·exact xi1 _ rfl ⟨jJe,.new hq⟩
 ·intros;trivial
 ·intro k y τ G1 hy h_;apply xe1 h_;clear h_;intro v3 h_;apply ae2 h_;clear h_;intro h1 h2
  obtain⟨k',hk',rfl⟩:=jJ9 hy
  obtain⟨hk,rfl⟩:k<r/\k=k':=by
   obtain⟨q1,q2⟩:=lJj.mp hk'
   rw[lY2] at q2
   rw[lKw] at q1
   exact⟨q1,q2⟩
  wp_walk using 1,jKl h1
  have ck:=c (1+k) (by omega) (by omega)
  refine⟨1+k,d,rfl,ck,fun E G2 hE hE2 s2=> ?_⟩
  have h3:=qXv (r:=k) (d:=d) fun j a b=>c j a (by omega)
  have h4:=qYi ck
  refine⟨q,E,_,_,rfl,rfl,s2 _ _ h1,hE2,by rw[lJf,lJf];omega,?_⟩
  exact xi1 _ rfl ⟨by rw[jJe,upTo,lKl,lXg k 1],(h2.trans s2).over hq⟩
 ·intro τ G1 h_;apply xe1 h_;clear h_;intro v3 h_;apply ae2 h_;clear h_;intro h1 h2
  rw[lJf,lKw] at h1
  wp_walk using 1,tSeq
  exact kk q G1 hq h1 h2
noncomputable def jKf:Sp3:=fun xs G Q=>∃(p:Addr) (Ws:List Web) (ds:List Nat) (d:Nat),xs=[.ref p,.tup (jJk ds)]/\G p=some (.lst (Ws.map encW))/\(∀W,W∈Ws->Ev d W)/\DW d ds/\ds.length<=900/\∀G',Sub G G'->Q (oW (fm Ws ds)) G'
def kJq:List Str:=["webs","way","web"]
noncomputable def jQp:TS3:=
 (tSeq (tFor (iSeq (tVar 0)) (jJg 2) (tIfS (tNot (jJy (jJr jVu (jJc (tVar 2) (jJc (tC (.int 0)) (jJc (tVar 1) tNil)))))) (tRet (tVar 2)) jKr))
 (tRet (tC .non)))
theorem jX4:RdOk jKf jQp kJq:=by
 intro xs G Q h_;apply xe4 h_;clear h_;intro p Ws ds d h_;apply ae5 h_;clear h_;intro hp hev hd hl kk
 show jQp _ [some (.ref p),some (.tup (jJk ds)),none] G
 have hs:=sz
 wp_walk using 1,jQp,jJ2,iSeq
 refine⟨_,jJi hp,?_⟩
 let J1:Nat->St3->Gp->Prop:=fun i τ G'=>∃(v2:Option T),τ=[some (.ref p),some (.tup (jJk ds)),v2]/\(∀j V,j<i->Ws[j]? =some V->SA V ds)/\Sub G G'
 refine⟨J1,?_,?_,?_,?_⟩
 ·exact xi1 _ rfl ⟨fun j V h=>absurd h (lK5 _),.refl _⟩
 ·intro i τ G' hi h_;apply xe1 h_;clear h_;intro v2 h_;apply ae2 h_;clear h_;intro h1 h2
  exact jJi (h2 _ _ hp)
 ·intro i y τ G1 hy h_;apply xe1 h_;clear h_;intro v2 h_;apply ae2 h_;clear h_;intro h1 h2
  obtain⟨W,hW,rfl⟩:=jJ9 hy
  have ev:=hev W (lJu hW)
  wp_walk using 1,tSeq
  refine⟨W,0,_,ds,rfl,ev.any.fine,ev.any.pos,rfl,hl,fun c G2 _ h4 s2=>⟨c,rfl,?_⟩⟩
  have hiff:=kXj ev hd h4
  cases c with
  | false=>
   rw[lJc rfl]
   have:=kk G2 (h2.trans s2)
   rw[fm_at hW h1 fun z=>lJs (hiff.mpr z)] at this
   exact this
  | true=>
   rw[lJb (by decide)]
   refine xi1 _ rfl ⟨fun j V hj hV=> ?_,h2.trans s2⟩
   rcases lK8 (lQc hj) with z | rfl
   ·exact h1 j V z hV
   ·rw[hW] at hV;cases hV;exact hiff.mp rfl
 ·intro τ G1 h_;apply xe1 h_;clear h_;intro v2 h_;apply ae2 h_;clear h_;intro h1 h2
  rw[lJf] at h1
  wp_walk using 1,tSeq
  have:=kk G1 h2
  rw[qQo fun W hW=>by obtain⟨j,hj⟩:=lKa hW;exact h1 j W (lJj.mp hj).1 hj] at this
  exact this
def jQ4:Sp3:=fun xs G Q=>∃(r d:Nat) (ds:List Nat),xs=[.int r,.int d,.tup (jJk ds)]/\r<=9/\kUq r d/\DW d ds/\ds.length<=900/\∀G',Sub G G'->Q (oW (fm (upTo d r) ds)) G'
def qXo:List Str:=["rooms","doors","way"]
noncomputable def jZj:TS3:=
 (tRet (jJr jKf (jJc (jJr jQh (jJc (tVar 0) (jJc (tVar 1) tNil))) (jJc (tVar 2) tNil))))
theorem kU6:RdOk jQ4 jZj qXo:=by
 intro xs G Q h_;apply xe3 h_;clear h_;intro r d ds h_;apply ae5 h_;clear h_;intro hr c hd hl kk
 show jZj _ [some (.int r),some (.int d),some (.tup (jJk ds))] G
 wp_walk using 1,jZj
 exact⟨r,d,rfl,hr,c,fun q G1 hq hq1 s1=>⟨q,_,ds,d,rfl,hq1,fun W hW=>(kZ6 c W hW).1,hd,hl,fun G2 s2=>kk G2 (s1.trans s2)⟩⟩
theorem qQq {p q:Nat->Bool} (h:∀x,p x=true->q x=true):∀l:List Nat,(l.filter p).length<=(l.filter q).length
 | []=>lJg _
 | a::l=>by
  have ih:=qQq h l
  rw[lVd,lVd]
  by_cases hp:p a=true
  ·rw[lJc hp,lJc (h a hp),lJ5,lJ5];omega
  ·rw[lJb hp]
   split
   ·rw[lJ5];omega
   ·exact ih
theorem qQp {p q:Nat->Bool} (h:∀x,p x=true->q x=true) {z:Nat} (hq:q z=true) (hp:¬ p z=true):∀ {l:List Nat},z∈l->(l.filter p).length+1<=(l.filter q).length
 | a::l,hz=>by
  rw[lVd,lVd]
  by_cases e:a=z
  ·subst e
   rw[lJb hp,lJc hq,lJ5]
   have:=qQq h l
   omega
  ·have hz':z∈l:=(lJr.mp hz).resolve_left fun x=>e x.symm
   have ih:=qQp h hq hp hz'
   by_cases hpa:p a=true
   ·rw[lJc hpa,lJc (h a hpa),lJ5,lJ5];omega
   ·rw[lJb hpa]
    split
    ·rw[lJ5];omega
    ·exact ih
def unL (W:Web) (ds:List Nat):List Nat:=(List.range W.length).filter fun x=> !(snR W ds).contains x
def StepW (W:Web) (ds w:List Nat):Prop:=∃x,(unL W ds).head? =some x/\Least W (jU9 0 (esOf W ds)) x w
theorem StepW.uniq {W:Web} {ds w w':List Nat} (h:StepW W ds w) (h':StepW W ds w'):w=w':=by
 obtain⟨x,h1,h2⟩:=h
 obtain⟨x',h1',h2'⟩:=h'
 rw[h1] at h1';cases h1'
 exact h2.unique h2'
theorem un_mem {W:Web} {ds:List Nat} {x:Nat}:x∈unL W ds↔x<W.length/\x∉snR W ds:=by
 unfold unL
 rw[lXr,lJ7,lVe,<-lX9,lQr]
theorem qYp {W:Web} {ds:List Nat} (h:¬ SA W ds):∃x us,unL W ds=x::us:=by
 cases e:unL W ds with
 | cons x us=>exact⟨x,us,rfl⟩
 | nil=>
  refine absurd (fun x hx=> ?_) h
  by_cases hm:x∈snR W ds
  ·exact hm
  ·have:=un_mem.mpr ⟨hx,hm⟩
   rw[e] at this;cases this
theorem kUw {d:Nat} {W:Web} (e:Ev d W) {ds w:List Nat} (hd:DW d ds) (h:StepW W ds w):DW d (ds++w):=by
 obtain⟨x,_,h2⟩:=h
 intro y hy
 rcases (lJn.mp hy) with hy | hy
 ·exact hd y hy
 ·exact kX3 e.up h2.to y hy
theorem un_le {d:Nat} {W:Web} (e:Ev d W) {ds w:List Nat} (h:DW d (ds++w)):(unL W (ds++w)).length<=(unL W ds).length:=by
 refine qQq (fun x hx=> ?_) _
 rw[lVe,<-lX9,lQr] at hx ⊢
 exact fun z=>hx (kU2 e h z)
theorem un_lt {d:Nat} {W:Web} (e:Ev d W) {ds w:List Nat} (hd:DW d ds) (h:StepW W ds w):(unL W (ds++w)).length+1<=(unL W ds).length:=by
 have hdw:=kUw e hd h
 obtain⟨x,h1,h2⟩:=h
 have hx:=un_mem.mp (List.mem_of_mem_head? h1)
 have hx2:x∈snR W (ds++w):=by
  obtain⟨fs,hf,hl⟩:=kX2 (jV5 e hd) h2.to
  rw[<-hl];exact qZs hf
 refine qQp (fun y hy=> ?_) (z:=x) ?_ ?_ (lJ7.mpr hx.1)
 ·rw[lVe,<-lX9,lQr] at hy ⊢
  exact fun z=>hy (kU2 e hdw z)
 ·rw[lVe,<-lX9,lQr];exact hx.2
 ·rw[lVe,Bool.not_eq_false,lQr];exact hx2
def mu (Ws:List Web) (ds:List Nat):Nat:=(Ws.map fun W=>(unL W ds).length).sum
theorem qJj {α:Type} {f g:α->Nat}:∀ {l:List α},(∀a,a∈l->f a<=g a)->(l.map f).sum<=(l.map g).sum
 | [],_=>lJg _
 | a::l,h=>by
  rw[lJq,lJq,List.sum_cons,List.sum_cons]
  have h1:=h a (lJx ..)
  have h2:=qJj (l:=l) fun b hb=>h b (lJ1 _ hb)
  omega
theorem qXx {α:Type} {f g:α->Nat} {z:α} (hz':f z+1<=g z):∀ {l:List α},(∀a,a∈l->f a<=g a)->z∈l->(l.map f).sum+1<=(l.map g).sum
 | a::l,h,hz=>by
  rw[lJq,lJq,List.sum_cons,List.sum_cons]
  have h1:=h a (lJx ..)
  rcases (lJr.mp hz) with e | hz
  ·subst e
   have h2:=qJj (l:=l) fun b hb=>h b (lJ1 _ hb)
   omega
  ·have h2:=qXx hz' (l:=l) (fun b hb=>h b (lJ1 _ hb)) hz
   omega
theorem qZn {d:Nat} {Ws:List Web} (he:∀W,W∈Ws->Ev d W) {W:Web} (hW:W∈Ws) {ds w:List Nat} (hd:DW d ds) (h:StepW W ds w):mu Ws (ds++w)+1<=mu Ws ds:=
 qXx (un_lt (he W hW) hd h) (fun V hV=>un_le (he V hV) (kUw (he W hW) hd h)) hW
def cp (d:Nat):Nat->Nat
 | 0=>0
 | k+1=>cp d k+k*(evP (k+1) d).length
theorem qX8 {d:Nat}:∀ {r:Nat},kUq r d->mu (upTo d r) []<=cp d r
 | 0,_=>lJg _
 | k+1,c=>by
  unfold mu
  rw[upTo,lKl,List.sum_append,cp]
  have h1:=qX8 (r:=k) fun j a b=>c j a (by omega)
  have h2:((evP (k+1) d).map fun W=>(unL W []).length).sum<=((evP (k+1) d).map fun _=>k).sum:=qJj fun W hW=>by
   obtain⟨e,hl⟩:=uJe (c (k+1) (by omega) (lJg _)) hW
   have:=qQp (p:=fun x=> !(snR W []).contains x) (q:=fun _=>true) (fun _ _=>rfl) (z:=0) rfl (by simp[snR]) (l:=List.range W.length) (lJ7.mpr (by omega))
   rw[List.filter_eq_self.mpr (fun _ _=>rfl),lKw] at this
   unfold unL;omega
  have h3:((evP (k+1) d).map fun _=>k).sum=k*(evP (k+1) d).length:=by
   generalize evP (k+1) d=l
   induction l with
   | nil=>simp
   | cons a l ih=>rw[lJq,List.sum_cons,ih,lJ5,Nat.mul_succ];omega
  unfold mu at h1
  omega
def RN (Ws:List Web):Nat->List Nat->Prop
 | 0,ds=>ds=[]
 | k+1,ds'=>∃ds W w,RN Ws k ds/\fm Ws ds=some W/\StepW W ds w/\ds'=ds++w
theorem RN.det {Ws:List Web}:∀ {k:Nat} {a b:List Nat},RN Ws k a->RN Ws k b->a=b
 | 0,_,_,h,h'=>h.trans h'.symm
 | k+1,_,_,⟨ds,W,w,h1,h2,h3,e⟩,⟨ds',W',w',h1',h2',h3',e'⟩=>by
  have:=RN.det h1 h1';subst this
  rw[h2] at h2';cases h2'
  rw[e,e',h3.uniq h3']
theorem RN.mid {Ws:List Web} {k:Nat}:∀ {m:Nat} {b:List Nat},RN Ws (k+m+1) b->∃a W,RN Ws k a/\fm Ws a=some W
 | 0,_,⟨ds,W,_,h1,h2,_⟩=>⟨ds,W,h1,h2⟩
 | m+1,_,⟨_,_,_,h1,_⟩=>RN.mid (m:=m) h1
theorem RN.uniq {Ws:List Web} {k m:Nat} {a b:List Nat} (h:RN Ws k a) (ha:fm Ws a=none) (h':RN Ws m b) (hb:fm Ws b=none):a=b:=by
 rcases lV1 k m with z | z | z
 ·obtain⟨j,rfl⟩:∃j,m=k+j+1:=⟨m-k-1,by omega⟩
  obtain⟨c,W,h1,h2⟩:=h'.mid
  rw[h.det h1,h2] at ha;cases ha
 ·subst z;exact h.det h'
 ·obtain⟨j,rfl⟩:∃j,k=m+j+1:=⟨k-m-1,by omega⟩
  obtain⟨c,W,h1,h2⟩:=h.mid
  rw[h'.det h1,h2] at hb;cases hb
theorem qZx {G:Gp} {es:List (Nat×Nat)}:ixR G (qV7 0 es) (.int 0)=some (.int (jU9 0 es:Nat)):=by
 unfold qV7 jU9
 cases es.getLast? with
 | none=>rfl
 | some e=>rfl
noncomputable def jY8:Sp3:=fun xs G Q=>∃(W:Web) (ds:List Nat) (d:Nat),xs=[encW W,.tup (jJk ds)]/\Ev d W/\DW d ds/\ds.length<=900/\¬ SA W ds/\∀w G',StepW W ds w->w.length<W.length->Sub G G'->Q (.tup (jJk w)) G'
def qXn:List Str:=["web","way","here","come_to","left","end","room"]
noncomputable def jZi:TS3:=
 (tSeq (tAsg (tOp rIxF (jJr kUy (jJc (tVar 0) (jJc (tC (.int 0)) (jJc (tVar 1) tNil)))) (tC (.int 0))) (jJg 2))
 (tSeq (tAsg (tOp jK1 (tLst (jJc (tC (.int 0)) tNil)) (jKp [false,false,false,false,false,true,false] (iSeq (jJr jQ6 (jJc (tVar 0) (jJc (tC (.int 0)) (jJc (tVar 1) tNil))))) (jJg 5) jQg (tOp rIxF (tVar 5) (tC (.int 0))))) (jJg 3))
 (tSeq (tAsg (jKp [false,false,false,false,false,false,true] (jK6 (jJc (tCB rLen (jJc (tVar 0) tNil)) tNil)) (jJg 6) (jJy (tOp jKw (tVar 6) (tVar 3))) (tVar 6)) (jJg 4))
 (tRet (jJr jY7 (jJc (tVar 0) (jJc (tVar 2) (jJc (tOp rIxF (tVar 4) (tC (.int 0))) tNil))))))))
theorem kU5:RdOk jY8 jZi qXn:=by
 intro xs G Q h_;apply xe3 h_;clear h_;intro W ds d h_;apply ae5 h_;clear h_;intro ev hd hl hns kk
 show jZi _ [some (.tup (W.map encR)),some (.tup (jJk ds)),none,none,none,none,none] G
 have hs:=sz
 have hgo:=jV5 ev hd
 have fine:=ev.any.fine
 have hWl:=ev.any.len
 obtain⟨b1,b2,b3⟩:=jYn fine ev.any.pos hgo
 wp_walk using 1,jZi,iSeq,jK6
 refine⟨W,0,_,ds,rfl,fine,ev.any.pos,rfl,by omega,fun G1 s1=>⟨fun hn=> ?_,fun es hes=> ?_⟩⟩
 ·rw[hgo] at hn;cases hn
 rw[hgo] at hes;cases hes
 refine⟨_,qZx,by omega,fun z hz=> ?_⟩
 refine⟨W,0,_,ds,rfl,fine,ev.any.pos,rfl,by omega,fun G2 s2=>⟨fun hn=> ?_,fun es p hes hp hp2=> ?_⟩⟩
 ·rw[hgo] at hn;cases hn
 rw[hgo] at hes;cases hes
 refine⟨_,jJi hp2,?_⟩
 refine jKe (fun e=>T.int (e.1:Nat)) (by omega) (fun G' s=>jJi (s _ _ hp2)) ?_ ?_
 ·intro i e he G' K K0 s hk
  wp_walk using 1,encE
  exact hk G' (.refl _)
 intro D G3 hD hD3 s3
 have z3:=s3 _ _ (s2 _ _ (jJe (a:=z) (o:= .lst [.int 0])))
 refine⟨_,jVl z3 hD3 (by simp;omega),?_⟩
 intro M hM
 have hsn:gup G3 M (.lst ([T.int 0]++(esOf W ds).map fun e=>T.int (e.1:Nat))) M=some (.lst (jJk (snR W ds))):=by
  rw[jJe];unfold snR jJk;rw[lJq,lJy];rfl
 have s4:Sub G (gup G3 M (.lst ([T.int 0]++(esOf W ds).map fun e=>T.int (e.1:Nat)))):=(((s1.trans (.new hz)).trans s2).trans s3).trans (.new hM)
 generalize gup G3 M (.lst ([T.int 0]++(esOf W ds).map fun e=>T.int (e.1:Nat)))=G4 at hsn s4 ⊢
 refine⟨by rw[lJf];omega,by rw[lJf];omega,?_⟩
 rw[lJf,show ((W.length:Nat):Int).toNat=W.length by omega,jVg]
 refine jXw (es:=List.range W.length) (enc:=fun k:Nat=>T.int k) (fun x=>if (!(snR W ds).contains x)=true then some (T.int (x:Nat)) else none) (by simp;omega) (fun _ _=>trivial) ?_ ?_
 ·intro i x hx G' K K0 s hK hK0
  wp_walk using 1,jKw,kYc (s _ _ hsn)
  by_cases h:(snR W ds).contains x=true
  ·rw[lJb (by rw[h];decide)]
   exact hK0 (by rw[lJb (by rw[h];decide)]) _ (.refl _)
  ·have h':(snR W ds).contains x=false:=by simpa using h
   rw[lJc h']
   exact hK _ _ (by rw[lJc (by rw[h'];rfl)]) (.refl _)
 intro L G5 hL hL5 s5
 rw[jVb (p:=fun x=> !(snR W ds).contains x)] at hL5
 have hL6:G5 L=some (.lst ((unL W ds).map fun x:Nat=>T.int x)):=hL5
 obtain⟨x,us,hu⟩:=qYp hns
 have hx:=un_mem.mp (show x∈unL W ds by rw[hu];exact lJx ..)
 refine⟨.int (x:Nat),by rw[jUt hL6,show (0:Int)=((0:Nat):Int) from rfl,atN,hu];rfl,?_⟩
 exact⟨W,_,x,rfl,ev.any,b1,hx.1,fun G6 w hw hwl s6=>kk w G6 ⟨x,by rw[hu];rfl,hw⟩ hwl ((s4.trans s5).trans s6)⟩
theorem kYs {xs ys:List T} {G:Gp} {Q:VK3} (h:xs.length+ys.length<=sizeLine) (q:Q (.tup (xs++ys)) G):kQn (.tup xs) (.tup ys) G Q:=by
 cases xs with
 | nil=>exact .inr ⟨ys,rfl,rfl,q⟩
 | cons c xs=>exact .inl ⟨.val (.tup (c::xs++ys)),by have:xs.length+1+ys.length<=sizeLine:=h;simp[addR,this],q⟩
theorem ite_t {c A B:Prop} [Decidable c] (hc:c) (h:A):if c then A else B:=by rw[lJc hc];exact h
theorem add_zs {i j:Int} {G:Gp} {Q:VK3} (q:Q (.int (i+j)) G):kQn (.int i) (.int j) G Q:= .inl ⟨.val (.int (i+j)),rfl,q⟩
noncomputable def jKh:Sp3:=fun xs G Q=>∃r d:Nat,xs=[.int r,.int d]/\1<=r/\r<=9/\kUq r d/\(r-1)*cp d r<=890/\∀k ds G',RN (upTo d r) k ds->fm (upTo d r) ds=none->DW d ds->ds.length<=890->Sub G G'->Q (.tup (jJk ds)) G'
def kUo:List Str:=["rooms","doors","webs","way","web"]
noncomputable def jUq:TS3:=
 (tSeq (tAsg (jJr jQh (jJc (tVar 0) (jJc (tVar 1) tNil))) (jJg 2))
 (tSeq (tAsg (tTup tNil) (jJg 3))
 (tSeq (tAsg (jJr jKf (jJc (tVar 2) (jJc (tVar 3) tNil))) (jJg 4))
 (tSeq (jVp (jJy (tOp kJj (tVar 4) (tC .non))) (tSeq (tAsg (tOp kQn (tVar 3) (jJr jY8 (jJc (tVar 4) (jJc (tVar 3) tNil)))) (jJg 3))
 (tAsg (jJr jKf (jJc (tVar 2) (jJc (tVar 3) tNil))) (jJg 4))))
 (tRet (tVar 3))))))
theorem jZg:RdOk jKh jUq kUo:=by
 intro xs G Q h_;apply xe2 h_;clear h_;intro r d h_;apply ae5 h_;clear h_;intro hr1 hr c hcp kk
 show jUq _ [some (.int r),some (.int d),none,none,none] G
 have hs:=sz
 have hev:=fun W hW=>(kZ6 c W hW).1
 wp_walk using 1,jUq,jVp
 refine⟨r,d,rfl,hr,c,fun q G1 hq hq1 s1=> ?_⟩
 refine⟨by omega,q,_,[],d,rfl,hq1,hev,(fun y hy=>by cases hy),lJz _,fun G2 s2=> ?_⟩
 have hmu0:=qX8 c
 have hM:(r-1)*mu (upTo d r) []<=890:=lK1 (Nat.mul_le_mul_left _ hmu0) hcp
 generalize hWs:upTo d r=Ws at hq1 hev kk hM
 have hlen:∀W,W∈Ws->W.length<=r:=fun W hW=>by rw[<-hWs] at hW;exact (kZ6 c W hW).2
 refine⟨fun m τ G'=>∃(k:Nat) (ds:List Nat),τ=[some (.int r),some (.int d),some (.ref q),some (.tup (jJk ds)),some (oW (fm Ws ds))]/\RN Ws k ds/\DW d ds/\ds.length+(r-1)*mu Ws ds<=890/\G' q=some (.lst (Ws.map encW))/\Sub G G'/\m=mu Ws ds,?_,?_⟩
 ·exact⟨_,0,[],rfl,rfl,(fun y hy=>by cases hy),by simpa using hM,s2 _ _ hq1,s1.trans s2,rfl⟩
 intro m τ G3 h_;apply xe2 h_;clear h_;intro k ds h_;apply ae6 h_;clear h_;intro h1 h2 h3 h4 h5 e5_
 subst e5_
 refine⟨_,rfl,?_⟩
 cases hf:fm Ws ds with
 | none=>
  wp_walk using 1,oW
  exact kk k ds G3 h1 hf h2 (by omega) h5
 | some W=>
  obtain⟨hW,hns⟩:=uJa hf
  refine ite_t rfl ?_
  refine⟨fun τ' G'=>∃ds':List Nat,τ'=[some (.int r),some (.int d),some (.ref q),some (.tup (jJk ds')),some (oW (fm Ws ds'))]/\RN Ws (k+1) ds'/\DW d ds'/\mu Ws ds'<mu Ws ds/\ds'.length+(r-1)*mu Ws ds'<=890/\G' q=some (.lst (Ws.map encW))/\Sub G G',?_,?_⟩
  ·intro τ' G' h_;apply xe1 h_;clear h_;intro ds' h_;apply ae6 h_;clear h_;intro i1 i2 i3 i4 i5 i6
   exact⟨_,i3,k+1,ds',rfl,i1,i2,i4,i5,i6,rfl⟩
  ·wp_walk using 1,oW
   have ev:=hev W hW
   refine⟨W,ds,d,rfl,ev,h2,by omega,hns,fun w G4 hw hwl s4=> ?_⟩
   have hdw:=kUw ev h2 hw
   have hmu:=qZn hev hW h2 hw
   have hWr:=hlen W hW
   have hb:(ds++w).length+(r-1)*mu Ws (ds++w)<=890:=by
    have e1:(r-1)*(mu Ws (ds++w)+1)<=(r-1)*mu Ws ds:=Nat.mul_le_mul_left _ hmu
    rw[Nat.mul_succ] at e1
    rw[lKc]
    omega
   refine kYs (by simp[jJk];rw[lKc] at hb;omega) ?_
   rw[show jJk ds++jJk w=jJk (ds++w) by simp[jJk]]
   refine⟨q,Ws,ds++w,d,rfl,s4 _ _ h4,hev,hdw,by omega,fun G5 s5=> ?_⟩
   exact⟨ds++w,rfl,rfl,⟨ds,W,w,h1,hf,hw,rfl⟩,hdw,by omega,hb,s5 _ _ (s4 _ _ h4),(h5.trans s4).trans s5⟩
def jUk:Sp3:=fun xs G Q=>∃(ds:List Nat) (d:Nat),xs=[.tup (jJk ds),.int d]/\DW d ds/\ds.length<=1000/\∀G',Sub G G'->Q (.bl true) G'
def kZ1:List Str:=["_law_found","_law_doors","_law_door"]
noncomputable def jVy:TS3:=
 (tSeq (tIfS (tNot (jJy (tCB rIsi (jJc (tVar 0) (jJc (tC (.ty "tuple")) tNil))))) (tRet (tC (.bl false))) jKr)
 (tRet (tCB rAll (jJc (jKp [false,false,true] (iSeq (tVar 0)) (jJg 2) jQg (jY6 (tCB rIsi (jJc (tVar 2) (jJc (tC (.ty "int")) tNil))) (jY6 (qUs (tCB rIsi (jJc (tVar 2) (jJc (tC (.ty "bool")) tNil)))) (jVq rLeF rLt (tC (.int 0)) (tVar 2) (tVar 1))))) tNil))))
theorem kKp:RdOk jUk jVy kZ1:=by
 intro xs G Q h_;apply xe2 h_;clear h_;intro ds d h_;apply ae3 h_;clear h_;intro hd hl kk
 show jVy _ [some (.tup (jJk ds)),some (.int d),none] G
 have hs:=sz
 wp_walk using 1,jVy,rIsi,iSeq,kYb
 refine jKe (es:=ds) (enc:=fun x:Nat=>T.int x) (fun _=>T.bl true) (by omega) (fun _ _=>trivial) ?_ ?_
 ·intro i x hx G' K K0 s hk
  have:=hd x (lJu hx)
  wp_walk using 1,rIsi,jVq,rLeF,qYe,qYf
  rw[lJc (by omega),show decide ((x:Int)<(d:Int))=true from lJ4 (by omega)]
  exact hk G' (.refl _)
 ·intro D G' hD h1 h2
  refine⟨D,_,_,rfl,h1,jX1 (f:=fun _=>true),?_⟩
  rw[lKp.mpr (fun _ _=>rfl)]
  exact kk G' h2
theorem qYt:szF 8 1=[(1,1),(1,2),(1,3),(1,4),(1,5),(1,6),(2,1),(2,2),(2,3),(2,4),(3,1),(3,2),(4,1),(4,2),(5,1),(6,1),(7,1),(8,1)]:=by decide +kernel
theorem sz_in {s:Nat×Nat} (h:s∈szF 8 1):(1<=s.1/\s.1<=9/\1<=s.2/\s.2<=6)/\∀k,k<s.1->(k+1,s.2)∈szF 8 0:=by
 rw[qYt] at h
 rw[qJi]
 revert s
 decide
theorem qU9 {s:Nat×Nat} (h:s∈szF 8 0):s.1*s.2<=9:=by
 rw[qJi] at h
 revert s
 decide
theorem chk_to {s:Nat×Nat} (h:s∈szF 8 1):kUq s.1 s.2:=by
 intro k h1 h2
 have hm:=(sz_in h).2 (k-1) (by omega)
 rw[show k-1+1=k by omega] at hm
 obtain⟨⟨a1,a2,a3⟩,a4⟩:=chk_of hm
 exact chk_is a1 a2 a3 (qU9 hm) a4
theorem cap_of {s:Nat×Nat} (h:s∈szF 8 1):(s.1-1)*cp s.2 s.1<=890:=by
 rw[qYt] at h
 have a1:=ln21;have a2:=ln22;have a3:=ln23;have a4:=ln24;have a5:=ln31;have a6:=ln32;have a7:=ln41;have a8:=ln42;have a9:=ln51;have b1:=ln61;have b2:=ln71;have b3:=ln81
 simp only[lJr,lKt,lQk] at h
 rcases h with rfl | rfl | rfl | rfl | rfl | rfl | rfl | rfl | rfl | rfl | rfl | rfl | rfl | rfl | rfl | rfl | rfl | rfl<;>simp only[cp]<;>omega
theorem qX9 {d k:Nat} {W:Web} (h:W∈evP (k+1) d):∀ {r:Nat},k<r->W∈upTo d r
 | r+1,hk=>by
  rcases lK8 (lQc hk) with z | z
  ·exact lKd _ (qX9 h z)
  ·subst z;exact lJ3 _ h
theorem qUh {G:Gp} {b p:Addr} {n:Nat} {xs:List T} (h:BoxAt G b n) (hp:G p=some (.lst xs)) (hx:∀x y z:Int,xs≠[.int x,.int y,.int z]):p≠b:=by
 rintro rfl
 obtain⟨x,y,z,h1,_⟩:=h
 rw[h1] at hp
 cases hp
 exact hx x y z rfl
theorem kV1 {ms:List (Nat×Nat)}:∀x y z:Int,ms.map encE≠[.int x,.int y,.int z]:=by
 intro x y z h
 cases ms with
 | nil=>cases h
 | cons a ms=>cases h
theorem qKq {x:T} (h:OkD 40 x):eqOk x=true:=by
 unfold eqOk
 rw[h.tr,h.lay,lJ4 (show (td x).depth<=50 by have:=h.dep;omega)];rfl
theorem qQw:∀ds:List Nat,eqTs (jJk ds) (jJk ds)=true:=fun ds=>by
 have:=jY0 (f:=fun x:Nat=>T.int x) kVz ds ds
 rw[lJ4 rfl] at this
 exact this
theorem uJf {G:Gp} {ds:List Nat}:eqG G (.tup (jJk ds)) (.tup (jJk ds))=some true:=by
 have ok:OkD 40 (.tup (jJk ds)):=(jZq (d:=0) fun x hx=>by obtain⟨n,_,rfl⟩:=lJl.mp hx;exact kVk).mono (by decide)
 show (if eqOk (.tup (jJk ds))=true/\eqOk (.tup (jJk ds))=true then some (eqT (.tup (jJk ds)) (.tup (jJk ds))) else none)=_
 rw[lJc ⟨qKq ok,qKq ok⟩]
 exact lJ8 some (qQw ds)
noncomputable def qY2:TS3:=(tSeq (tIfS (tOr (tNot (jJy (jJr jUk (jJc (tVar 7) (jJc (tVar 6) tNil))))) (jJy (tOp rNeA (jJr jKh (jJc (tVar 5) (jJc (tVar 6) tNil))) (tVar 7)))) (tRet (tC (.bl false))) jKr)
 (tSeq (tFor (jYq (jJc (tC (.int 1)) (jJc (tOp kQn (tVar 5) (tC (.int 1))) tNil))) (jJg 8) (tFor (iSeq (jJr jXc (jJc (tVar 8) (jJc (tVar 6) tNil)))) (jJg 9) (tIfS (jJy (tOp rLt (tCB rLen (jJc (jJr jKt (jJc (tVar 9) (jJc (tC (.int 0)) (jJc (tVar 7) tNil)))) tNil)) (tVar 8))) (tRet (tC (.bl false))) jKr)))
 (tSeq (tIfS (jJy (tOp kJj (jJr jQ4 (jJc (tVar 5) (jJc (tVar 6) (jJc (tVar 7) tNil)))) (tC .non))) (tRet (tC (.bl false))) jKr)
 (tIfS (tAnd (jJy (tOp rLt (tCB rLen (jJc (tVar 7) tNil)) (tC (.int 60)))) (jJy (tOp kJj (jJr jQ4 (jJc (tVar 5) (jJc (tVar 6) (jJc (tOp kQn (tVar 7) (tTup (jJc (jJr jQ5 (jJc (tVar 3) (jJc (tVar 6) tNil))) tNil))) tNil)))) (tC .non)))) (tRet (tC (.bl false))) jKr))))
theorem ite_e {c A B:Prop} [Decidable c] (hc:¬ c) (h:B):if c then A else B:=by rw[lJb hc];exact h
theorem bk_ok {D':Ends3} {G:Gp} {b:Addr} {r d k0:Nat} {ds:List Nat} {v0 v1 v2 v4 v8 v9:Option T} (hr1:1<=r) (hr:r<=9) (hd1:1<=d) (hd6:d<=6) (c:kUq r d) (cap:(r-1)*cp d r<=890) (hrn:RN (upTo d r) k0 ds) (hfm:fm (upTo d r) ds=none) (hdw:DW d ds) (hl:ds.length<=890) (bx:BoxAt G b 1)
  (kk:∀u8 u9 G',BoxAt G' b 2->Keep b G G'->D'.nx [v0,v1,v2,some (.ref b),v4,some (.int r),some (.int d),some (.tup (jJk ds)),u8,u9] G'):
  qY2 D' [v0,v1,v2,some (.ref b),v4,some (.int r),some (.int d),some (.tup (jJk ds)),v8,v9] G:=by
 have hs:=sz
 have hil:(jJk ds).length=ds.length:=by rw[jJk,lJf]
 have hall:=fm_all hfm
 wp_walk using 1,qY2,jJ2,jYq,iSeq,kJj
 refine⟨ds,d,rfl,hdw,by omega,fun G1 s1=>⟨true,rfl,?_⟩⟩
 rw[lJb (by decide)]
 refine⟨r,d,rfl,hr1,hr,c,cap,fun k1 es G2 h1 h2 h3 h4 s2=> ?_⟩
 have e:=RN.uniq h1 h2 hrn hfm
 subst e
 wp_walk using 1,rNeA,uJf
 refine add_zs ?_
 refine⟨_,rfl,by omega,by omega,by omega,by omega,?_⟩
 rw[show ((r:Int)+1-1).toNat=r by omega,show (1:Int)=((1:Nat):Int) from rfl,jU6]
 have s02:Sub G G2:=s1.trans s2
 let J1:Nat->St3->Gp->Prop:=fun k τ G'=>∃(u8 u9:Option T),τ=[v0,v1,v2,some (.ref b),v4,some (.int r),some (.int d),some (.tup (jJk es)),u8,u9]/\Sub G G'
 refine⟨J1,?_,?_,?_,?_⟩
 ·exact xi2 _ _ rfl s02
 ·intros;trivial
 ·intro k y τ G3 hy h_;apply xe2 h_;clear h_;intro u8 u9 i1
  obtain⟨k',hk',rfl⟩:=jJ9 hy
  obtain⟨hk,rfl⟩:k<r/\k=k':=by
   obtain⟨q1,q2⟩:=lJj.mp hk'
   rw[lY2] at q2
   rw[lKw] at q1
   exact⟨q1,q2⟩
  wp_walk using 1,jJ2,iSeq
  have ck:=c (1+k) (by omega) (by omega)
  refine⟨1+k,d,rfl,ck,fun q G4 hq hq4 s4=>⟨_,jJi hq4,?_⟩⟩
  let J2:Nat->St3->Gp->Prop:=fun i τ G'=>∃(u9:Option T),τ=[v0,v1,v2,some (.ref b),v4,some (.int r),some (.int d),some (.tup (jJk es)),some (.int ((1+k:Nat):Int)),u9]/\Sub G G'/\Sub G4 G'
  refine⟨J2,?_,?_,?_,?_⟩
  ·exact xi1 _ rfl ⟨i1.trans s4,.refl _⟩
  ·intro i τ G' hi h_;apply xe1 h_;clear h_;intro u9 h_;apply ae2 h_;clear h_;intro j1 j2
   exact jJi (j2 _ _ hq4)
  ·intro i x τ G5 hx h_;apply xe1 h_;clear h_;intro u9 h_;apply ae2 h_;clear h_;intro j1 j2
   obtain⟨W,hW,rfl⟩:=jJ9 hx
   have hWm:=lJu hW
   rw[<-ck.eq] at hWm
   obtain⟨ev,hWl⟩:=uJe ck hWm
   have sa:=hall W (qX9 (k:=k) (by rw[lXg k 1];exact hWm) hk)
   wp_walk using 1,tSeq
   refine⟨W,0,es,esOf W es,rfl,ev.any.fine,ev.any.pos,by have:=ev.any.len;omega,by omega,jV5 ev hdw,fun q5 ys G6 nd hm hq6 s6=> ?_⟩
   have hc:=(kXj ev hdw (c:=decide (ys.length=W.length)) fun es' he'=>by
    rw[jV5 ev hdw] at he';cases he'
    exact⟨ys,nd,hm,rfl⟩).mpr sa
   have hyl:=lY6 hc
   refine⟨ys.map T.int,jJi hq6,?_⟩
   rw[lJf,lJb (by omega)]
   exact xi1 _ rfl ⟨j1.trans s6,j2.trans s6⟩
  ·intro τ G5 h_;apply xe1 h_;clear h_;intro u9 h_;apply ae2 h_;clear h_;intro j1 j2
   exact xi2 _ _ rfl j1
 ·intro τ G3 h_;apply xe2 h_;clear h_;intro u8 u9 i1
  wp_walk using 1,kJj
  refine⟨r,d,es,rfl,hr,c,hdw,by omega,fun G4 s4=> ?_⟩
  rw[hfm]
  wp_walk using 1,oW
  have bx4:=bx.sub (i1.trans s4)
  have K4:Keep b G G4:= .sub (i1.trans s4)
  by_cases h60:((jJk es).length:Int)<60
  ·rw[lJc h60]
   refine⟨b,d,1,rfl,bx4,by decide,by omega,by omega,fun x G5 x0 x1 b5 k5=>⟨by omega,?_⟩⟩
   obtain⟨x,rfl⟩:=Int.eq_ofNat_of_zero_le x0
   have hdx:DW d (es++[x]):=fun y hy=>by
    rcases (lJn.mp hy) with hy | hy
    ·exact hdw y hy
    ·rw[lJt.mp hy];omega
   refine kYs (by simp[jJk];omega) ?_
   rw[show jJk es++[T.int ((x:Nat):Int)]=jJk (es++[x]) by simp[jJk]]
   refine⟨r,d,es++[x],rfl,hr,c,hdx,by simp;omega,fun G6 s6=> ?_⟩
   rw[qQo fun W hW=>(hall W hW).mono (kZ6 c W hW).1 hdx]
   refine ite_e (fun z=>Bool.noConfusion z) ?_
   exact kk u8 u9 G6 (b5.sub s6) ((K4.trans k5).trans (.sub s6))
  ·rw[lJb h60]
   exact kk u8 u9 G4 (bx4.mono (by decide)) K4
theorem qZ6 {c A B:Prop} [Decidable c] (ha:A) (hb:B):if c then A else B:=by
 by_cases h:c
 ·rw[lJc h];exact ha
 ·rw[lJb h];exact hb
def qJn:Sp3:=fun xs G Q=>∃ns:List Int,xs=[.scr (jQf ns)]/\ns.length<=63/\∀G',Q (.bl true) G'
def uJ5:List Str:=["_law_script","_law_sizes_here","_law_met","_law_box_here","_law_size","_law_wide","_law_doors","_law_way","_law_many","_law_web"]
noncomputable def qJ2:TS3:=
 (tSeq (tAsg (jJr jVf (jJc (tC (.int 8)) (jJc (tC (.int 1)) tNil))) (jJg 1))
 (tSeq (tAsg (tLst tNil) (jJg 2))
 (tSeq (tFor (iSeq (jJr jUl (jJc (tVar 0) (jJc (tC (.int 6)) tNil)))) (jJg 3) (tSeq (tAsg (tOp rIxF (tVar 1) (jJr jQ5 (jJc (tVar 3) (jJc (tCB rLen (jJc (tVar 1) tNil)) tNil)))) (jJg 4))
 (tSeq (tAsg (tVar 4) (gTup 2 (jKg (jJg 5) (jKg (jJg 6) gNil))))
 (tSeq (tIfS (jJy (tOp rInD (tVar 4) (tVar 2))) kY1 jKr)
 (tSeq (jUh (tBM "list" jKq (tVar 2) (jJc (tVar 4) tNil)))
 (tSeq (tAsg (jJr jKh (jJc (tVar 5) (jJc (tVar 6) tNil))) (jJg 7))
 (tSeq (tIfS (tOr (tNot (jJy (jJr jUk (jJc (tVar 7) (jJc (tVar 6) tNil))))) (jJy (tOp rNeA (jJr jKh (jJc (tVar 5) (jJc (tVar 6) tNil))) (tVar 7)))) (tRet (tC (.bl false))) jKr)
 (tSeq (tFor (jYq (jJc (tC (.int 1)) (jJc (tOp kQn (tVar 5) (tC (.int 1))) tNil))) (jJg 8) (tFor (iSeq (jJr jXc (jJc (tVar 8) (jJc (tVar 6) tNil)))) (jJg 9) (tIfS (jJy (tOp rLt (tCB rLen (jJc (jJr jKt (jJc (tVar 9) (jJc (tC (.int 0)) (jJc (tVar 7) tNil)))) tNil)) (tVar 8))) (tRet (tC (.bl false))) jKr)))
 (tSeq (tIfS (jJy (tOp kJj (jJr jQ4 (jJc (tVar 5) (jJc (tVar 6) (jJc (tVar 7) tNil)))) (tC .non))) (tRet (tC (.bl false))) jKr)
 (tIfS (tAnd (jJy (tOp rLt (tCB rLen (jJc (tVar 7) tNil)) (tC (.int 60)))) (jJy (tOp kJj (jJr jQ4 (jJc (tVar 5) (jJc (tVar 6) (jJc (tOp kQn (tVar 7) (tTup (jJc (jJr jQ5 (jJc (tVar 3) (jJc (tVar 6) tNil))) tNil))) tNil)))) (tC .non)))) (tRet (tC (.bl false))) jKr))))))))))
 (tRet (tC (.bl true))))))
theorem qJ1:qJ2=tSeq (tAsg (jJr jVf (jJc (tC (.int 8)) (jJc (tC (.int 1)) tNil))) (jJg 1)) (tSeq (tAsg (tLst tNil) (jJg 2)) (tSeq (tFor (iSeq (jJr jUl (jJc (tVar 0) (jJc (tC (.int 6)) tNil)))) (jJg 3) (tSeq (tAsg (tOp rIxF (tVar 1) (jJr jQ5 (jJc (tVar 3) (jJc (tCB rLen (jJc (tVar 1) tNil)) tNil)))) (jJg 4)) (tSeq (tAsg (tVar 4) (gTup 2 (jKg (jJg 5) (jKg (jJg 6) gNil)))) (tSeq (tIfS (jJy (tOp rInD (tVar 4) (tVar 2))) kY1 jKr) (tSeq (jUh (tBM "list" jKq (tVar 2) (jJc (tVar 4) tNil))) (tSeq (tAsg (jJr jKh (jJc (tVar 5) (jJc (tVar 6) tNil))) (jJg 7)) qY2)))))) (tRet (tC (.bl true))))):=rfl
theorem qU7:RdOk qJn qJ2 uJ5:=by
 intro xs G Q h_;apply xe1 h_;clear h_;intro ns h_;apply ae2 h_;clear h_;intro hns kk
 rw[show jQ3 uJ5 [.scr (jQf ns)]=[some (.scr (jQf ns)),none,none,none,none,none,none,none,none,none] from rfl,qJ1]
 have hs:=sz
 have hsl:(szF 8 1).length=18:=by rw[qYt];rfl
 wp_walk using 1,jJ2,iSeq,kY1
 refine⟨8,1,rfl,by decide,by decide,fun S G1 hS hS1 s1=>⟨by omega,fun m hm=> ?_⟩⟩
 have S2:gup G1 m (.lst []) S=some (.lst ((szF 8 1).map encE)):=by rw[jJo (jJj hS1 hm)];exact hS1
 have m2:gup G1 m (.lst []) m=some (.lst (([]:List (Nat×Nat)).map encE)):=jJe
 have hSm:S≠m:=jJj hS1 hm
 generalize gup G1 m (.lst [])=G2 at S2 m2
 refine⟨ns,6,rfl,hns,by decide,by decide,fun D rs G3 hD hD3 hl hnd hbx s3=>⟨_,jJi hD3,?_⟩⟩
 rw[lK2] at hnd
 have hDm:D≠m:=(jJj m2 hD).symm
 let J1:Nat->St3->Gp->Prop:=fun i τ G'=>∃(v3 v4 v5 v6 v7 v8 v9:Option T) (ms:List (Nat×Nat)),τ=[some (.scr (jQf ns)),some (.ref S),some (.ref m),v3,v4,v5,v6,v7,v8,v9]/\G' S=some (.lst ((szF 8 1).map encE))/\G' m=some (.lst (ms.map encE))/\ms.length<=i/\G' D=some (.lst (rs.map T.ref))/\∀(j:Nat) (r:Addr),i<=j->rs[j]? =some r->BoxAt G' r 0
 refine⟨J1,?_,?_,?_,?_⟩
 ·exact⟨none,none,none,none,none,none,none,[],rfl,s3 _ _ S2,s3 _ _ m2,by simp,hD3,fun j r _ hj=>hbx r (lJu hj)⟩
 ·intro i τ G' hi h_;apply xe8 h_;clear h_;intro v3 v4 v5 v6 v7 v8 v9 ms h_;apply ae5 h_;clear h_;intro h1 h2 h3 h4 h5
  exact jJi h4
 ·intro i y τ G4 hy h_;apply xe8 h_;clear h_;intro v3 v4 v5 v6 v7 v8 v9 ms h_;apply ae5 h_;clear h_;intro h1 h2 h3 h4 h5
  obtain⟨b,hbi,rfl⟩:=jJ9 hy
  have hb4:=h5 i b (lJg _) hbi
  have hil:i<rs.length:=(lJj.mp hbi).1
  have hbm:=lJu hbi
  have hDb:D≠b:=fun e=>hnd.1 (e▸hbm)
  have hSb:S≠b:=qUh hb4 h1 kV1
  have hmb:m≠b:=qUh hb4 h2 kV1
  wp_walk using 1,rInD,jJi h1,kY1
  refine⟨b,_,0,rfl,hb4,by decide,by rw[lJf,hsl];decide,by rw[lJf,hsl];decide,fun x G6 x0 x1 b6 k6=> ?_⟩
  rw[lJf,hsl] at x1
  obtain⟨x,rfl⟩:=Int.eq_ofNat_of_zero_le x0
  have hx18:x<(szF 8 1).length:=by rw[hsl];omega
  have S6:=k6 _ _ hSb h1
  have m6:=k6 _ _ hmb h2
  have D6:=k6 _ _ hDb h4
  have rb:∀(j:Nat) (r:Addr),i+1<=j->rs[j]? =some r->r≠b:=fun j r hj hr e=>by
   have:=(lY1 hil hnd.2).mp (hbi.trans (e▸hr.symm))
   omega
  have B6:∀(j:Nat) (r:Addr),i+1<=j->rs[j]? =some r->BoxAt G6 r 0:=fun j r hj hr=>by
   obtain⟨a1,a2,a3,h,h'⟩:=h5 j r (by omega) hr
   exact⟨a1,a2,a3,k6 _ _ (rb j r hj hr) h,h'⟩
  refine⟨encE (szF 8 1)[x],by rw[jUt S6,atN,lKj,lJp hx18];rfl,?_⟩
  have hsm:=lV4 hx18
  generalize (szF 8 1)[x]=s' at hsm ⊢
  obtain⟨⟨a1,a2,a3,a4⟩,_⟩:=sz_in hsm
  have c:=chk_to hsm
  have cap:=cap_of hsm
  wp_walk using 1,encE,kY1
  refine⟨_,m6,qKq okE,qKp (fun y hy=>by obtain⟨e,_,rfl⟩:=lJl.mp hy;exact okE),?_⟩
  refine qZ6 ?_ ?_
  ·exact⟨_,_,_,_,_,_,_,ms,rfl,S6,m6,by omega,D6,B6⟩
  ·refine⟨of_eq_true (jKl m6),_,m6,by rw[lJf];omega,?_⟩
   have e2:ms.map encE++[T.tup [T.int (s'.1:Nat),T.int (s'.2:Nat)]]=(ms++[s']).map encE:=by rw[lKl];rfl
   rw[e2]
   have m7:gup G6 m (.lst ((ms++[s']).map encE)) m=some (.lst ((ms++[s']).map encE)):=jJe
   have S7:gup G6 m (.lst ((ms++[s']).map encE)) S=some (.lst ((szF 8 1).map encE)):=by rw[jJo hSm];exact S6
   have D7:gup G6 m (.lst ((ms++[s']).map encE)) D=some (.lst (rs.map T.ref)):=by rw[jJo hDm];exact D6
   have b7:BoxAt (gup G6 m (.lst ((ms++[s']).map encE))) b 1:=b6.gup hmb.symm
   have B7:∀(j:Nat) (r:Addr),i+1<=j->rs[j]? =some r->BoxAt (gup G6 m (.lst ((ms++[s']).map encE))) r 0:=fun j r hj hr=>(B6 j r hj hr).gup (qUh (B6 j r hj hr) m6 kV1).symm
   generalize gup G6 m (.lst ((ms++[s']).map encE))=G7 at m7 S7 D7 b7 B7
   refine⟨s'.1,s'.2,rfl,a1,a2,c,cap,fun k0 ds G8 h1' h2' h3' h4' s8=> ?_⟩
   refine bk_ok a1 a2 a3 a4 c cap h1' h2' h3' h4' (b7.sub s8) fun u8 u9 G9 b9 k9=> ?_
   refine⟨_,_,_,_,_,u8,u9,ms++[s'],rfl,k9 _ _ hSb (s8 _ _ S7),k9 _ _ hmb (s8 _ _ m7),by rw[lKc,List.length_singleton];omega,k9 _ _ hDb (s8 _ _ D7),fun j r hj hr=> ?_⟩
   obtain⟨z1,z2,z3,h,h'⟩:=B7 j r hj hr
   exact⟨z1,z2,z3,k9 _ _ (rb j r hj hr) (s8 _ _ h),h'⟩
 ·intro τ G4 h_;apply xe8 h_;clear h_;intro v3 v4 v5 v6 v7 v8 v9 ms h_;apply ae5 h_;clear h_;intro h1 h2 h3 h4 h5
  wp_walk using 1,tSeq
  exact kk G4
end W
namespace W
open PySem PySem.Spec PyProof.Rows L2 L3
theorem ln1 {α:Type} {us:List α} {C:List α->Prop} (h:us.length=1) (k:∀a0,C [a0]):C us:=by
 obtain⟨a0,us,rfl⟩:=lQ0 h
 replace h:=lQ1 h
 cases lQ9.mp h
 exact k a0
theorem ln2 {α:Type} {us:List α} {C:List α->Prop} (h:us.length=2) (k:∀a0 a1,C [a0,a1]):C us:=by
 obtain⟨a0,us,rfl⟩:=lQ0 h
 replace h:=lQ1 h
 obtain⟨a1,us,rfl⟩:=lQ0 h
 replace h:=lQ1 h
 cases lQ9.mp h
 exact k a0 a1
theorem ln3 {α:Type} {us:List α} {C:List α->Prop} (h:us.length=3) (k:∀a0 a1 a2,C [a0,a1,a2]):C us:=by
 obtain⟨a0,us,rfl⟩:=lQ0 h
 replace h:=lQ1 h
 obtain⟨a1,us,rfl⟩:=lQ0 h
 replace h:=lQ1 h
 obtain⟨a2,us,rfl⟩:=lQ0 h
 replace h:=lQ1 h
 cases lQ9.mp h
 exact k a0 a1 a2
theorem ln4 {α:Type} {us:List α} {C:List α->Prop} (h:us.length=4) (k:∀a0 a1 a2 a3,C [a0,a1,a2,a3]):C us:=by
 obtain⟨a0,us,rfl⟩:=lQ0 h
 replace h:=lQ1 h
 obtain⟨a1,us,rfl⟩:=lQ0 h
 replace h:=lQ1 h
 obtain⟨a2,us,rfl⟩:=lQ0 h
 replace h:=lQ1 h
 obtain⟨a3,us,rfl⟩:=lQ0 h
 replace h:=lQ1 h
 cases lQ9.mp h
 exact k a0 a1 a2 a3
def top (i:Nat):Stmt:=PySem.Challenge.pw_stonewalker_k45_walks_that_see_all.main.body.getD i (.Pass ⟨0,0,0,0⟩)
def FnAt (K:PySem.W.Frag) (mg:Str->Option Value) (x:Str) (i:Nat):Prop:=∃f fd,mg x=some (.ref f)/\Fun K x x (top i) f fd
structure Txt (K:PySem.W.Frag) (mg:Str->Option Value):Prop where
 n_abs:mg "abs"=none
 n_all:mg "all"=none
 n_bool:mg "bool"=none
 n_dict:mg "dict"=none
 n_enumerate:mg "enumerate"=none
 n_int:mg "int"=none
 n_isinstance:mg "isinstance"=none
 n_len:mg "len"=none
 n_list:mg "list"=none
 n_max:mg "max"=none
 n_min:mg "min"=none
 n_range:mg "range"=none
 n_reversed:mg "reversed"=none
 n_set:mg "set"=none
 n_sorted:mg "sorted"=none
 n_tuple:mg "tuple"=none
 f_tied:FnAt K mg "tied" 1
 f_sketched:FnAt K mg "sketched" 2
 f_is_number:FnAt K mg "is_number" 4
 f_is_number_of_room:FnAt K mg "is_number_of_room" 5
 f_is_end:FnAt K mg "is_end" 6
 f_is_room:FnAt K mg "is_room" 7
 f_leads_back:FnAt K mg "leads_back" 8
 f_all_lead_back:FnAt K mg "all_lead_back" 9
 f_first_comings:FnAt K mg "first_comings" 10
 f_is_web:FnAt K mg "is_web" 11
 f_ends_on:FnAt K mg "ends_on" 12
 f_gone:FnAt K mg "gone" 13
 f_way_to:FnAt K mg "way_to" 14
 f_tied_on:FnAt K mg "tied_on" 16
 f_even_webs:FnAt K mg "even_webs" 17
 f_sees_all:FnAt K mg "sees_all" 18
 f_webs_up_to:FnAt K mg "webs_up_to" 20
 f_first_missed:FnAt K mg "first_missed" 21
 f_missed:FnAt K mg "missed" 22
 f_way_on:FnAt K mg "way_on" 23
 f_all_seeing:FnAt K mg "all_seeing" 24
 f_l_box:FnAt K mg "_law_box" 26
 f_l_take:FnAt K mg "_law_take" 27
 f_l_told:FnAt K mg "_law_told" 28
 f_l_pairings:FnAt K mg "_law_pairings" 29
 f_l_all_ends:FnAt K mg "_law_all_ends" 30
 f_l_even:FnAt K mg "_law_even" 31
 f_l_sizes:FnAt K mg "_law_sizes" 32
 f_l_seen_rooms:FnAt K mg "_law_seen_rooms" 33
 f_l_folded:FnAt K mg "_law_folded" 34
 f_l_is_way:FnAt K mg "_law_is_way" 35
 f_law:FnAt K mg "law" 36
variable {P:Program} {w:World} {K:PySem.W.Frag} {mg:Str->Option Value} {base:Heap}
theorem cal3 {x:Str} {i k:Nat} {N ps:List Str} {sp:Sp3} {t:TS3} (F:FnAt K mg x i) (h:∀xs G Q,sp xs G Q->t {nx:=fun _ G'=>Q .non G',rt:=Q} (jQ3 N xs) G)
  (d:∀(f:Addr) (cdv:Value) (A:Around) (outer:List Env) (s:Shared) (H:Hp) (E:XK),Room k (A.deeper (envOfC x (jJ0 (top i)) s.heap.objs.size f cdv))->(A.deeper (envOfC x (jJ0 (top i)) s.heap.objs.size f cdv)).units+20<cLine->N.Nodup->PSs3 (cxOf CX0 P w K mg base N x (jJ0 (top i)) f cdv A outer s H E).nox (jQ1 (top i)) t)
  (S:FnScope N ps (jJ0 (top i)):=by exact⟨rfl,rfl,rfl,by decide +kernel,rfl,by decide +kernel,by decide +kernel⟩)
  (b:∀(kV doc pm:Value) (an:Option Addr) (cdv ct:Value) (us:List Value),us.length=ps.length->bindArgs (PySem.W.fnOf x x (jV8 (top i)) (jQ1 (top i)) (jJ0 (top i)) .none kV doc pm an cdv ct) ⟨us,[]⟩=pure (ps.zip us):=by (intro _ _ _ _ _ _ us hl;first | (apply ln1 hl;intros;rfl) | (apply ln2 hl;intros;rfl) | (apply ln3 hl;intros;rfl) | (apply ln4 hl;intros;rfl)))
  (m:Mono sp:=by (intro xs G Q Q' hq;(repeat' (first | (refine Exists.imp fun _=> ?_) | (refine And.imp_right ?_)));intro k;intros;apply hq;apply k<;>assumption))
  (n:∀xs G Q,sp xs G Q->xs.length=ps.length:=by (intro xs G Q h;repeat (first | exact (lJ8 List.length h.1).trans rfl | obtain⟨_,h⟩:=h))):Cal P w K mg base (k+1) x ps sp:=by
 obtain⟨f,fd,a,F⟩:=F
 exact⟨⟨f,fd,fn3 F S fun cdv A outer s H E hr=>⟨t,d f cdv A outer s H E hr (hu_of hr) S.nd,h⟩,a,F.kp,F.binds b⟩,m,n⟩
theorem cal0 {x:Str} {i k:Nat} {ps:List Str} (F:FnAt K mg x i) (b:∀(kV doc pm:Value) (an:Option Addr) (cdv ct:Value) (us:List Value),us.length=ps.length->bindArgs (PySem.W.fnOf x x (jV8 (top i)) (jQ1 (top i)) (jJ0 (top i)) .none kV doc pm an cdv ct) ⟨us,[]⟩=pure (ps.zip us):=by (intro _ _ _ _ _ _ us hl;first | (apply ln1 hl;intros;rfl) | (apply ln2 hl;intros;rfl) | (apply ln3 hl;intros;rfl) | (apply ln4 hl;intros;rfl))):Cal P w K mg base k x ps (fun _ _ _=>False):=by
 obtain⟨f,fd,a,F⟩:=F
 refine⟨⟨f,fd,⟨fun vs H Q E h=>h.1,?_⟩,a,F.kp,F.binds b⟩,fun _ _ _ _ _ h=>h,fun _ _ _ h=>h.elim⟩
 intros
 rename_i h
 exact absurd h (by rintro⟨_,_,_,_,_,h⟩;exact h)
theorem qZh (T:Txt K mg):Cal P w K mg base 1 "tied" ["leads","start","end"] kUx:=
 cal3 T.f_tied qJy fun _ _ _ _ _ _ _ hr hu nd=>
  (jJd (jJw (i:=3) nd (jK4 uJw (by rfl) T.n_dict rfl (jJa (jJb 0) jJf)))
   (jJd (kKl (jJb 2) (kVw (jJb 3) (jJb 1) (s_F hu)))
   (jJd (kKl (jJb 1) (kVw (jJb 3) (jJb 2) (s_F hu)))
   (jJh (jJz (jJb 3))))))
theorem kVg (T:Txt K mg):Cal P w K mg base 1 "sketched" ["counts","leads"] jUi:=
 cal3 T.f_sketched kKn fun _ _ _ _ _ _ _ hr hu nd=>
  (jJd (jJw (i:=2) nd (jK7 jJf))
   (jJd (jQn lKb rfl (kYe rfl T.n_enumerate rfl (jJa (jJb 0) jJf)) (jZz rfl (jJ6 (jJm (i:=3) nd) (jJ6 (jJm (i:=4) nd) jVa))) (jJh (jQw (e_bm lK9 lVf lVg jKx (jJb 2) (jJa (jK4 jYh (by rfl) T.n_tuple rfl (jJa (jK8 (mask:=[false,false,false,false,false,true]) rfl ⟨rfl,rfl,rfl,rfl,rfl,rfl,rfl⟩ (jKy rfl T.n_range (jJa (jJb 4) jJf)) jJx (fun C fp s H=>(jJm (i:=5) nd)) (fun C fp s H=>jK0) (fun C fp s H=>(e_bm PySem.F.plainAttrs_dict PySem.F.slot_dict_get PySem.F.type_dict_get (m_getD hu) (jJb 1) (jJa (jVc (jJa (jJb 3) (jJa (jJb 5) jJf))) jJf)))) jJf)) jJf)))))
   (jJh (jJz (jK4 jYh (by rfl) T.n_tuple rfl (jJa (jJb 2) jJf))))))
theorem jU8 (T:Txt K mg):Cal P w K mg base 1 "is_number" ["thing"] jK5:=
 cal3 T.f_is_number kJg fun _ _ _ _ _ _ _ hr hu nd=>
  (jJh (jJz (kK3 (jJq kUb (by rfl) T.n_isinstance rfl (jJa (jJb 0) (jJa (e_ty rfl T.n_int rfl) jJf))) (kZs (e_not (jJq kUb (by rfl) T.n_isinstance rfl (jJa (jJb 0) (jJa (e_ty rfl T.n_bool rfl) jJf))))))))
theorem jVo (T:Txt K mg):Cal P w K mg base 2 "is_number_of_room" ["web","thing"] jKm:=
 cal3 T.f_is_number_of_room jUz fun _ _ _ _ _ _ _ hr hu nd=>
  (jJh (jJz (kK3 (jJ8 (jU8 T) (hr.mono (by decide)) (jJa (jJb 1) jJf)) (kZs (qQ3 (qKs hu) o_lt jJl (jJb 1) (jJq jXx (by rfl) T.n_len lKz (jJa (jJb 0) jJf)))))))
theorem qKo (T:Txt K mg):Cal P w K mg base 2 "is_end" ["thing"] jZa:=
 cal3 T.f_is_end kVb fun _ _ _ _ _ _ _ hr hu nd=>
  (jJh (jJz (kK3 (jJq kUb (by rfl) T.n_isinstance rfl (jJa (jJb 0) (jJa (e_ty rfl T.n_tuple rfl) jJf))) (kK3 (qXf (kVm hr.units) (jJq jXx (by rfl) T.n_len lKz (jJa (jJb 0) jJf)) jJl (jJu _)) (kK3 (jJ8 (jU8 T) (hr.mono (by decide)) (jJa (e_ix (ix_F hu) (jJb 0) jJl (fun _ _=>rfl)) jJf)) (kZs (jJ8 (jU8 T) (hr.mono (by decide)) (jJa (e_ix (ix_F hu) (jJb 0) jJl (fun _ _=>rfl)) jJf))))))))
theorem kZb (T:Txt K mg):Cal P w K mg base 3 "is_room" ["thing"] jX2:=
 cal3 T.f_is_room kQk fun _ _ _ _ _ _ _ hr hu nd=>
  (jJh (jJz (kK3 (jJq kUb (by rfl) T.n_isinstance rfl (jJa (jJb 0) (jJa (e_ty rfl T.n_tuple rfl) jJf))) (kZs (jJq (uJz rfl) (by rfl) T.n_all rfl (jJa (jK8 (mask:=[false,true]) rfl ⟨rfl,rfl,rfl,rfl,rfl,rfl,rfl⟩ (jQu (jJb 0)) jJx (fun C fp s H=>(jJm (i:=1) nd)) (fun C fp s H=>jK0) (fun C fp s H=>(jJ8 (qKo T) (hr.mono (by decide)) (jJa (jJb 1) jJf)))) jJf))))))
theorem kKu (T:Txt K mg):Cal P w K mg base 3 "leads_back" ["rooms","room","door"] jUj:=
 cal3 T.f_leads_back jZe fun _ _ _ _ _ _ _ hr hu nd=>
  (jJd (jJw (i:=3) nd (e_ix (ix_F hu) (e_ix (ix_F hu) (jJb 0) (jJb 1) (fun _ _=>rfl)) (jJb 2) (fun _ _=>rfl)))
   (jJd (s_if (kKe (kQd (jJ8 (jVo T) (hr.mono (by decide)) (jJa (jJb 0) (jJa (e_ix (ix_F hu) (jJb 3) jJl (fun _ _=>rfl)) jJf))))) (jJh (jJz e_bl)) jKj)
   (jJd (s_if (kKe (qJd (qKs hu) o_lt jJl (e_ix (ix_F hu) (jJb 3) jJl (fun _ _=>rfl)) (jJq jXx (by rfl) T.n_len lKz (jJa (e_ix (ix_F hu) (jJb 0) (e_ix (ix_F hu) (jJb 3) jJl (fun _ _=>rfl)) (fun _ _=>rfl)) jJf)))) (jJh (jJz e_bl)) jKj)
   (jJh (jJz (qXf (kVm hr.units) (e_ix (ix_F hu) (e_ix (ix_F hu) (jJb 0) (e_ix (ix_F hu) (jJb 3) jJl (fun _ _=>rfl)) (fun _ _=>rfl)) (e_ix (ix_F hu) (jJb 3) jJl (fun _ _=>rfl)) (fun _ _=>rfl)) (jVc (jJa (jJb 1) (jJa (jJb 2) jJf))) (jJu _)))))))
theorem jYp (T:Txt K mg):Cal P w K mg base 4 "all_lead_back" ["rooms"] jQc:=
 cal3 T.f_all_lead_back jXj fun _ _ _ _ _ _ _ hr hu nd=>
  (jJd (jQn lKb rfl (i_enT rfl T.n_enumerate rfl (jJa (jJb 0) jJf)) (jZz rfl (jJ6 (jJm (i:=1) nd) (jJ6 (jJm (i:=2) nd) jVa))) (jJh (jQn lKb rfl (jKy rfl T.n_range (jJa (jJq jXx (by rfl) T.n_len lKz (jJa (jJb 2) jJf)) jJf)) (jJm (i:=3) nd) (jJh (s_if (kKe (kQd (jJ8 (kKu T) (hr.mono (by decide)) (jJa (jJb 0) (jJa (jJb 1) (jJa (jJb 3) jJf)))))) (jJh (jJz e_bl)) jKj)))))
   (jJh (jJz e_bl)))
theorem jUy (T:Txt K mg):Cal P w K mg base 1 "first_comings" ["web","room"] jKo:=
 cal3 T.f_first_comings jXi fun _ _ _ _ _ _ _ hr hu nd=>
  (jJd (jJw (i:=2) nd (uJj (jJb 1) jZ3))
   (jJd (jJw (i:=3) nd (jK7 (jJa (jJb 1) jJf)))
   (jJd (kKk lKb (t_tru qJc (jJb 3)) (jJd (jJw (i:=4) nd (jK7 jJf))
   (jJd (jQn lKb rfl (jQu (jJb 3)) (jJm (i:=5) nd) (jJh (jQn lKb rfl (i_enT rfl T.n_enumerate rfl (jJa (e_ix (ix_F hu) (jJb 0) (jJb 5) (fun _ _=>rfl)) jJf)) (jZz rfl (jJ6 (jJm (i:=6) nd) (jJ6 (jJm (i:=7) nd) jVa))) (jJh (s_if (jQb (jXn hu) (e_ix (ix_F hu) (jJb 7) jJl (fun _ _=>rfl)) (jJb 2) (jJu _)) (jJd (kKl (jVc (jJa (jJb 5) (jJa (jJb 6) jJf))) (kVw (jJb 2) (e_ix (ix_F hu) (jJb 7) jJl (fun _ _=>rfl)) (s_F hu)))
   (jJh (jQw (e_bm lK9 lVf lVg jKx (jJb 4) (jJa (e_ix (ix_F hu) (jJb 7) jJl (fun _ _=>rfl)) jJf))))) jKj)))))
   (jJh (jJw (i:=3) nd (jJb 4))))))
   (jJh (jJz (jJb 2))))))
theorem qKn (T:Txt K mg):Cal P w K mg base 5 "is_web" ["thing"] jXd:=
 cal3 T.f_is_web kVa fun _ _ _ _ _ _ _ hr hu nd=>
  (jJd (s_if (PW3.pt (w_or (kKe (kQd (jJq kUb (by rfl) T.n_isinstance rfl (jJa (jJb 0) (jJa (e_ty rfl T.n_tuple rfl) jJf))))) (qYo (jQb (kVm hr.units) (jJq qUg (by rfl) T.n_len lKz (jJa (jJb 0) jJf)) jJl (jJu _))))) (jJh (jJz e_bl)) jKj)
   (jJd (s_if (kKe (kQd (jJq (uJz rfl) (by rfl) T.n_all rfl (jJa (jK8 (mask:=[false,true]) rfl ⟨rfl,rfl,rfl,rfl,rfl,rfl,rfl⟩ (jQu (jJb 0)) jJx (fun C fp s H=>(jJm (i:=1) nd)) (fun C fp s H=>jK0) (fun C fp s H=>(jJ8 (kZb T) (hr.mono (by decide)) (jJa (jJb 1) jJf)))) jJf)))) (jJh (jJz e_bl)) jKj)
   (jJh (jJz (kK3 (jJ8 (jYp T) (hr.mono (by decide)) (jJa (jJb 0) jJf)) (kZs (qXf (kVm hr.units) (jJq qUg (by rfl) T.n_len lKz (jJa (jJ8 (jUy T) (hr.mono (by decide)) (jJa (jJb 0) (jJa jJl jJf))) jJf)) (jJq qUg (by rfl) T.n_len lKz (jJa (jJb 0) jJf)) (jJu _))))))))
theorem jYb (T:Txt K mg):Cal P w K mg base 1 "ends_on" ["web","room","way"] jQ6:=
 cal3 T.f_ends_on kQl (fun _ _ _ _ _ _ _ hr hu nd=>
  (jJd (jJw (i:=3) nd (jK7 jJf))
   (jJd (jJw (i:=4) nd (jJb 1))
   (jJd (jQn lKb rfl (jQu (jJb 2)) (jJm (i:=5) nd) (jJd (s_if (kKe (qJd (qKs hu) o_lt jJl (jJb 5) (jJq jXx (by rfl) T.n_len lKz (jJa (e_ix (ix_F hu) (jJb 0) (jJb 4) (fun _ _=>rfl)) jJf)))) (jJh (jJz jZ3)) jKj)
   (jJd (jJw (i:=6) nd (e_ix (ix_F hu) (e_ix (ix_F hu) (jJb 0) (jJb 4) (fun _ _=>rfl)) (jJb 5) (fun _ _=>rfl)))
   (jJd (jQw (e_bm lK9 lVf lVg jKx (jJb 3) (jJa (jJb 6) jJf)))
   (jJh (jJw (i:=4) nd (e_ix (ix_F hu) (jJb 6) jJl (fun _ _=>rfl))))))))
   (jJh (jJz (jJb 3))))))) (m:=by (intro xs G Q Q' hq;(repeat' (first | (refine Exists.imp fun _=> ?_) | (refine And.imp_right ?_)));intro k G' s;refine⟨fun a=>hq _ _ ((k G' s).1 a),?_⟩;intros;apply hq;apply (k G' s).2<;>assumption))
theorem qZi (T:Txt K mg):Cal P w K mg base 2 "gone" ["web","room","way"] kUy:=
 cal3 T.f_gone qJz (fun _ _ _ _ _ _ _ hr hu nd=>
  (jJd (jJw (i:=3) nd (jJ8 (jYb T) (hr.mono (by decide)) (jJa (jJb 0) (jJa (jJb 1) (jJa (jJb 2) jJf)))))
   (jJd (s_if (jQb o_isN (jJb 3) jZ3 (jJu _)) (jJh (jJz jZ3)) jKj)
   (jJh (jJz (kV2 (t_tru qJc (jJb 3)) (e_ix (ix_F hu) (jJb 3) (e_un u_neg jJl) (fun _ _=>rfl)) (jVc (jJa (jJb 1) (jJa jZ3 jJf))))))))) (m:=by (intro xs G Q Q' hq;(repeat' (first | (refine Exists.imp fun _=> ?_) | (refine And.imp_right ?_)));intro k G' s;refine⟨fun a=>hq _ _ ((k G' s).1 a),?_⟩;intros;apply hq;apply (k G' s).2<;>assumption))
theorem qKj (T:Txt K mg):Cal P w K mg base 2 "way_to" ["web","one","other"] jY7:=
 cal3 T.f_way_to kU4 fun _ _ _ _ _ _ _ hr hu nd=>
  (jJd (jJw (i:=3) nd (jJ8 (jUy T) (hr.mono (by decide)) (jJa (jJb 0) (jJa (jJb 1) jJf))))
   (jJd (jJw (i:=4) nd (jK7 jJf))
   (jJd (jJw (i:=5) nd (e_ix (ix_F hu) (jJb 3) (jJb 2) (fun _ _=>rfl)))
   (jJd (kKk lKb (jQb kXu (jJb 5) jZ3 (jJu _)) (jJd (jQw (e_bm lK9 lVf lVg jKx (jJb 4) (jJa (e_ix (ix_F hu) (jJb 5) jJl (fun _ _=>rfl)) jJf)))
   (jJh (jJw (i:=5) nd (e_ix (ix_F hu) (jJb 3) (e_ix (ix_F hu) (jJb 5) jJl (fun _ _=>rfl)) (fun _ _=>rfl))))))
   (jJh (jJz (e_trev rfl rfl T.n_tuple rfl T.n_reversed rfl (jJa (jJb 4) jJf))))))))
theorem kY9 (T:Txt K mg):Cal P w K mg base 2 "tied_on" ["begun","end","rooms","doors"] jVe:=
 cal3 T.f_tied_on kQi fun _ _ _ _ _ _ _ hr hu nd=>
  (jJd (s_if (jQb (o_inFu hu) (jJb 1) (jJb 0) (jJu _)) (jJh (jJz (jK7 (jJa (jJb 0) jJf)))) jKj)
   (jJd (jJw (i:=4) nd (e_op o_addF (jJq (c_maxL rfl) (by rfl) T.n_max rfl (jJa (e_op o_addF (jK7 (jJa jJl jJf)) (jK8 (mask:=[false,false,false,false,false,false,false,false,true]) rfl ⟨rfl,rfl,rfl,rfl,rfl,rfl,rfl⟩ (i_fd (jJb 0)) jJx (fun C fp s H=>(jJm (i:=8) nd)) (fun C fp s H=>jK0) (fun C fp s H=>(e_ix (ix_F hu) (jJb 8) jJl (fun _ _=>rfl))))) jJf)) jJl))
   (jJd (jJw (i:=5) nd (jK7 jJf))
   (jJd (jQn lKb rfl (jXt rfl T.n_range (jJa (e_ix (ix_F hu) (jJb 1) jJl (fun _ _=>rfl)) (jJa (jJq (c_min2 rfl) (by rfl) T.n_min rfl (jJa (e_op o_addF (jJb 4) jJl) (jJa (jJb 2) jJf))) jJf))) (jJm (i:=6) nd) (jJh (jQn lKb rfl (jKy rfl T.n_range (jJa (jJb 3) jJf)) (jJm (i:=7) nd) (jJd (jJw (i:=8) nd (jVc (jJa (jJb 6) (jJa (jJb 7) jJf))))
   (jJh (s_if (jQb (jXn hu) (jJb 8) (jJb 0) (jJu _)) (jJh (jQw (e_bm lK9 lVf lVg jKx (jJb 5) (jJa (jJ8 (qZh T) (hr.mono (by decide)) (jJa (jJb 0) (jJa (jJb 1) (jJa (jJb 8) jJf)))) jJf)))) jKj))))))
   (jJh (jJz (jJb 5)))))))
theorem kQr (T:Txt K mg):Cal P w K mg base 6 "even_webs" ["rooms","doors"] jU4:=
 cal3 T.f_even_webs kJh fun _ _ _ _ _ _ _ hr hu nd=>
  (jJd (jJw (i:=2) nd (jK7 (jJa e_dct jJf)))
   (jJd (jQn lKb rfl (jKy rfl T.n_range (jJa (jJb 0) jJf)) (jJm (i:=3) nd) (jJh (jQn lKb rfl (jKy rfl T.n_range (jJa (jJb 1) jJf)) (jJm (i:=4) nd) (jJd (jJw (i:=5) nd (jK7 jJf))
   (jJd (jQn lKb rfl (jQu (jJb 2)) (jJm (i:=6) nd) (jJh (jQw (e_bm lK9 lYc lYd jXr (jJb 5) (jJa (jJ8 (kY9 T) (hr.mono (by decide)) (jJa (jJb 6) (jJa (jVc (jJa (jJb 3) (jJa (jJb 4) jJf))) (jJa (jJb 0) (jJa (jJb 1) jJf))))) jJf)))))
   (jJh (jJw (i:=2) nd (jJb 5))))))))
   (jJd (kXk (i:=7) (mask:=[false,false,false,false,false,false,true,false,false]) rfl nd ⟨rfl,rfl,rfl,rfl,rfl,rfl,rfl⟩ (jQu (jJb 2)) jJx (fun C fp s H=>(jJm (i:=6) nd)) (fun C fp s H=>jK0) (fun C fp s H=>(jJ8 (kVg T) (hr.mono (by decide)) (jJa (e_op jXo (jK7 (jJa (jJb 1) jJf)) (jJb 0)) (jJa (jJb 6) jJf)))))
   (jJh (jJz (jK8 (mask:=[false,false,false,false,false,false,false,false,true]) rfl ⟨rfl,rfl,rfl,rfl,rfl,rfl,rfl⟩ (jQu (jJb 7)) jJx (fun C fp s H=>(jJm (i:=8) nd)) (fun C fp s H=>(kYd (kQd (jJ8 (qKn T) (hr.mono (by decide)) (jJa (jJb 8) jJf))))) (fun C fp s H=>(jJb 8))))))))
theorem kVh (T:Txt K mg):Cal P w K mg base 2 "sees_all" ["web","room","way"] jVu:=
 cal3 T.f_sees_all kKo fun _ _ _ _ _ _ _ hr hu nd=>
  (jJd (jJw (i:=3) nd (jJ8 (jYb T) (hr.mono (by decide)) (jJa (jJb 0) (jJa (jJb 1) (jJa (jJb 2) jJf)))))
   (jJd (s_if (jQb o_isN (jJb 3) jZ3 (jJu _)) (jJh (jJz e_bl)) jKj)
   (jJh (jJz (qXf (kVm hr.units) (uJi rfl hu (by rfl) T.n_len lKz (by rfl) T.n_set rfl (jJa (e_op o_addF (jK7 (jJa (jJb 1) jJf)) (jK8 (mask:=[false,false,false,false,true]) rfl ⟨rfl,rfl,rfl,rfl,rfl,rfl,rfl⟩ (jQu (jJb 3)) jJx (fun C fp s H=>(jJm (i:=4) nd)) (fun C fp s H=>jK0) (fun C fp s H=>(e_ix (ix_F hu) (jJb 4) jJl (fun _ _=>rfl))))) jJf)) (jJq jXx (by rfl) T.n_len lKz (jJa (jJb 0) jJf)) (jJu _))))))
theorem jXl (T:Txt K mg):Cal P w K mg base 7 "webs_up_to" ["rooms","doors"] jQh:=
 cal3 T.f_webs_up_to jZd fun _ _ _ _ _ _ _ hr hu nd=>
  (jJd (jJw (i:=2) nd (jK7 jJf))
   (jJd (jQn lKb rfl (jXt rfl T.n_range (jJa jJl (jJa (e_op o_addF (jJb 0) jJl) jJf))) (jJm (i:=3) nd) (jJh (jQw (e_bm lK9 lYc lYd jXr (jJb 2) (jJa (jJ8 (kQr T) (hr.mono (by decide)) (jJa (jJb 3) (jJa (jJb 1) jJf))) jJf)))))
   (jJh (jJz (jJb 2)))))
theorem jQr (T:Txt K mg):Cal P w K mg base 3 "first_missed" ["webs","way"] jKf:=
 cal3 T.f_first_missed jX4 fun _ _ _ _ _ _ _ hr hu nd=>
  (jJd (jQn lKb rfl (jQu (jJb 0)) (jJm (i:=2) nd) (jJh (s_if (kKe (kQd (jJ8 (kVh T) (hr.mono (by decide)) (jJa (jJb 2) (jJa jJl (jJa (jJb 1) jJf)))))) (jJh (jJz (jJb 2))) jKj)))
   (jJh (jJz jZ3)))
theorem kQp (T:Txt K mg):Cal P w K mg base 8 "missed" ["rooms","doors","way"] jQ4:=
 cal3 T.f_missed kU6 fun _ _ _ _ _ _ _ hr hu nd=>
  (jJh (jJz (jJ8 (jQr T) (hr.mono (by decide)) (jJa (jJ8 (jXl T) (hr.mono (by decide)) (jJa (jJb 0) (jJa (jJb 1) jJf))) (jJa (jJb 2) jJf)))))
theorem qKk (T:Txt K mg):Cal P w K mg base 3 "way_on" ["web","way"] jY8:=
 cal3 T.f_way_on kU5 fun _ _ _ _ _ _ _ hr hu nd=>
  (jJd (jJw (i:=2) nd (e_ix (ix_F hu) (jJ8 (qZi T) (hr.mono (by decide)) (jJa (jJb 0) (jJa jJl (jJa (jJb 1) jJf)))) jJl (fun _ _=>rfl)))
   (jJd (jJw (i:=3) nd (e_op o_addF (jK7 (jJa jJl jJf)) (jK8 (mask:=[false,false,false,false,false,true,false]) rfl ⟨rfl,rfl,rfl,rfl,rfl,rfl,rfl⟩ (jQu (jJ8 (jYb T) (hr.mono (by decide)) (jJa (jJb 0) (jJa jJl (jJa (jJb 1) jJf))))) jJx (fun C fp s H=>(jJm (i:=5) nd)) (fun C fp s H=>jK0) (fun C fp s H=>(e_ix (ix_F hu) (jJb 5) jJl (fun _ _=>rfl))))))
   (jJd (kXk (i:=4) (mask:=[false,false,false,false,false,false,true]) rfl nd ⟨rfl,rfl,rfl,rfl,rfl,rfl,rfl⟩ (jKy rfl T.n_range (jJa (jJq jXx (by rfl) T.n_len lKz (jJa (jJb 0) jJf)) jJf)) jJx (fun C fp s H=>(jJm (i:=6) nd)) (fun C fp s H=>(kYd (jQb (jXn hu) (jJb 6) (jJb 3) (jJu _)))) (fun C fp s H=>(jJb 6)))
   (jJh (jJz (jJ8 (qKj T) (hr.mono (by decide)) (jJa (jJb 0) (jJa (jJb 2) (jJa (e_ix (ix_F hu) (jJb 4) jJl (fun _ _=>rfl)) jJf)))))))))
theorem jXm (T:Txt K mg):Cal P w K mg base 8 "all_seeing" ["rooms","doors"] jKh:=
 cal3 T.f_all_seeing jZg fun _ _ _ _ _ _ _ hr hu nd=>
  (jJd (jJw (i:=2) nd (jJ8 (jXl T) (hr.mono (by decide)) (jJa (jJb 0) (jJa (jJb 1) jJf))))
   (jJd (jJw (i:=3) nd (jVc jJf))
   (jJd (jJw (i:=4) nd (jJ8 (jQr T) (hr.mono (by decide)) (jJa (jJb 2) (jJa (jJb 3) jJf))))
   (jJd (kKk lKb (jQb kXu (jJb 4) jZ3 (jJu _)) (jJd (jJw (i:=3) nd (e_op qKt (jJb 3) (jJ8 (qKk T) (hr.mono (by decide)) (jJa (jJb 4) (jJa (jJb 3) jJf)))))
   (jJh (jJw (i:=4) nd (jJ8 (jQr T) (hr.mono (by decide)) (jJa (jJb 2) (jJa (jJb 3) jJf)))))))
   (jJh (jJz (jJb 3)))))))
theorem qVl (T:Txt K mg):Cal P w K mg base 1 "_law_box" ["_law_script","_law_k"] kKi:=
 cal3 T.f_l_box kY7 fun _ _ _ _ _ _ _ hr hu nd=>
  (jJd (jJw (i:=2) nd (kV2 (jQb o_lt (jJb 1) (jJq jXx (by rfl) T.n_len lKz (jJa (jJb 0) jJf)) (jJu _)) (e_ix (ix_F hu) (jJb 0) (jJb 1) (fun _ _=>rfl)) jJl))
   (jJd (jJw (i:=3) nd (kV2 (jQb o_ge (jJq c_abs (by rfl) T.n_abs rfl (jJa (jJb 2) jJf)) (e_op o_pow jJl jJl) (jJu _)) (jJq c_abs (by rfl) T.n_abs rfl (jJa (jJb 2) jJf)) jJl))
   (jJh (jJz (jK7 (jJa (jJb 3) (jJa (e_op jZr (e_op jXo (e_op o_addF (e_op o_addF (e_op jZr (jJb 2) jJl) (e_op jXo jJl (jJb 1))) jJl) jJl) jJl) (jJa jJl jJf))))))))
theorem kQq (T:Txt K mg):Cal P w K mg base 1 "_law_take" ["_law_box_here","_law_many"] jQ5:=
 cal3 T.f_l_take kU8 fun _ _ _ _ _ _ _ hr hu nd=>
  (jJd (s_if (jQb o_gt (e_ix (ix_F hu) (jJb 0) jJl (fun _ _=>rfl)) jJl (jJu _)) (jJd (jJw (i:=2) nd (e_op jZr (e_ix (ix_F hu) (jJb 0) jJl (fun _ _=>rfl)) (jJb 1)))
   (jJd (kKl (e_op qX7 (e_ix (ix_F hu) (jJb 0) jJl (fun _ _=>rfl)) (jJb 1)) (kVw (jJb 0) jJl (s_F hu)))
   (jJh (jJz (jJb 2))))) jKj)
   (jJd (kKl (e_op o_addF (e_ix (ix_F hu) (jJb 0) jJl (fun _ _=>rfl)) jJl) (kVw (jJb 0) jJl (s_F hu)))
   (jJd (jJw (i:=3) nd (e_op jZr (e_op jXo (e_op o_addF (e_ix (ix_F hu) (jJb 0) jJl (fun _ _=>rfl)) (e_op jXo jJl (e_ix (ix_F hu) (jJb 0) jJl (fun _ _=>rfl)))) (e_op o_addF jJl (e_ix (ix_F hu) (jJb 0) jJl (fun _ _=>rfl)))) jJl))
   (jJd (kKl (e_op jZr (e_op o_addF (e_op jXo (jJb 3) (e_op o_addF (e_op jZr (jJb 3) jJl) jJl)) (e_ix (ix_F hu) (jJb 0) jJl (fun _ _=>rfl))) jJl) (kVw (jJb 0) jJl (s_F hu)))
   (jJh (jJz (e_op jZr (e_op qX7 (e_op jZr (e_op jXo (e_ix (ix_F hu) (jJb 0) jJl (fun _ _=>rfl)) (e_op o_addF (e_op jZr (e_ix (ix_F hu) (jJb 0) jJl (fun _ _=>rfl)) jJl) jJl)) jJl) jJl) (jJb 1))))))))
theorem qKl (T:Txt K mg):Cal P w K mg base 1 "_law_told" ["_law_web","_law_room"] jY9:=
 cal3 T.f_l_told kU7 fun _ _ _ _ _ _ _ hr hu nd=>
  (jJd (jJw (i:=2) nd (jK7 (jJa (jJb 1) jJf)))
   (jJd (jJw (i:=3) nd jJl)
   (jJd (kKk lKb (jQb o_lt (jJb 3) (jJq jXx (by rfl) T.n_len lKz (jJa (jJb 2) jJf)) (jJu _)) (jJd (jQn lKb rfl (jQu (e_ix (ix_F hu) (jJb 0) (e_ix (ix_F hu) (jJb 2) (jJb 3) (fun _ _=>rfl)) (fun _ _=>rfl))) (jZz rfl (jJ6 (jJm (i:=4) nd) (jJ6 (jJm (i:=5) nd) jVa))) (jJh (s_if (jQb (jXn hu) (jJb 4) (jJb 2) (jJu _)) (jJh (jQw (e_bm lK9 lVf lVg jKx (jJb 2) (jJa (jJb 4) jJf)))) jKj)))
   (jJh (jJw (i:=3) nd (e_op o_addF (jJb 3) jJl)))))
   (jJd (jJw (i:=6) nd (jK4 (uJy rfl) (by rfl) T.n_dict rfl (jJa (jK8 (mask:=[false,false,false,false,false,false,false,true,true]) rfl ⟨rfl,rfl,rfl,rfl,rfl,rfl,rfl⟩ (kYe rfl T.n_enumerate rfl (jJa (jJb 2) jJf)) (qQj (jYe jJx jUu (jYe jJx jUu qQk kJ2) (kVv jUu kJ2))) (fun C fp s H=>(jZz rfl (jJ6 (jJm (i:=7) nd) (jJ6 (jJm (i:=8) nd) jVa)))) (fun C fp s H=>jK0) (fun C fp s H=>(jVc (jJa (jJb 8) (jJa (jJb 7) jJf))))) jJf)))
   (jJh (jJz (jK4 jYh (by rfl) T.n_tuple rfl (jJa (jK8 (mask:=[false,false,false,false,false,false,false,false,true]) rfl ⟨rfl,rfl,rfl,rfl,rfl,rfl,rfl⟩ (jQu (jJb 2)) jJx (fun C fp s H=>(jJm (i:=8) nd)) (fun C fp s H=>jK0) (fun C fp s H=>(jK4 jYh (by rfl) T.n_tuple rfl (jJa (jK8 (mask:=[false,false,false,false,true,true,false,false,false]) rfl ⟨rfl,rfl,rfl,rfl,rfl,rfl,rfl⟩ (jQu (e_ix (ix_F hu) (jJb 0) (jJb 8) (fun _ _=>rfl))) (qQj (jYe jJx jUu (jYe jJx jUu qQk kJ2) (kVv jUu kJ2))) (fun C fp s H=>(jZz rfl (jJ6 (jJm (i:=4) nd) (jJ6 (jJm (i:=5) nd) jVa)))) (fun C fp s H=>jK0) (fun C fp s H=>(jVc (jJa (e_ix (ix_F hu) (jJb 6) (jJb 4) (fun _ _=>rfl)) (jJa (jJb 5) jJf))))) jJf)))) jJf))))))))
theorem jJs {j:Nat} {sp sp':Sp3} (T:Txt K mg) (C_l_pairings:Cal P w K mg base (j) "_law_pairings" ["_law_ends"] sp) (h:∀xs G Q,sp' xs G Q->jKd sp {nx:=fun _ G'=>Q .non G',rt:=Q} (jQ3 jVd xs) G) (m:Mono sp':=by unfold jVm;(intro xs G Q Q' hq;(repeat' (first | (refine Exists.imp fun _=> ?_) | (refine And.imp_right ?_)));intro k;intros;apply hq;apply k<;>assumption)) (n:∀xs G Q,sp' xs G Q->xs.length=(["_law_ends"]:List Str).length:=by (intro xs G Q h;repeat (first | exact (lJ8 List.length h.1).trans rfl | obtain⟨_,h⟩:=h))):Cal P w K mg base (j+1) "_law_pairings" ["_law_ends"] sp':=
 cal3 T.f_l_pairings h (fun _ _ _ _ _ _ _ hr hu nd=>(jJd (s_if (jQb (kVm hr.units) (jJb 0) (jK7 jJf) (jJu _)) (jJh (jJz (jK7 (jJa (jK7 jJf) jJf)))) jKj)
   (jJd (kKl (jVc (jJa (e_ix (ix_F hu) (jJb 0) jJl (fun _ _=>rfl)) (jJa (jZ2 sl_F (jJb 0) (kJw jJl) kXr) jJf))) (jZz rfl (jJ6 (jJm (i:=1) nd) (jJ6 (jJm (i:=2) nd) jVa))))
   (jJd (kXk (i:=3) (mask:=[false,false,false,false,false,false,true]) rfl nd ⟨rfl,rfl,rfl,rfl,rfl,rfl,rfl⟩ (jQu (jJ8 C_l_pairings hr (jJa (jJb 2) jJf))) jJx (fun C fp s H=>(jJm (i:=6) nd)) (fun C fp s H=>jK0) (fun C fp s H=>(e_op o_addF (jK7 (jJa (jVc (jJa (jJb 1) (jJa (jJb 1) jJf))) jJf)) (jJb 6))))
   (jJd (jQn lKb rfl (kYe rfl T.n_enumerate rfl (jJa (jJb 2) jJf)) (jZz rfl (jJ6 (jJm (i:=4) nd) (jJ6 (jJm (i:=5) nd) jVa))) (jJh (jQw (e_bm lK9 lYc lYd jXr (jJb 3) (jJa (jK8 (mask:=[false,false,false,false,false,false,true]) rfl ⟨rfl,rfl,rfl,rfl,rfl,rfl,rfl⟩ (jQu (jJ8 C_l_pairings hr (jJa (e_op o_addF (jZ2 sl_F (jJb 2) kXr (kJw (jJb 4))) (jZ2 sl_F (jJb 2) (kJw (e_op o_addF (jJb 4) jJl)) kXr)) jJf))) jJx (fun C fp s H=>(jJm (i:=6) nd)) (fun C fp s H=>jK0) (fun C fp s H=>(e_op o_addF (jK7 (jJa (jVc (jJa (jJb 1) (jJa (jJb 5) jJf))) jJf)) (jJb 6)))) jJf)))))
   (jJh (jJz (jJb 3)))))))) (m:=m) (n:=n)
theorem kKv (T:Txt K mg):Cal P w K mg base 10 "_law_pairings" ["_law_ends"] (jVm 9):=
 jJs (j:=9) (sp':=jVm 9) T (jJs (j:=8) (sp':=jVm 8) T (jJs (j:=7) (sp':=jVm 7) T (jJs (j:=6) (sp':=jVm 6) T (jJs (j:=5) (sp':=jVm 5) T (jJs (j:=4) (sp':=jVm 4) T (jJs (j:=3) (sp':=jVm 3) T (jJs (j:=2) (sp':=jVm 2) T (jJs (j:=1) (sp':=jVm 1) T (jJs (j:=0) (sp':=jVm 0) T (cal0 T.f_l_pairings) (jYo _)) (jJt 0)) (jJt 1)) (jJt 2)) (jJt 3)) (jJt 4)) (jJt 5)) (jJt 6)) (jJt 7)) (jJt 8)
theorem kKw (T:Txt K mg):Cal P w K mg base 1 "_law_all_ends" ["_law_wide","_law_doors"] jUm:=
 cal3 T.f_l_all_ends jZf fun _ _ _ _ _ _ _ hr hu nd=>
  (jJd (jJw (i:=2) nd (jK7 jJf))
   (jJd (jQn lKb rfl (jKy rfl T.n_range (jJa (jJb 0) jJf)) (jJm (i:=3) nd) (jJh (jQw (e_bm lK9 lYc lYd jXr (jJb 2) (jJa (jK8 (mask:=[false,false,false,false,true]) rfl ⟨rfl,rfl,rfl,rfl,rfl,rfl,rfl⟩ (jKy rfl T.n_range (jJa (jJb 1) jJf)) jJx (fun C fp s H=>(jJm (i:=4) nd)) (fun C fp s H=>jK0) (fun C fp s H=>(jVc (jJa (jJb 3) (jJa (jJb 4) jJf))))) jJf)))))
   (jJh (jJz (jJb 2)))))
theorem qKm (T:Txt K mg):Cal P w K mg base 11 "_law_even" ["_law_wide","_law_doors"] jXc:=
 cal3 T.f_l_even kU9 fun _ _ _ _ _ _ _ hr hu nd=>
  (jJd (jJw (i:=2) nd (jK7 jJf))
   (jJd (jQn lKb rfl (jQu (jJ8 (kKv T) (hr.mono (by decide)) (jJa (jJ8 (kKw T) (hr.mono (by decide)) (jJa (jJb 0) (jJa (jJb 1) jJf))) jJf))) (jJm (i:=3) nd) (jJd (jJw (i:=4) nd (jK4 (uJx rfl hu) (by rfl) T.n_dict rfl (jJa (e_op o_addF (jJb 3) (jK8 (mask:=[false,false,false,false,false,false,true,true,false,false]) rfl ⟨rfl,rfl,rfl,rfl,rfl,rfl,rfl⟩ (jQu (jJb 3)) (qQj (jYe jJx jUu (jYe jJx jUu qQk kJ2) (kVv jUu kJ2))) (fun C fp s H=>(jZz rfl (jJ6 (jJm (i:=6) nd) (jJ6 (jJm (i:=7) nd) jVa)))) (fun C fp s H=>jK0) (fun C fp s H=>(jVc (jJa (jJb 7) (jJa (jJb 6) jJf)))))) jJf)))
   (jJd (jJw (i:=5) nd (jK4 jYh (by rfl) T.n_tuple rfl (jJa (uJk (mask:=[false,false,false,false,false,false,false,false,true,false]) rfl ⟨rfl,rfl,rfl,rfl,rfl,rfl,rfl⟩ (jKy rfl T.n_range (jJa (jJb 0) jJf)) jJx (fun C fp s H=>(jJm (i:=8) nd)) (fun C fp s H=>jK0) (fun C fp s H=>(jK4 jYh (by rfl) T.n_tuple rfl (jJa (jK8 (mask:=[false,false,false,false,false,false,false,false,false,true]) rfl ⟨rfl,rfl,rfl,rfl,rfl,rfl,rfl⟩ (jKy rfl T.n_range (jJa (jJb 1) jJf)) jJx (fun C fp s H=>(jJm (i:=9) nd)) (fun C fp s H=>jK0) (fun C fp s H=>(e_ix (ix_F hu) (jJb 4) (jVc (jJa (jJb 8) (jJa (jJb 9) jJf))) (fun _ _=>rfl)))) jJf)))) jJf)))
   (jJh (s_if (jQb (kVm hr.units) (jJ8 (qKl T) (hr.mono (by decide)) (jJa (jJb 5) (jJa jJl jJf))) (jJb 5) (jJu _)) (jJh (jQw (e_bm lK9 lVf lVg jKx (jJb 2) (jJa (jJb 5) jJf)))) jKj)))))
   (jJh (jJz (jJq (uJu hu) (by rfl) T.n_sorted rfl (jJa (jJb 2) jJf))))))
theorem kZa (T:Txt K mg):Cal P w K mg base 1 "_law_sizes" ["_law_most","_law_doors"] jVf:=
 cal3 T.f_l_sizes kQj fun _ _ _ _ _ _ _ hr hu nd=>
  (jJd (jJw (i:=2) nd (jK7 jJf))
   (jJd (jQn lKb rfl (jXt rfl T.n_range (jJa jJl (jJa jJl jJf))) (jJm (i:=3) nd) (jJd (kXk (i:=4) (mask:=[false,false,false,false,false,true]) rfl nd ⟨rfl,rfl,rfl,rfl,rfl,rfl,rfl⟩ (jXt rfl T.n_range (jJa (jJb 1) (jJa jJl jJf))) jJx (fun C fp s H=>(jJm (i:=5) nd)) (fun C fp s H=>(kYd (jQb (qKs hu) (e_op jXo (jJb 3) (jJb 5)) (jJb 0) (jJu _)))) (fun C fp s H=>(jJb 5)))
   (jJh (jQw (e_bm lK9 lYc lYd jXr (jJb 2) (jJa (jK8 (mask:=[false,false,false,false,false,true]) rfl ⟨rfl,rfl,rfl,rfl,rfl,rfl,rfl⟩ (jQu (jJb 4)) jJx (fun C fp s H=>(jJm (i:=5) nd)) (fun C fp s H=>(kYd (PW3.pt (w_or (jQb o_gt (jJb 5) jJl (jJu _)) (qYo (jQb o_lt (jJb 3) jJl (jJu _))))))) (fun C fp s H=>(jVc (jJa (jJb 3) (jJa (jJb 5) jJf))))) jJf))))))
   (jJh (jJz (jJb 2)))))
theorem jZp (T:Txt K mg):Cal P w K mg base 1 "_law_seen_rooms" ["_law_web","_law_room","_law_way"] jKt:=
 cal3 T.f_l_seen_rooms jX3 fun _ _ _ _ _ _ _ hr hu nd=>
  (jJd (jJw (i:=3) nd (jK7 (jJa (jJb 1) jJf)))
   (jJd (jQn lKb rfl (jQu (jJb 2)) (jJm (i:=4) nd) (jJd (jJw (i:=1) nd (e_ix (ix_F hu) (e_ix (ix_F hu) (e_ix (ix_F hu) (jJb 0) (jJb 1) (fun _ _=>rfl)) (jJb 4) (fun _ _=>rfl)) jJl (fun _ _=>rfl)))
   (jJh (jQw (e_bm lK9 lVf lVg jKx (jJb 3) (jJa (jJb 1) jJf))))))
   (jJh (jJz (uJh rfl hu (by rfl) T.n_sorted rfl (by rfl) T.n_set rfl (jJa (jJb 3) jJf))))))
theorem kVj (T:Txt K mg):Cal P w K mg base 2 "_law_folded" ["_law_script","_law_many"] jUl:=
 cal3 T.f_l_folded kKq fun _ _ _ _ _ _ _ hr hu nd=>
  (jJd (jJw (i:=2) nd (jK4 uJv (by rfl) T.n_list rfl (jJa (jZ2 sl_F (jJb 0) kXr (kJw (jJb 1))) jJf)))
   (jJd (jQn lKb rfl (kYe rfl T.n_enumerate rfl (jJa (jZ2 sl_F (jJb 0) (kJw (jJb 1)) (kJw jJl)) jJf)) (jZz rfl (jJ6 (jJm (i:=3) nd) (jJ6 (jJm (i:=4) nd) jVa))) (jJh (kKl (e_op o_addF (e_ix (ix_F hu) (jJb 2) (e_op jZr (jJb 3) (jJb 1)) (fun _ _=>rfl)) (e_op jXo (jJb 4) (e_op o_addF (jJb 3) jJl))) (kVw (jJb 2) (e_op jZr (jJb 3) (jJb 1)) (s_F hu)))))
   (jJh (jJz (jK8 (mask:=[false,false,false,true,false]) rfl ⟨rfl,rfl,rfl,rfl,rfl,rfl,rfl⟩ (jKy rfl T.n_range (jJa (jJq (c_max rfl) (by rfl) T.n_max rfl (jJa jJl (jJa (jJq jXx (by rfl) T.n_len lKz (jJa (jJb 2) jJf)) jJf))) jJf)) jJx (fun C fp s H=>(jJm (i:=3) nd)) (fun C fp s H=>jK0) (fun C fp s H=>(jJ8 (qVl T) (hr.mono (by decide)) (jJa (jJb 2) (jJa (jJb 3) jJf)))))))))
theorem kVi (T:Txt K mg):Cal P w K mg base 1 "_law_is_way" ["_law_found","_law_doors"] jUk:=
 cal3 T.f_l_is_way kKp fun _ _ _ _ _ _ _ hr hu nd=>
  (jJd (s_if (kKe (kQd (jJq kUb (by rfl) T.n_isinstance rfl (jJa (jJb 0) (jJa (e_ty rfl T.n_tuple rfl) jJf))))) (jJh (jJz e_bl)) jKj)
   (jJh (jJz (jJq (uJz rfl) (by rfl) T.n_all rfl (jJa (jK8 (mask:=[false,false,true]) rfl ⟨rfl,rfl,rfl,rfl,rfl,rfl,rfl⟩ (jQu (jJb 0)) jJx (fun C fp s H=>(jJm (i:=2) nd)) (fun C fp s H=>jK0) (fun C fp s H=>(kK3 (jJq kUb (by rfl) T.n_isinstance rfl (jJa (jJb 2) (jJa (e_ty rfl T.n_int rfl) jJf))) (kK3 (e_not (jJq kUb (by rfl) T.n_isinstance rfl (jJa (jJb 2) (jJa (e_ty rfl T.n_bool rfl) jJf)))) (kZs (qQ3 (qKs hu) o_lt jJl (jJb 2) (jJb 1))))))) jJf)))))
theorem ok_law (T:Txt K mg) {f:Addr} {fd:FuncData} (F:Fun K "law" "law" (top 36) f fd):Fn3 P w K mg base 12 f fd ["_law_script"] qJn:=by
 have S:FnScope uJ5 ["_law_script"] (jJ0 (top 36)):=⟨rfl,rfl,rfl,by decide +kernel,rfl,by decide +kernel,by decide +kernel⟩
 refine fn3 F S fun cdv A outer s H E hr=>⟨qJ2,?_,qU7⟩
 have hu:=hu_of hr
 have nd:=S.nd
 exact (jJd (jJw (i:=1) nd (jJ8 (kZa T) (hr.mono (by decide)) (jJa jJl (jJa jJl jJf))))
   (jJd (jJw (i:=2) nd (jK7 jJf))
   (jJd (jQn lKb rfl (jQu (jJ8 (kVj T) (hr.mono (by decide)) (jJa (jJb 0) (jJa jJl jJf)))) (jJm (i:=3) nd) (jJd (jJw (i:=4) nd (e_ix (ix_F hu) (jJb 1) (jJ8 (kQq T) (hr.mono (by decide)) (jJa (jJb 3) (jJa (jJq jXx (by rfl) T.n_len lKz (jJa (jJb 1) jJf)) jJf))) (fun _ _=>rfl)))
   (jJd (kKl (jJb 4) (jZz rfl (jJ6 (jJm (i:=5) nd) (jJ6 (jJm (i:=6) nd) jVa))))
   (jJd (s_if (jQb (o_inD hr.units) (jJb 4) (jJb 2) (jJu _)) (jJh s_cont) jKj)
   (jJd (jQw (e_bm lK9 lVf lVg jKx (jJb 2) (jJa (jJb 4) jJf)))
   (jJd (jJw (i:=7) nd (jJ8 (jXm T) (hr.mono (by decide)) (jJa (jJb 5) (jJa (jJb 6) jJf))))
   (jJd (s_if (PW3.pt (w_or (kKe (kQd (jJ8 (kVi T) (hr.mono (by decide)) (jJa (jJb 7) (jJa (jJb 6) jJf))))) (qYo (jQb (o_neA hr.units) (jJ8 (jXm T) (hr.mono (by decide)) (jJa (jJb 5) (jJa (jJb 6) jJf))) (jJb 7) (jJu _))))) (jJh (jJz e_bl)) jKj)
   (jJd (jQn lKb rfl (jXt rfl T.n_range (jJa jJl (jJa (e_op qKt (jJb 5) jJl) jJf))) (jJm (i:=8) nd) (jJh (jQn lKb rfl (jQu (jJ8 (qKm T) (hr.mono (by decide)) (jJa (jJb 8) (jJa (jJb 6) jJf)))) (jJm (i:=9) nd) (jJh (s_if (jQb o_lt (jJq jXx (by rfl) T.n_len lKz (jJa (jJ8 (jZp T) (hr.mono (by decide)) (jJa (jJb 9) (jJa jJl (jJa (jJb 7) jJf)))) jJf)) (jJb 8) (jJu _)) (jJh (jJz e_bl)) jKj)))))
   (jJd (s_if (jQb kXu (jJ8 (kQp T) (hr.mono (by decide)) (jJa (jJb 5) (jJa (jJb 6) (jJa (jJb 7) jJf)))) jZ3 (jJu _)) (jJh (jJz e_bl)) jKj)
   (jJh (s_if (PW3.pt (w_and (jQb o_lt (jJq jXx (by rfl) T.n_len lKz (jJa (jJb 7) jJf)) jJl (jJu _)) (w_and1 (jQb kXu (jJ8 (kQp T) (hr.mono (by decide)) (jJa (jJb 5) (jJa (jJb 6) (jJa (e_op qKt (jJb 7) (jVc (jJa (jJ8 (kQq T) (hr.mono (by decide)) (jJa (jJb 3) (jJa (jJb 6) jJf))) jJf))) jJf)))) jZ3 (jJu _))))) (jJh (jJz e_bl)) jKj)))))))))))
   (jJh (jJz e_bl)))))
def qYv (K:PySem.W.Frag):Sp:=dn K 1 qJn
theorem fn_at {K:PySem.W.Frag} {h:Heap} {mg:Str->Option Value} {x:Str} {i:Nat} {f:Addr} {oc:Value} {od an:Option Addr} {osl:Array (Option Value)} {kV doc pm cdv ct:Value} (X:K.In h) (G:h.Ns mainGlobals mg) (a:PySem.W.nsIn K mainGlobals x=some (some (.ref f)))
  (l:K.lookup f=some ⟨oc,od,.func (PySem.W.fnOf x x (jV8 (top i)) (jQ1 (top i)) (jJ0 (top i)) .none kV doc pm an cdv ct),osl⟩) (c:PySem.W.codeIn K cdv x=true) (k:PySem.W.keepIn K (.ref f)=true):FnAt K mg x i:=⟨f,_,PySem.W.mg_of X G a,fun_mk l c k⟩
theorem all_mk {l:PySem.W.OpenLaw} {w:World} {K:PySem.W.Frag} {mg:Str->Option Value} {fa:Addr} (hfa:mg "law"=some (.ref fa)) (T:Txt K mg):
  ∃fd:FuncData,(∀(s:Shared) (v:Value),BindsTo s fd ⟨[v],[]⟩ [("_law_script",v)])/\∀base:Heap,K.In base->base.Ns mainGlobals mg->FnOk l.prog w K mg base CX0 12 fa fd ["_law_script"] (qYv K):=by
 obtain⟨f,fd,a,F⟩:=T.f_law
 cases hfa.symm.trans a
 refine⟨fd,fun s v=> ?_,fun base _ _=>ok_law T F⟩
 obtain⟨_,_,kV,doc,pm,an,cdv,ct,_,e,_⟩:=F.ex
 subst e
 exact .of_eq rfl
theorem fr_of {K:PySem.W.Frag} {H:Hp} {a:Addr} {xs:List V} (hO:Only H) (hS:SqL K H a xs):FrL K H a xs:=by
 rcases hS with h | h
 ·rcases h with h | ⟨ob,h⟩
  ·rcases hO a with z | ⟨o,ys,z⟩
   ·rw[z] at h;cases h
   ·rw[z] at h;cases h
  ·exact .inl ⟨ob,h⟩
 ·exact .inr h
theorem jKu {K:PySem.W.Frag} {H:Hp}:∀ns:List Int,Reps K H (jQf ns) (ns.map V.int)
 | []=>rfl
 | n::ns=>⟨_,_,rfl,rfl,jKu ns⟩
theorem walk {l:PySem.W.OpenLaw} {q:Program} {loose:List Str} {XP:(Str->Option Value)->Heap->Prop} {YP:World->Heap->Prop} {d:DefRec} {K:Params->PySem.W.Frag} (hn:l.most=some 63) (hdf:d.params.defaults=[])
  (hY:∀(w:World) (h:Heap),YP w h->(K w.params).In h)
  (F:∀(w:World) (mg:Str->Option Value) (fa:Addr) (h:Heap),(K w.params).In h->h.Ns mainGlobals mg->mg d.name=some (.ref fa)->
   ∃fd:FuncData,(∀(s:Shared) (u:Value),BindsTo s fd ⟨[u],[]⟩ [("_law_script",u)])/\∀base:Heap,(K w.params).In base->base.Ns mainGlobals mg->FnOk l.prog w (K w.params) mg base CX0 12 fa fd ["_law_script"] (qYv (K w.params))):
  PySem.W.WalkO q loose XP YP l.row.toRowW d [] (fun f vs=>PySem.call f vs):=
 L2.walk_of (n:=63) (k:=12) (x:="_law_script") (CX:=fun _=>CX0) (sp:=fun w=>qYv (K w.params)) hn (by decide) hdf ⟨rfl,rfl,by decide,by decide⟩ hY F
  (fun _ _ a ns hl hO hS=>⟨rfl,[.scr (jQf ns)],fun _=>none,⟨_,_,rfl,⟨a,_,rfl,fr_of hO hS,jKu ns⟩,rfl⟩,(fun _ _ h=>nomatch h),ns,rfl,hl,fun G' v H' _ _ r=>r⟩) fun _ _ _ _ _ z=>z
end W
def PySem.W.Fast.tw348385134633574982 : Unit := ()
def PySem.W.Fast.tw5792116960559509388 : Unit := ()
def PySem.W.Fast.tw17124306626247521112 : Unit := ()
def PySem.W.Fast.tw18362468281177027903 : Unit := ()
def PySem.W.Fast.tw3823063738005186339 : Unit := ()
def PySem.W.Fast.tw8794977849171359271 : Unit := ()
def PySem.W.Fast.tw434249721286500646 : Unit := ()
def PySem.W.Fast.tw2843588463884144894 : Unit := ()
def PySem.W.Fast.tw8159638443348550222 : Unit := ()
def PySem.W.Fast.tw11501174290542490625 : Unit := ()
def PySem.W.Fast.tw5045050876423754167 : Unit := ()
def PySem.W.Fast.tw6208547323204912424 : Unit := ()
def PySem.W.Fast.tw11039632063890429185 : Unit := ()
def PySem.W.Fast.tw14393525398965967359 : Unit := ()
def PySem.W.Fast.tw924408840324496059 : Unit := ()
def PySem.W.Fast.tw15672265282657466182 : Unit := ()
def PySem.W.Fast.tw6171490647315637609 : Unit := ()
def PySem.W.Fast.tw4068940571331649412 : Unit := ()
def PySem.W.Fast.tw18076449958786204553 : Unit := ()
def PySem.W.Fast.tw4093002794276972459 : Unit := ()
def PySem.W.Fast.tw17719045432419851190 : Unit := ()
def PySem.W.Fast.tw16543127570167571198 : Unit := ()
def PySem.W.Fast.tw7926595100910683287 : Unit := ()
def PySem.W.Fast.tw7607679437660121653 : Unit := ()
def PySem.W.Fast.tw11808850452030300251 : Unit := ()
def PySem.W.Fast.tw9815534767256629893 : Unit := ()
def PySem.W.Fast.tw3522391337332767209 : Unit := ()
def PySem.W.Fast.tw10387513885454196690 : Unit := ()
def PySem.W.Fast.tw16060098008617941544 : Unit := ()
def PySem.W.Fast.tw14261041284117993195 : Unit := ()
def PySem.W.Fast.tw1226317733193339730 : Unit := ()
def PySem.W.Fast.tw3971834399158462591 : Unit := ()
def PySem.W.Fast.tw12105756026067527793 : Unit := ()
def PySem.W.Fast.tw122586726391609091 : Unit := ()
def PySem.W.Fast.tw3519636584553021836 : Unit := ()
def PySem.W.Fast.tw6368309356752224946 : Unit := ()
def PySem.W.Fast.tw610055332554407608 : Unit := ()
def PySem.W.Fast.tw6817352448983618100 : Unit := ()
def PySem.W.Fast.tw14032677282644359450 : Unit := ()
def PySem.W.Fast.tw10775715169659975148 : Unit := ()
def PySem.W.Fast.tw7510478658438600395 : Unit := ()
def PySem.W.Fast.tw17334360817244301723 : Unit := ()
def PySem.W.Fast.tw14877238799862849108 : Unit := ()
def PySem.W.Fast.tw11844671328386224202 : Unit := ()
def PySem.W.Fast.tw2495058080578745644 : Unit := ()
def PySem.W.Fast.tw905062222615584398 : Unit := ()
def PySem.W.Fast.tw8460073676666995388 : Unit := ()
def PySem.W.Fast.tw5999167148758789334 : Unit := ()
def PySem.W.Fast.tw4234478404382499472 : Unit := ()
def PySem.W.Fast.tw10465151322708035514 : Unit := ()
def PySem.W.Fast.tw10563605321858487528 : Unit := ()
def PySem.W.Fast.tw4964693378876141783 : Unit := ()
def PySem.W.Fast.tw7154195474230587518 : Unit := ()
def PySem.W.Fast.tw3318278513056526530 : Unit := ()
def PySem.W.Fast.tw5768944496812013988 : Unit := ()
def PySem.W.Fast.tw1249038100321067535 : Unit := ()
def PySem.W.Fast.tw18411600171250616164 : Unit := ()
def PySem.W.Fast.tw114474664186895095 : Unit := ()
def PySem.W.Fast.tw8270101555197880771 : Unit := ()
def PySem.W.Fast.tw12874480190539206454 : Unit := ()
def PySem.W.Fast.tw7291522237377989036 : Unit := ()
def PySem.W.Fast.tw13081659111450017674 : Unit := ()
def PySem.W.Fast.tw3895327168177046416 : Unit := ()
def PySem.W.Fast.tw12563718532807796081 : Unit := ()
def PySem.W.Fast.tw4876215412397731225 : Unit := ()
def PySem.W.Fast.tw12983224376066886572 : Unit := ()
def PySem.W.Fast.tw1842818322407986742 : Unit := ()
def PySem.W.Fast.tw13537356490553050161 : Unit := ()
def PySem.W.Fast.tw8934013226480243031 : Unit := ()
def PySem.W.Fast.tw11902309638880390332 : Unit := ()
def PySem.W.Fast.tw17129175730439821159 : Unit := ()
def PySem.W.Fast.tw9662132450687392975 : Unit := ()
def PySem.W.Fast.tw4994650635268471745 : Unit := ()
def PySem.W.Fast.tw2048902721160957473 : Unit := ()
def PySem.W.Fast.tw11349728279620068234 : Unit := ()
def PySem.W.Fast.tw11477932343721827790 : Unit := ()
def PySem.W.Fast.tw17492479757306977450 : Unit := ()
def PySem.W.Fast.tw8665501228128193483 : Unit := ()
def PySem.W.Fast.tw13700022993070816287 : Unit := ()
def PySem.W.Fast.tw11125449852681360627 : Unit := ()
def PySem.W.Fast.tw7549815152215933474 : Unit := ()
def PySem.W.Fast.tw10996678685754341444 : Unit := ()
def PySem.W.Fast.tw17028203652068490330 : Unit := ()
def PySem.W.Fast.tw8248754705558123677 : Unit := ()
def PySem.W.Fast.tw2396719865520099517 : Unit := ()
def PySem.W.Fast.tw4331835300297838597 : Unit := ()
def PySem.W.Fast.tw9075657218438733745 : Unit := ()
def PySem.W.Fast.tw10457031101434167085 : Unit := ()
def PySem.W.Fast.tw2860413989352117770 : Unit := ()
open PySem PySem.W PyProof.Rows
set_option maxRecDepth 100000 in
set_option maxHeartbeats 0 in
theorem PySem.Challenge.cw_stonewalker_k45_walks_that_see_all_holds : PySem.Challenge.rw_stonewalker_k45_walks_that_see_all.Holds := by
 w_on;o_law;k_head;(case hw=>w_witness2)
 k_fill
 refine W.walk (l:=PySem.Challenge.rw_stonewalker_k45_walks_that_see_all) rfl rfl (fun w h Y=>PySem.W.kIn_of Y) ?F
 case F=>
  intro w mg fa h KX G hmg
  refine W.all_mk hmg ?T
  constructor
  iterate 16 (refine PySem.W.mg_none_of KX G ?_;k_is)
  iterate 32 (refine' W.fn_at KX G ?a ?l ?c ?k;(case a=>k_is);(case l=>k_is);(case c=>k_is);(case k=>k_is))
