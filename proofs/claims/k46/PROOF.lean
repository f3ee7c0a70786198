
import PyProof.Rows.All
import Wide.All
import OpenK.AllK
import Wide.FinOn
import Lean
import PyProof.EqAt
import PyProof.EqKinds
import PyProof.TupleCall
import PySem.Challenge.RW_stonewalker_k46_the_least_walk
set_option linter.all false
noncomputable section
def lJa:=@PySem.wpAny_bind
def lJb:=@if_neg
def lJc:=@if_pos
def lJd:=@PySem.wpAny_pure
def lJe:=@PyProof.Rows.wpS_bind
def lJf:=@List.length_map
def lJg:=@Nat.le_refl
def lJh:=@PyProof.Rows.wpS_pure
def lJi:=@PySem.Heap.lt_size
def lJj:=@List.mem_map
def lJk:=@List.mem_cons
def lJl:=@PySem.Heap.get?_push_of_some
def lJm:=@Nat.ne_of_lt
def lJn:=@List.append_assoc
def lJo:=@List.map_cons
def lJp:=@List.getElem?_eq_getElem
def lJq:=@List.getElem?_eq_some_iff
def lJr:=@List.mem_append
def lJs:=@List.mem_singleton
def lJt:=@List.mem_range
def lJu:=@List.size_toArray
def lJv:=@Bool.false_ne_true
def lJw:=@decide_eq_false
def lJx:=@List.mem_of_getElem?
def lJy:=@List.mem_append_right
def lJz:=@List.getElem?_map
def lJ0:=@Option.some.inj
def lJ1:=@List.mem_cons_self
def lJ2:=@List.mem_cons_of_mem
def lJ3:=@PySem.mem_of_lookup
def lJ4:=@List.map_map
def lJ5:=@decide_eq_true
def lJ6:=@Nat.zero_le
def lJ7:=@Nat.lt_of_lt_of_le
def lJ8:=@PySem.Heap.get?_push_size
def lJ9:=@List.length_cons
def lKa:=@Array.getElem?_toList
def lKb:=@List.length_append
def lKc:=@List.not_mem_nil
def lKd:=@Nat.le_trans
def lKe:=@List.mem_append_left
def lKf:=@Array.length_toList
def lKg:=@List.lookup_cons
def lKh:=@List.pairwise_append
def lKi:=@List.length_range
def lKj:=@if_false
def lKk:=@List.all_eq_true
def lKl:=@if_true
def lKm:=@PyProof.Rows.wpS_modify
def lKn:=@Bool.false_eq_true
def lKo:=@congrArg
def lKp:=@PyProof.Rows.wpS_mono
def lKq:=@PyProof.Rows.wpS_forRange
def lKr:=@List.map_append
def lKs:=@PySem.sizeLine_eq
def lKt:=@or_false
def lKu:=@List.nodup_cons
def lKv:=@List.any_cons
def lKw:=@List.getElem?_of_mem
def lKx:=@List.take_append_drop
def lKy:=@PySem.wpAny_holding
def lKz:=@List.append_nil
def lK0:=@Nat.ne_of_gt
def lK1:=@List.length_take
def lK2:=@Bool.and_eq_true
def lK3:=@List.take_succ
def lK4:=@PySem.PassesOwn.never
def lK5:=@PySem.boot_len
def lK6:=@PySem.wpAny_rule
def lK7:=@List.getElem?_eq_none
def lK8:=@List.getElem?_append_right
def lK9:=@List.getElem?_append_left
def lQa:=@List.length_nil
def lQb:=@Array.getElem?_eq_getElem
def lQc:=@List.find?_cons
def lQd:=@List.take_of_length_le
def lQe:=@Nat.lt_or_eq_of_le
def lQf:=@PySem.wpAny_mono
def lQg:=@decide_eq_true_eq
def lQh:=@PyProof.Rows.wpS_get
def lQi:=@Option.map_some
def lQj:=@Array.toList_append
def lQk:=@List.mem_of_mem_take
def lQl:=@PySem.wpAny_newObj_type
def lQm:=@PySem.codeAny_builtin
def lQn:=@Nat.lt_irrefl
def lQo:=@List.take_length
def lQp:=@Prod.mk.inj
def lQq:=@PySem.Around.under_plainId
def lQr:=@PySem.F.plainAttrs_list
def lQs:=@PySem.wpAny_call_entry
def lQt:=@PySem.plainId_quiet
def lQu:=@List.take_sublist
def lQv:=@List.all_cons
def lQw:=@Nat.lt_trans
def lQx:=@List.length_eq_zero_iff
def lQy:=@PySem.Heap.size_push
def lQz:=@List.getElem?_take
def lQ0:=@List.take_append_of_le_length
def lQ1:=@PySem.Around.in1_units
def lQ2:=@PySem.Paired.length
def lQ3:=@Nat.le_of_lt
def lQ4:=@List.foldl_cons
def lQ5:=@Nat.not_lt_zero
def lQ6:=@List.drop_sublist
def lQ7:=@List.any_eq_true
def lQ8:=@List.foldl_append
def lQ9:=@List.mem_flatMap
def lVa:=@PySem.wpAny_field
def lVb:=@PyProof.Rows.reverseSlice'_eq
def lVc:=@Classical.byContradiction
def lVd:=@List.filterMap_cons
def lVe:=@Option.isSome_iff_exists
def lVf:=@Option.map_eq_some_iff
def lVg:=@PyProof.Rows.callWith_type1
def lVh:=@Nat.zero_add
def lVi:=@List.mem_of_mem_drop
def lVj:=@Nat.le_of_lt_succ
def lVk:=@List.getElem?_range
def lVl:=@List.find?_eq_none
def lVm:=@List.drop_eq_getElem_cons
def lVn:=@List.drop_of_length_le
def lVo:=@List.mem_reverse
def lVp:=@PySem.F.called_set
def lVq:=@List.map_congr_left
def lVr:=@PySem.codeAny_mono
def lVs:=@PySem.wpAny_typeOf
def lVt:=@PySem.wpAny_setField_rec
def lVu:=@List.ext_getElem?
def lVv:=@List.mem_filter
def lVw:=@List.length_drop
def lVx:=@Nat.succ_mul
def lVy:=@Nat.succ_pos
def lVz:=@Nat.pow_succ
def lV0:=@Int.emod_nonneg
def lV1:=@Int.emod_lt_of_pos
def lV2:=@Array.getElem?_eq_none
def lV3:=@List.Perm.append_left
def lV4:=@List.flatMap_append
def lV5:=@PySem.wpAny_seqItems
def lV6:=@PySem.wpAny_loadPart'
def lV7:=@PySem.call_meets
def lV8:=@PySem.wpAny_passesOwn
def lV9:=@decide_eq_false_iff_not
def lXa:=@Nat.lt_or_ge
def lXb:=@PyProof.Rows.slot_tuple_getitem
def lXc:=@List.replicate_succ
def lXd:=@List.nil_append
def lXe:=@List.getElem?_zip_eq_some
def lXf:=@List.zip_cons_cons
def lXg:=@Int.toNat_natCast
def lXh:=@List.lookup_append
def lXi:=@List.getElem_of_mem
def lXj:=@Array.getD_eq_getD_getElem?
def lXk:=@List.nodup_range
def lXl:=@List.range_succ
def lXm:=@List.pairwise_map
def lXn:=@List.getElem_mem
def lXo:=@List.cons.injEq
def lXp:=@List.map_take
def lXq:=@List.drop_zero
def lXr:=@List.getD_eq_getElem?_getD
def lXs:=@List.length_filter_le
def lXt:=@List.exists_cons_of_length_eq_add_one
def lXu:=@Nat.succ.inj
def lXv:=@PySem.wpAny_truthy_bool
def lXw:=@PySem.wpAny_callSpecial?_slot
def lXx:=@PySem.wpAny_Call_Name_kw
def lXy:=@PySem.wpAny_pyIter_list
def lXz:=@List.getElem?_set_self
def lX0:=@PySem.Heap.get?_update_self
def lX1:=@List.flatten_cons
def lX2:=@Nat.succ_le_succ
def lX3:=@List.getElem?_zipWith
def lX4:=@PySem.Heap.SameBut.update
def lX5:=@List.forIn_nil
def lX6:=@Nat.le_of_succ_le
def lX7:=@List.filterMap_cons_some
def lX8:=@List.length_zip
def lX9:=@List.Perm.append_right
def lYa:=@List.getElem?_drop
def lYb:=@PySem.Heap.get?_update_ne
def lYc:=@List.eraseIdx_eq_take_drop_succ
def lYd:=@List.find?_append
def lYe:=@Nat.mul_le_mul
def lYf:=@PySem.F.slot_list_append
def lYg:=@PySem.F.type_list_append
def lYh:=@of_decide_eq_true
def lYi:=@PySem.wpAny_askSetting
def lYj:=@List.getElem?_set_ne
def lYk:=@List.mem_filterMap
def lYl:=@PySem.Heap.get?_update_other
def lYm:=@Array.getElem?_eq_some_iff
def lYn:=@Int.eq_ofNat_of_zero_le
def lYo:=@Nat.lt_trichotomy
def lYp:=@List.getElem_take
def lYq:=@Array.getElem?_setIfInBounds
def lYr:=@Option.some.injEq
def lYs:=@Bool.not_eq_true'
def lYt:=@List.perm_append_comm
def lYu:=@Nat.add_sub_cancel
def lYv:=@Nat.add_sub_cancel_left
def lYw:=@PyProof.Rows.F.plain_set_update_loop
def lYx:=@List.getElem_range
def lYy:=@List.flatMap_cons
def lYz:=@Nat.pow_le_pow_right
def lY0:=@PySem.F.slot_list_extend
def lY1:=@PySem.F.type_list_extend
def lY2:=@List.getElem?_take_of_lt
def lY3:=@PySem.F.args_tuple_add_2
def lY4:=@List.pairwise_iff_getElem
def lY5:=@List.filterMap_cons_none
def lY6:=@Array.size_setIfInBounds
def lY7:=@PySem.F.slot_list_getattribute
def lY8:=@List.drop_append_of_le_length
def lY9:=@List.take_length_add_append
def lZa:=@PySem.wpAny_comprehension_free
local macro_rules
 | `(tactic| omega) => `(tactic| lia)
set_option Elab.async false
set_option linter.all false
set_option maxRecDepth 100000
namespace L2
open PySem PySem.Spec PyProof.Rows
abbrev Key:=Sum Int Str
def jXm:Key->Value->Bool
 | .inl k,v=>Value.isInt k v
 | .inr x,v=>Value.isStrOf x v
def keyH (w:World):Key->Int
 | .inl k=>hashInt k
 | .inr x=>hashStr w x
theorem jJl:∀ {k:Key} {v:Value},jXm k v=true->(∃i t,k=Sum.inl i/\v=Value.int i t)\/(∃x t,k=Sum.inr x/\v=Value.str x t)
 | .inl i,v,h=>by
  obtain⟨t,e⟩:=Value.isInt_shape (k:=i) (v:=v) h
  exact .inl ⟨i,t,rfl,e⟩
 | .inr x,v,h=>by
  obtain⟨t,e⟩:=Value.isStrOf_shape (x:=x) (v:=v) h
  exact .inr ⟨x,t,rfl,e⟩
theorem kZv (i:Int) (t:Tok):jXm (.inl i) (.int i t)=true:=by simp[jXm,Value.isInt]
theorem kZu (x:Str) (t:Tok):jXm (.inr x) (.str x t)=true:=by simp[jXm,Value.isStrOf]
theorem key_ll (a b:Int):decide ((Sum.inl a:Key)=Sum.inl b)=(a == b):=by
 by_cases e:a=b
 ·subst e;simp
 ·have h:¬ (Sum.inl a:Key)=Sum.inl b:=fun q=>e (Sum.inl.inj q)
  rw[lJw h]
  exact (beq_eq_false_iff_ne.mpr e).symm
theorem key_rr (a b:Str):decide ((Sum.inr a:Key)=Sum.inr b)=decide (a=b):=by
 by_cases e:a=b
 ·subst e;simp
 ·have h:¬ (Sum.inr a:Key)=Sum.inr b:=fun q=>e (Sum.inr.inj q)
  rw[lJw h,lJw e]
theorem key_lr (a:Int) (b:Str):decide ((Sum.inl a:Key)=Sum.inr b)=false:=lJw (fun q=>nomatch q)
theorem key_rl (a:Str) (b:Int):decide ((Sum.inr a:Key)=Sum.inl b)=false:=lJw (fun q=>nomatch q)
noncomputable def jJ7 (prog:Program) (w:World):PySem.KeyKind prog w Key where
 is:=jXm
 hash:=keyH w
 inj:=fun v a b ha hb=>by
  rcases jJl ha with ⟨i,t,rfl,rfl⟩ | ⟨x,t,rfl,rfl⟩
  ·rcases jJl hb with ⟨j,u,rfl,e⟩ | ⟨y,u,rfl,e⟩
   ·injection e with e1 _;rw[e1]
   ·exact nomatch e
  ·rcases jJl hb with ⟨j,u,rfl,e⟩ | ⟨y,u,rfl,e⟩
   ·exact nomatch e
   ·injection e with e1 _;rw[e1]
 byValue:=fun k v h=>by
  rcases jJl h with ⟨i,t,rfl,rfl⟩ | ⟨x,t,rfl,rfl⟩<;>rfl
 pyHash:=fun hv h=>by
  rcases jJl hv with ⟨i,t,rfl,rfl⟩ | ⟨x,t,rfl,rfl⟩
  ·exact wpAny_pyHash_int h
  ·exact wpAny_pyHash_str h
 eqBool:=fun hu hv h=>by
  rcases jJl hu with ⟨i,t,rfl,rfl⟩ | ⟨x,t,rfl,rfl⟩
  ·rcases jJl hv with ⟨j,u,rfl,rfl⟩ | ⟨y,u,rfl,rfl⟩
   ·rw[key_ll] at h;exact wpAny_eqBool_int h
   ·rw[key_lr] at h;exact SeqAt.EqAt.int_str i t y u _ _ _ _ h
  ·rcases jJl hv with ⟨j,u,rfl,rfl⟩ | ⟨y,u,rfl,rfl⟩
   ·rw[key_rl] at h;exact SeqAt.EqAt.str_int x t j u _ _ _ _ h
   ·rw[key_rr] at h;exact wpAny_eqBool_str h
 «strs» :=fun k x t v h=>by
  rcases jJl h with ⟨i,u,rfl,e⟩ | ⟨y,u,rfl,e⟩
  ·exact nomatch e
  ·injection e with e1 _
   subst e1
   cases v<;>rfl
theorem jY7 (prog:Program) (w:World) (i:Int) (t:Tok):(jJ7 prog w).is (.inl i) (.int i t)=true:=kZv i t
theorem kUd (prog:Program) (w:World) (x:Str) (t:Tok):(jJ7 prog w).is (.inr x) (.str x t)=true:=kZu x t
end L2
set_option synthInstance.maxSize 1000
namespace L2
open PySem PySem.Spec PyProof.Rows
structure KeyV (prog:Program) (w:World) (K:Type) [DecidableEq K] (c:Nat) where
 is:Heap->K->Value->Prop
 hash:K->Int
 draws:K->Nat
 inj:∀ {h:Heap} {v:Value} {x y:K},is h x v->is h y v->x=y
 keeps:∀ {h h':Heap} {k:K} {v:Value} {d:Addr} {o:Obj} {es:Array DictEntry} {ep:Nat},is h k v->h.get? d=some o->o.data= .dict es ep->Heap.SameBut d h h'->is h' k v
 hashed:∀ {A:Around} {E:Value->Shared->Prop} {s:Shared} {k:K} {v:Value} {Q:Int->Shared->Prop},A.units+c<cLine->is s.heap k v->Q (hash k) {s with toks:=s.toks+draws k}->wpAny (model prog w) A (PySem.pyHash v) Q E s
 eqAt:∀ {A:Around} {s:Shared} {x y:K} {u v:Value},A.units+c<cLine->is s.heap x u->is s.heap y v->SeqAt.EqAt A s u v (decide (x=y))
 quiet:∀ {A:Around} {E:Value->Shared->Prop} {s:Shared} {k:K} {v:Value} {Q:Bool->Shared->Prop} (n:Nat),c<=n->is s.heap k v->Q true s->wpAny (model prog w) A (eqIsQuiet n v) Q E s
noncomputable def kJf (prog:Program) (w:World):KeyV prog w Key 0 where
 is:=fun _ k v=>jXm k v=true
 hash:=keyH w
 draws:=fun _=>1
 inj:=fun hx hy=>(jJ7 prog w).inj _ _ _ hx hy
 keeps:=fun x _ _ _=>x
 hashed:=fun _ hv h=>(jJ7 prog w).pyHash hv h
 eqAt:=fun _ hx hy prog' w' _ _ h=>(jJ7 prog' w').eqBool hx hy h
 quiet:=fun n _ hv h=>by rw[eqIsQuiet_byValue n ((jJ7 prog w).byValue _ _ hv)];exact lJd h
section
variable {prog:Program} {w:World} {K:Type} [DecidableEq K] {c:Nat}
inductive ItemsV (V:KeyV prog w K c) (h:Heap):List K->List Value->Prop
 | nil:ItemsV V h [] []
 | cons {k:K} {v:Value} {ks:List K} {vs:List Value}:V.is h k v->ItemsV V h ks vs->ItemsV V h (k::ks) (v::vs)
theorem ItemsV.inj {V:KeyV prog w K c} {h:Heap} {x:List K} {vs:List Value} (hx:ItemsV V h x vs):∀ {y:List K},ItemsV V h y vs->x=y:=by
 induction hx with
 | nil=>intro y hy;cases hy;rfl
 | cons a _ ih=>intro y hy;cases hy with | cons b t=>rw[V.inj a b,ih t]
theorem ItemsV.length {V:KeyV prog w K c} {h:Heap} {x:List K} {vs:List Value} (hx:ItemsV V h x vs):x.length=vs.length:=by
 induction hx with
 | nil=>rfl
 | cons _ _ ih=>simp[ih]
theorem ItemsV.get {V:KeyV prog w K c} {h:Heap} {x:List K} {vs:List Value} (hx:ItemsV V h x vs):∀ {j:Nat} {v:Value},vs[j]? =some v->∃k,x[j]? =some k/\V.is h k v:=by
 induction hx with
 | nil=>intro j v e;simp at e
 | cons a _ ih=>
  intro j v e
  cases j with
  | zero=>simp at e;subst e;exact⟨_,rfl,a⟩
  | succ j=>obtain⟨k,h1,h2⟩:=ih (j:=j) (v:=v) (by simpa using e);exact⟨k,by simpa using h1,h2⟩
theorem ItemsV.keeps {V:KeyV prog w K c} {h h':Heap} {x:List K} {vs:List Value} {d:Addr} {o:Obj} {es:Array DictEntry} {ep:Nat} (hx:ItemsV V h x vs) (ho:h.get? d=some o) (hd:o.data= .dict es ep) (hs:Heap.SameBut d h h'):ItemsV V h' x vs:=by
 induction hx with
 | nil=>exact .nil
 | cons a _ ih=>exact .cons (V.keeps a ho hd hs) ih
def jZp (V:KeyV prog w K c) (h:Heap) (ks:List K) (v:Value):Prop:=∃(a:Addr) (o:Obj) (items:Array Value) (n:Nat),v= .ref a/\h.get? a=some o/\o.cls= .type "tuple"/\o.data= .seq items n/\ItemsV V h ks items.toList
theorem all_eq:∀(x y:List K),((List.range (min x.length y.length)).all (fun j=>decide (x[j]? =y[j]?))&&x.length == y.length)=decide (x=y):=by
 intro x y
 by_cases e:x=y
 ·subst e;simp
 ·rw[lJw e,Bool.and_eq_false_iff]
  by_cases l:x.length=y.length
  ·left
   rw[List.all_eq_false]
   have:∃j:Nat,x[j]? ≠y[j]? :=by
    apply lVc
    intro q
    exact e (lVu fun j=>lVc fun z=>q ⟨j,z⟩)
   obtain⟨j,hj⟩:=this
   refine⟨j,lJt.mpr ?_,by simpa using hj⟩
   rcases lXa j (min x.length y.length) with z | z
   ·exact z
   ·exact absurd (by rw[lK7 (by omega),lK7 (by omega)]) hj
  ·right;simpa using l
noncomputable def jUn (V:KeyV prog w K c):KeyV prog w (List K) (c+2) where
 is:=jZp V
 hash:=fun ks=>reduceHash (Builtin.Tuple.tupleHashOf (ks.map V.hash))
 draws:=fun ks=>(ks.map V.draws).sum+1
 inj:=by
  rintro h v x y ⟨a,o,items,n,rfl,ho,_,hd,hi⟩ ⟨a',o',items',n',e,ho',_,hd',hi'⟩
  cases e
  rw[ho] at ho';cases ho'
  rw[hd] at hd';cases hd'
  exact hi.inj hi'
 keeps:=by
  rintro h h' k v d o es ep ⟨a,o',items,n,rfl,ho',hc,hd',hi⟩ ho hd hs
  have ne:a≠d:=by
   rintro rfl
   rw[ho] at ho';cases ho'
   rw[hd] at hd';cases hd'
  exact⟨a,o',items,n,rfl,(hs.2 a ne).trans ho',hc,hd',hi.keeps ho hd hs⟩
 hashed:=by
  rintro A E s ks v Q hu ⟨a,o,items,n,rfl,ho,hc,hd,hi⟩ h
  refine PySem.W.pyHash_slot (T:="tuple") ⟨o,ho,hc⟩ F.slot_tuple_hash F.entry_tuple_hash (F.args_tuple_hash_1 _) (beq_builtin_none _) (.inr (by omega)) ?_
  refine (show wpAny _ _ (Builtin.Tuple.tupleItemsOf (.ref a) >>= _) _ _ s from lJa (wpAny_tupleItemsOf ho hd (lJa ?_)))
  rw[<-Array.forIn_toList]
  refine wpAny_forIn_list _ (fun rest (b:Array Int) z=>∃done left,ks=done++left/\ItemsV V s.heap left rest/\b.toList=done.map V.hash/\z={s with toks:=s.toks+(done.map V.draws).sum}) _ ?_ ?_ _ _ ⟨[],ks,rfl,hi,rfl,rfl⟩
  ·rintro x rest b z ⟨done,left,rfl,hl,hb,rfl⟩
   cases hl with
   | @cons k _ ks' _ h1 hl'=>
    refine lJa (V.hashed (by rw[lQ1];omega) h1 ?_)
    first
     | exact lJd ⟨done++[k],ks',by simp,hl',by simp[hb],(by simp[Nat.add_assoc])⟩
     | exact lJa (lJd (lJd ⟨done++[k],ks',by simp,hl',by simp[hb],(by simp[Nat.add_assoc])⟩))
  ·rintro b z ⟨done,left,rfl,hl,hb,rfl⟩
   cases hl
   rw[lKz] at h
   refine (show wpAny _ _ (retInt (Builtin.Tuple.tupleHashOf b.toList)) _ _ _ from ?_)
   rw[hb]
   exact lJa (wpAny_mkInt (lJd ⟨_,_,rfl,by simpa[Nat.add_assoc] using h⟩))
 eqAt:=by
  rintro A s x y u v hu ⟨a,o,items,n,rfl,ho,hc,hd,hi⟩ ⟨a',o',items',n',rfl,ho',hc',hd',hi'⟩
  by_cases e:a=a'
  ·subst e
   rw[ho] at ho';cases ho'
   rw[hd] at hd';cases hd'
   rw[hi.inj hi',lJ5 rfl]
   exact SeqAt.EqAt.same _
  ·have R:=SeqAt.RcAt.tuples (A:=A) (s:=s) (l:=a) (b:=a') (e:=fun j=>decide (x[j]? =y[j]?)) ⟨o,ho,hc,n,hd⟩ ⟨o',ho',hc',n',hd'⟩ (by omega) (fun j j1 j2=> ?_)
   ·have l1:=hi.length
    have l2:=hi'.length
    rw[<-all_eq x y,l1,l2]
    have R':=SeqAt.EqAt.of_refs e R
    simpa using R'
   ·obtain⟨k,h1,h2⟩:=hi.get (j:=j) (v:=items[j]) (by simp[j1])
    obtain⟨k',h1',h2'⟩:=hi'.get (j:=j) (v:=items'[j]) (by simp[j2])
    have:=V.eqAt (A:=A.in1) (s:=s) (by rw[lQ1];omega) h2 h2'
    rw[h1,h1']
    simpa using this
 quiet:=by
  rintro A E s ks v Q n hn ⟨a,o,items,m,rfl,ho,hc,hd,hi⟩ h
  obtain⟨n,rfl⟩:∃nn,n=nn+1:=⟨n-1,by omega⟩
  have hT:s.TypeIs (.ref a) "tuple":=⟨o,ho,hc⟩
  unfold eqIsQuiet;refine lJa (wpAny_specialOf hT F.slot_tuple_eq.lookup ?_)
  refine (show wpAny _ _ (isInstance (.ref a) (.type "tuple") >>= _) _ _ s from lJa (wpAny_isInstance hT isSubtype_tuple_tuple ?_))
  simp only[lKj,Bool.not_true,lKn]
  refine lJa (lV5 ho hd (lJa ?_))
  refine (show wpAny _ _ (forIn items _ _) _ _ s from ?_)
  rw[<-Array.forIn_toList]
  refine wpAny_forIn_list _ (fun rest r z=>r.1=none/\z=s/\∃left,ItemsV V s.heap left rest) _ ?_ ?_ _ _ ⟨rfl,rfl,ks,hi⟩
  ·rintro x rest r z ⟨hr,rfl,left,hl⟩
   cases hl with
   | cons h1 hl'=>
    refine lJa (V.quiet n (by omega) h1 ?_)
    simp only[lKj,Bool.not_true,lKn]
    exact lJd ⟨rfl,rfl,_,hl'⟩
  ·rintro⟨r1,r2⟩ z ⟨hr,rfl,_⟩
   simp only at hr;subst hr
   exact lJd h
theorem qYe {α β:Type} [DecidableEq α] [DecidableEq β] (a b:α):decide ((Sum.inl a:α ⊕ β)=Sum.inl b)=decide (a=b):=by
 by_cases e:a=b
 ·simp[e]
 ·rw[lJw e,lJw fun z=>e (Sum.inl.inj z)]
theorem qYd {α β:Type} [DecidableEq α] [DecidableEq β] (a b:β):decide ((Sum.inr a:α ⊕ β)=Sum.inr b)=decide (a=b):=by
 by_cases e:a=b
 ·simp[e]
 ·rw[lJw e,lJw fun z=>e (Sum.inr.inj z)]
noncomputable def qKr (V:KeyV prog w K c):KeyV prog w (Key ⊕ List K) (c+2) where
 is:=fun h k v=>match k with
  | .inl k=>jXm k v=true
  | .inr ks=>jZp V h ks v
 hash:=fun k=>match k with
  | .inl k=>keyH w k
  | .inr ks=>(jUn V).hash ks
 draws:=fun k=>match k with
  | .inl _=>1
  | .inr ks=>(jUn V).draws ks
 inj:=by
  rintro h v (x | x) (y | y) hx hy
  ·rw[(jJ7 prog w).inj _ _ _ hx hy]
  ·obtain⟨a,_,_,_,rfl,_⟩:=hy
   rcases jJl hx with ⟨i,t,_,e⟩ | ⟨i,t,_,e⟩<;>cases e
  ·obtain⟨a,_,_,_,rfl,_⟩:=hx
   rcases jJl hy with ⟨i,t,_,e⟩ | ⟨i,t,_,e⟩<;>cases e
  ·rw[(jUn V).inj hx hy]
 keeps:=by
  rintro h h' (k | k) v d o es ep hx ho hd hs
  ·exact hx
  ·exact (jUn V).keeps hx ho hd hs
 hashed:=by
  rintro A E s (k | k) v Q hu hx h
  ·exact (jJ7 prog w).pyHash hx h
  ·exact (jUn V).hashed hu hx h
 eqAt:=by
  rintro A s (x | x) (y | y) u v hu hx hy
  ·rw[qYe]
   exact (kJf prog w).eqAt (by omega) hx hy
  ·rw[lJw fun z=>nomatch z]
   obtain⟨a,o,items,n,rfl,ho,hc,hd,_⟩:=hy
   rcases jJl hx with ⟨i,t,_,rfl⟩ | ⟨i,t,_,rfl⟩
   ·exact SeqAt.EqAt.int_tuple i t ⟨o,ho,hc,n,hd⟩ (by omega)
   ·exact SeqAt.EqAt.str_tuple i t ⟨o,ho,hc,n,hd⟩ (by omega)
  ·rw[lJw fun z=>nomatch z]
   obtain⟨a,o,items,n,rfl,ho,hc,hd,_⟩:=hx
   rcases jJl hy with ⟨i,t,_,rfl⟩ | ⟨i,t,_,rfl⟩
   ·exact SeqAt.EqAt.tuple_int i t ⟨o,ho,hc,n,hd⟩ (by omega)
   ·exact SeqAt.EqAt.tuple_str i t ⟨o,ho,hc,n,hd⟩ (by omega)
  ·rw[qYd]
   exact (jUn V).eqAt hu hx hy
 quiet:=by
  rintro A E s (k | k) v Q n hn hx h
  ·exact (kJf prog w).quiet n (lJ6 _) hx h
  ·exact (jUn V).quiet n hn hx h
end
abbrev K1:=Key ⊕ List Key
abbrev K2:=Key ⊕ List K1
abbrev TKey:=List K2
def vk1 (prog:Program) (w:World):KeyV prog w K1 2:=qKr (kJf prog w)
def vk2 (prog:Program) (w:World):KeyV prog w K2 4:=qKr (vk1 prog w)
noncomputable def jJm (prog:Program) (w:World):HeapKind prog w TKey where
 is:=fun h ks a=>(jUn (vk2 prog w)).is h ks (.ref a)
 hash:=(jUn (vk2 prog w)).hash
 draws:=(jUn (vk2 prog w)).draws
 room:=fun A=>A.units+6<cLine
 inj:=fun hx hy=>(jUn (vk2 prog w)).inj hx hy
 keeps:=fun x ho hd hs=>(jUn (vk2 prog w)).keeps x ho hd hs
 pyHash:=fun hu hk h=>(jUn (vk2 prog w)).hashed hu hk h
 eqBool:=fun hu hx hy h=>(jUn (vk2 prog w)).eqAt hu hx hy _ _ _ _ h
 quiet:=fun hk h=>(jUn (vk2 prog w)).quiet 8 (by decide) hk h
theorem jKu {prog:Program} {w:World} {A:Around} (hu:A.units+20<cLine):(jJm prog w).room A.in1:=by
 show A.in1.units+6<cLine
 rw[lQ1];omega
inductive V where
 | non | bl (b:Bool) | int (i:Int) | str (x:Str) | byt (b:Array UInt8) | flt (b:UInt64) | ref (a:Addr) | ty (n:String)
 deriving DecidableEq
noncomputable def RelV:V->Value->Prop
 | .non,u=>u=Value.none
 | .bl b,u=>u=Value.bool b
 | .int i,u=>∃t,u=Value.int i t
 | .str x,u=>∃t,u=Value.str x t
 | .byt b,u=>∃t,u=Value.bytes b t
 | .flt b,u=>∃t,u=Value.float b t
 | .ref a,u=>u=Value.ref a
 | .ty n,u=>u=Value.type n
abbrev Vals:List V->List Value->Prop:=Paired RelV
theorem Vals.length {xs:List V} {us:List Value} (r:Vals xs us):xs.length=us.length:=lQ2 r
theorem Vals.get:∀ {xs:List V} {us:List Value} {i:Nat} {x:V},Vals xs us->xs[i]? =some x->∃u,us[i]? =some u/\RelV x u
 | _,_,_,_,.nil,e=>by simp at e
 | _,_,0,_,.cons r _,e=>by simp at e;subst e;exact⟨_,rfl,r⟩
 | _,_,i+1,x,.cons _ t,e=>by
  obtain⟨u,h1,h2⟩:=Vals.get (i:=i) (x:=x) t (by simpa using e)
  exact⟨u,by simpa using h1,h2⟩
theorem Vals.set {x:V} {u:Value} (r:RelV x u):∀ {xs:List V} {us:List Value} (i:Nat),Vals xs us->Vals (xs.set i x) (us.set i u)
 | _,_,_,.nil=> .nil
 | _,_,0,.cons _ t=> .cons r t
 | _,_,i+1,.cons q t=> .cons q (Vals.set r i t)
theorem Vals.append:∀ {xs ys:List V} {us ws:List Value},Vals xs us->Vals ys ws->Vals (xs++ys) (us++ws)
 | _,_,_,_,.nil,s=>s
 | _,_,_,_,.cons r t,s=> .cons r (Vals.append t s)
theorem Vals.take:∀ {xs:List V} {us:List Value} (n:Nat),Vals xs us->Vals (xs.take n) (us.take n)
 | _,_,0,_=> .nil
 | _,_,_+1,.nil=> .nil
 | _,_,n+1,.cons r t=> .cons r (Vals.take n t)
theorem Vals.drop:∀ {xs:List V} {us:List Value} (n:Nat),Vals xs us->Vals (xs.drop n) (us.drop n)
 | _,_,0,r=>r
 | _,_,_+1,.nil=> .nil
 | _,_,n+1,.cons _ t=>Vals.drop n t
def RelO:Option V->Option Value->Prop
 | some v,some u=>RelV v u
 | none,none=>True
 | _,_=>False
def KV {κ:Type}:List (κ×V)->List (κ×Value)->Prop:=Paired fun (p:κ×V) (q:κ×Value)=>p.1=q.1/\RelV p.2 q.2
def kV:Key->V
 | .inl i=> .int i
 | .inr x=> .str x
inductive HO where
  | lst (xs:List V)
  | tup (xs:List V)
  | dK (kvs:List (Key×V)) | dT (kvs:List (TKey×V))
  | set (S:Int->Bool) (n:Nat)
  | ins (C dx:Addr) (fs:List (Str×V))
  | own (x:Addr)
  | xd (fs:List (Str×V))
  | met (f x:Addr)
  | rng (lo hi:Int)
  | frz (o:Obj) (u:HO)
  | tbl (ps:Array Value)
  | ext (φ:Heap->Prop)
abbrev Hp:=Addr->Option HO
def upd (H:Hp) (a:Addr) (o:HO):Hp:=fun b=>if b=a then some o else H b
theorem jJ3 {H:Hp} {a:Addr} {o:HO}:upd H a o a=some o:=by unfold upd;rw[lJc rfl]
theorem jJr {H:Hp} {a b:Addr} {o:HO} (h:b≠a):upd H a o b=H b:=by unfold upd;rw[lJb h]
theorem ne_of {H:Hp} {a b:Addr} {o u:HO} (h:H a=some o) (h':H b=some u) (d:o≠u):a≠b:=by
 intro e;subst e;rw[h] at h';exact d (lJ0 h')
theorem jKy {H:Hp} {a b:Addr} {o:HO} (h:H a=some o) (h':H b=none):a≠b:=by
 intro e;subst e;rw[h] at h';cases h'
def Rk1 (H:Hp) (k:K1) (v:V):Prop:=match k with
 | .inl k=>v=kV k
 | .inr ks=>∃p vs,v= .ref p/\H p=some (.tup vs)/\Paired (fun k v=>v=kV k) ks vs
def Rk2 (H:Hp) (k:K2) (v:V):Prop:=match k with
 | .inl k=>v=kV k
 | .inr ks=>∃p vs,v= .ref p/\H p=some (.tup vs)/\Paired (Rk1 H) ks vs
def TKeyAt (H:Hp) (ks:TKey) (a:Addr):Prop:=∃vs,H a=some (.tup vs)/\Paired (Rk2 H) ks vs
theorem jVn {α β:Type} {F G:α->β->Prop} (f:∀a b,F a b->G a b):∀ {l:List α} {m:List β},Paired F l m->Paired G l m
 | _,_,.nil=> .nil
 | _,_,.cons r t=> .cons (f _ _ r) (jVn f t)
theorem Rk1.mono {H H':Hp} (ht:∀b ys,H b=some (.tup ys)->H' b=some (.tup ys)) (k:K1) (v:V) (r:Rk1 H k v):Rk1 H' k v:=by
 cases k with
 | inl k=>exact r
 | inr ks=>obtain⟨p,vs,e,h,t⟩:=r;exact⟨p,vs,e,ht _ _ h,t⟩
theorem Rk2.mono {H H':Hp} (ht:∀b ys,H b=some (.tup ys)->H' b=some (.tup ys)) (k:K2) (v:V) (r:Rk2 H k v):Rk2 H' k v:=by
 cases k with
 | inl k=>exact r
 | inr ks=>obtain⟨p,vs,e,h,t⟩:=r;exact⟨p,vs,e,ht _ _ h,jVn (Rk1.mono ht) t⟩
theorem TKeyAt.mono {H H':Hp} {ks:TKey} {a:Addr} (r:TKeyAt H ks a) (ht:∀b ys,H b=some (.tup ys)->H' b=some (.tup ys)):TKeyAt H' ks a:=by
 obtain⟨vs,h,t⟩:=r;exact⟨vs,ht _ _ h,jVn (Rk2.mono ht) t⟩
section
variable (P:Program) (w:World)
def TupD (h:Heap) (a:Addr) (items:Array Value):Prop:=∃o,h.get? a=some o/\o.cls= .type "tuple"/\∃n,o.data= .seq items n/\o.dict=none
theorem TupD.is {h:Heap} {a:Addr} {items:Array Value} (x:TupD h a items):IsTup h a items:=let ⟨o,e,c,n,d,_⟩:=x;⟨o,e,c,n,d⟩
theorem TupD.new (h:Heap) (items:Array Value):TupD (h.push {cls:= .type "tuple",data:= .seq items}) h.objs.size items:=⟨_,lJ8 _ rfl,rfl,_,rfl,rfl⟩
noncomputable def ObjOk (H:Hp) (h:Heap) (a:Addr):HO->Prop
 | .lst xs=>xs.length<=sizeLine/\∃(its:List Value) (n:Nat),Vals xs its/\h.get? a=some {cls:= .type "list",data:= .seq its.toArray n}
 | .tup xs=>xs.length<=sizeLine/\∃its:List Value,Vals xs its/\TupD h a its.toArray
 | .dK kvs=>kvs.length<=sizeLine/\(a == sysModules)=false/\∃vs,KV kvs vs/\h.DictOf (jJ7 P w) a vs
 | .dT kvs=>kvs.length<=sizeLine/\(a == sysModules)=false/\∃xs:List (TKey×Addr×Value),
   Paired (fun (p:TKey×V) (q:TKey×Addr×Value)=>p.1=q.1/\TKeyAt H p.1 q.2.1/\RelV p.2 q.2.2) kvs xs/\
   ∃o es ep,h.get? a=some o/\o.ExactDict/\o.data= .dict es ep/\es.toList=xs.map (entryOfKey (jJm P w))/\(xs.map (·.1)).Nodup
 | .set S n=>h.SetOf (intKind P w) a S n
 | .ins C dx fs=>H dx=some (.own a)/\fs.length<=1000/\dx≠a/\h.get? a=some (PySem.W.instObj C dx)/\
   ∃mA,h.Ns1 dx mA/\(∀f,RelO (fs.lookup f) (mA f))/\PySem.Within mA (fs.map (·.1))
 | .own _=>∃o,h.get? a=some o
 | .xd fs=>∃mA,h.Ns1 a mA/\∀f,RelO (fs.lookup f) (mA f)
 | .rng lo hi=>∃t u v,h.get? a=some {cls:= .type "range",data:= .fields #[.int lo t,.int hi u,.int 1 v]}
 | .frz o u=>h.get? a=some o/\ObjOk H h a u
 | .tbl ps=>h.get? a=some {cls:= .none,data:= .fields ps}
 | .met f x=>h.get? a=some (PySem.W.methodObj (.ref f) (.ref x))
 | .ext φ=>φ h/\(∃o,h.get? a=some o)/\∀h1 h2:Heap,φ h1->(∀o,h1.get? a=some o->h2.get? a=some o)->φ h2
def HOk (H:Hp) (h:Heap):Prop:=∀a o,H a=some o->ObjOk P w H h a o
end
section
variable {P:Program} {w:World} {H H':Hp} {h h':Heap} {a:Addr} {o:HO}
theorem ObjOk.lt (x:ObjOk P w H h a o):a<h.objs.size:=by
 cases o with
 | lst xs=>obtain⟨_,_,_,_,e⟩:=x;exact lJi e
 | tup xs=>obtain⟨_,_,_,p⟩:=x;exact p.is.lt
 | dK kvs=>obtain⟨_,_,_,_,o,_,_,e,_⟩:=x;exact lJi e
 | dT kvs=>obtain⟨_,_,_,_,o,_,_,e,_⟩:=x;exact lJi e
 | set S n=>obtain⟨o,_,_,_,e,_⟩:=x;exact lJi e
 | ins C dx fs=>obtain⟨_,_,_,e,_⟩:=x;exact lJi e
 | own y=>obtain⟨_,e⟩:=x;exact lJi e
 | xd fs=>obtain⟨_,⟨_,_,_,e,_⟩,_⟩:=x;exact lJi e
 | rng lo hi=>obtain⟨_,_,_,e⟩:=x;exact lJi e
 | frz ob u=>obtain⟨e,_⟩:=x;exact lJi e
 | tbl ps=>exact lJi (show h.get? a=some _ from x)
 | met f y=>exact lJi (show h.get? a=some _ from x)
 | ext φ=>obtain⟨_,⟨_,e⟩,_⟩:=x;exact lJi e
theorem Paired.mapP {α β:Type} {F G:α->β->Prop}:∀ {l₁:List α} {l₂:List β},Paired F l₁ l₂->(∀a b,F a b->G a b)->Paired G l₁ l₂
 | _,_,.nil,_=> .nil
 | _,_,.cons r t,f=> .cons (f _ _ r) (Paired.mapP t f)
theorem ObjOk.stay (x:ObjOk P w H h a o) (k:∀b u,(b=a\/H b=some (.own a))->h.get? b=some u->h'.get? b=some u)
  (ho:∀b,H b=some (.own a)->H' b=some (.own a)) (ht:∀b xs,H b=some (.tup xs)->H' b=some (.tup xs)):ObjOk P w H' h' a o:=by
 induction o with
 | lst xs=>obtain⟨z,its,n,r,e⟩:=x;exact⟨z,its,n,r,k _ _ (.inl rfl) e⟩
 | tup xs=>obtain⟨z,its,r,ob,e,c⟩:=x;exact⟨z,its,r,ob,k _ _ (.inl rfl) e,c⟩
 | dK kvs=>obtain⟨z,y,vs,r,ob,es,ep,e,c⟩:=x;exact⟨z,y,vs,r,ob,es,ep,k _ _ (.inl rfl) e,c⟩
 | dT kvs=>
  obtain⟨z,y,xs,r,ob,es,ep,e,c⟩:=x
  exact⟨z,y,xs,Paired.mapP r fun p q z=>⟨z.1,z.2.1.mono ht,z.2.2⟩,ob,es,ep,k _ _ (.inl rfl) e,c⟩
 | set S n=>obtain⟨ob,es,ep,t,e,c⟩:=x;exact⟨ob,es,ep,t,k _ _ (.inl rfl) e,c⟩
 | ins C dx fs=>
  obtain⟨d,z,ne,e,mA,⟨od,es,ep,e2,c⟩,r⟩:=x
  exact⟨ho _ d,z,ne,k _ _ (.inl rfl) e,mA,⟨od,es,ep,k _ _ (.inr d) e2,c⟩,r⟩
 | own y=>obtain⟨ob,e⟩:=x;exact⟨ob,k _ _ (.inl rfl) e⟩
 | xd fs=>obtain⟨mA,⟨od,es,ep,e,c⟩,r⟩:=x;exact⟨mA,⟨od,es,ep,k _ _ (.inl rfl) e,c⟩,r⟩
 | rng lo hi=>obtain⟨t,u,v,e⟩:=x;exact⟨t,u,v,k _ _ (.inl rfl) e⟩
 | frz ob u ih=>obtain⟨e,q⟩:=x;exact⟨k _ _ (.inl rfl) e,ih q⟩
 | tbl ps=>
  have e:h.get? a=some {cls:= .none,data:= .fields ps}:=x
  show h'.get? a=some {cls:= .none,data:= .fields ps}
  exact k a _ (.inl rfl) e
 | met f y=>
  have e:h.get? a=some (PySem.W.methodObj (.ref f) (.ref y)):=x
  show h'.get? a=some (PySem.W.methodObj (.ref f) (.ref y))
  exact k a _ (.inl rfl) e
 | ext φ=>obtain⟨p,⟨o,e⟩,st⟩:=x;exact⟨st _ _ p fun o q=>k _ _ (.inl rfl) q,⟨o,k _ _ (.inl rfl) e⟩,st⟩
theorem HOk.lt (x:HOk P w H h) (e:H a=some o):a<h.objs.size:=(x a o e).lt
theorem HOk.fresh (x:HOk P w H h) (e:h.objs.size<=a):H a=none:=by
 cases q:H a with
 | none=>rfl
 | some u=>exact absurd (lJ7 (x.lt q) e) (lQn _)
theorem HOk.kept (x:HOk P w H h) (k:∀b u,h.get? b=some u->h'.get? b=some u):HOk P w H h':=fun a o e=>
 (x a o e).stay (fun b u _ q=>k b u q) (fun _ q=>q) fun _ _ q=>q
theorem HOk.laid (x:HOk P w H h) (k:∀b u,h.get? b=some u->h'.get? b=some u) (hp:h.objs.size<=a) (new:ObjOk P w (upd H a o) h' a o):HOk P w (upd H a o) h':=fun b u e=>by
 have hn:=x.fresh hp
 by_cases hb:b=a
 ·subst hb;rw[jJ3] at e;cases e;exact new
 ·rw[jJr hb] at e
  exact (x b u e).stay (fun c v _ q=>k c v q) (fun c q=>by rw[jJr (jKy q hn)];exact q) fun c xs q=>by rw[jJr (jKy q hn)];exact q
end
def Rd (H:Hp) (a:Addr) (u:HO):Prop:=H a=some u\/∃o,H a=some (.frz o u)
theorem Rd.ok {P:Program} {w:World} {H:Hp} {h:Heap} {a:Addr} {u:HO} (r:Rd H a u) (x:HOk P w H h):ObjOk P w H h a u:=by
 rcases r with r | ⟨o,r⟩
 ·exact x a u r
 ·obtain⟨_,q⟩:=x a _ r
  exact q
def Mut:Option HO->Prop
 | some (.lst _)=>True
 | some (.dK _)=>True
 | some (.dT _)=>True
 | some (.set _ _)=>True
 | some (.ins _ _ _)=>True
 | some (.ext _)=>True
 | _=>False
section
variable {P:Program} {w:World} {H:Hp} {h h':Heap} {x e:Addr} {o':HO}
theorem HOk.write (ok:HOk P w H h) (mu:Mut (H x)) (he:e=x\/H e=some (.own x)) (k:∀b u,b≠e->h.get? b=some u->h'.get? b=some u) (heo:∃u,h'.get? e=some u)
  (new:ObjOk P w (upd H x o') h' x o'):HOk P w (upd H x o') h':=fun b u q=>by
 have nown:∀c y,H c=some (.own y)->c≠x:=fun c y r z=>by subst z;rw[r] at mu;exact mu
 have ntup:∀c xs,H c=some (.tup xs)->c≠x:=fun c xs r z=>by subst z;rw[r] at mu;exact mu
 by_cases hb:b=x
 ·subst hb;rw[jJ3] at q;cases q;exact new
 ·rw[jJr hb] at q
  by_cases hbe:b=e
  ·have q':H b=some (.own x):=by
    rcases he with z | z
    ·exact absurd (hbe.trans z) hb
    ·rw[hbe];exact z
   rw[q] at q';cases q'
   obtain⟨v,hv⟩:=heo
   exact⟨v,by rw[hbe];exact hv⟩
  ·refine (ok b u q).stay (fun c v hc r=>k c v ?_ r) (fun c r=>by rw[jJr (nown c b r)];exact r) fun c xs r=>by rw[jJr (ntup c xs r)];exact r
   rcases hc with rfl | hc
   ·exact hbe
   ·rintro rfl
    rcases he with z | z
    ·exact nown c b hc z
    ·rw[hc] at z;cases z;exact hb rfl
end
structure Un (fs ex:List Addr) (H H':Hp) (h h':Heap):Prop where
 keep:∀b o,h.get? b=some o->H b=none->b∉fs->b∉ex->h'.get? b=some o
 slot:∀b o,h.get? b=some o->H b=none->b∈fs->b∉ex->∃sl,h'.get? b=some {o with slots:=sl}
 free:∀b o,h.get? b=some o->H b=none->b∉ex->H' b=none
 there:∀b o,h.get? b=some o->b∉ex->∃o',h'.get? b=some o'
 tups:∀b xs,H b=some (.tup xs)->H' b=some (.tup xs)
 frzs:∀b o u,H b=some (.frz o u)->H' b=some (.frz o u)
 tbls:∀b ps,H b=some (.tbl ps)->∃more,H' b=some (.tbl (ps++more))
section
variable {fs fs' ex ex':List Addr} {H H1 H2:Hp} {h h1 h2 h':Heap} {a x e:Addr} {o:HO}
theorem Un.any (u:Un fs ex H H1 h h1) {b:Addr} {ob:Obj} (q:h.get? b=some ob) (n:H b=none) (hx:b∉ex):∃sl,h1.get? b=some {ob with slots:=sl}:=by
 by_cases hb:b∈fs
 ·exact u.slot b ob q n hb hx
 ·exact⟨ob.slots,u.keep b ob q n hb hx⟩
theorem Un.kept (k:∀b u,h.get? b=some u->h'.get? b=some u):Un fs ex H H h h':=
 ⟨fun b ob q _ _ _=>k b ob q,fun b ob q _ _ _=>⟨ob.slots,k b ob q⟩,fun _ _ _ n _=>n,fun b ob q _=>⟨ob,k b ob q⟩,fun _ _ q=>q,fun _ _ _ q=>q,fun _ ps q=>⟨#[],by rw[q];simp⟩⟩
theorem Un.refl:Un fs ex H H h h:=Un.kept fun _ _ q=>q
theorem Un.laid (k:∀b u,h.get? b=some u->h'.get? b=some u) (hp:h.objs.size<=a) (hn:H a=none):Un fs ex H (upd H a o) h h' where
 keep:=fun b u q _ _ _=>k b u q
 slot:=fun b u q _ _ _=>⟨u.slots,k b u q⟩
 free:=fun b u q n _=>by rw[jJr (lJm (lJ7 (lJi q) hp))];exact n
 there:=fun b u q _=>⟨u,k b u q⟩
 tups:=fun b xs q=>by rw[jJr (jKy q hn)];exact q
 frzs:=fun b u xs q=>by rw[jJr (jKy q hn)];exact q
 tbls:=fun b ps q=>⟨#[],by rw[jJr (jKy q hn),q];simp⟩
theorem Un.write (mu:Mut (H x)) (he:e=x\/H e=some (.own x)) (k:∀b u,b≠e->h.get? b=some u->h'.get? b=some u) (heo:∃u,h'.get? e=some u):Un fs ex H (upd H x o) h h':=by
 have hx:∀b,H b=none->b≠x:=fun b n z=>by subst z;rw[n] at mu;exact mu
 have hb:∀b,H b=none->b≠e:=fun b n z=>by
  subst z
  rcases he with r | r
  ·exact hx b n r
  ·rw[n] at r;cases r
 have hm:∀b u,H b=some u->¬ Mut (some u)->b≠x:=fun b u q nm z=>by subst z;rw[q] at mu;exact nm mu
 refine⟨fun b u q n _ _=>k b u (hb b n) q,fun b u q n _ _=>⟨u.slots,k b u (hb b n) q⟩,fun b u q n _=>by rw[jJr (hx b n)];exact n,fun b u q _=> ?_,
  fun b xs q=>by rw[jJr (hm b _ q fun z=>z)];exact q,fun b u xs q=>by rw[jJr (hm b _ q fun z=>z)];exact q,fun b ps q=>⟨#[],by rw[jJr (hm b _ q fun z=>z),q];simp⟩⟩
 by_cases hbe:b=e
 ·subst hbe;exact heo
 ·exact⟨u,k b u hbe q⟩
end
def trk (h:Heap) (H:Hp):List Addr:=(List.range h.objs.size).filter fun a=>(H a).isSome
def hidT (h:Heap) (H:Hp):Heap:=PySem.W.hideAll h (trk h H)
theorem kZ5 (h:Heap) (H:Hp):(hidT h H).objs.size=h.objs.size:=PySem.W.hideAll_size _ _
theorem qQy {h:Heap} {H:Hp} {b:Addr} {o:Obj} (e:h.get? b=some o) (n:H b=none):(hidT h H).get? b=some o:=
 PySem.W.hideAll_get _ e fun hm=>by
  have q:(H b).isSome=true:=(lVv.mp hm).2
  rw[n] at q;simp at q
theorem qV4 {h:Heap} {H:Hp} {b:Addr} {o:Obj} (e:(hidT h H).get? b=some o):h.get? b=some o/\H b=none:=by
 have e':h.get? b=some o:=PySem.W.of_hideAll (trk h H) e
 refine⟨e',?_⟩
 cases q:H b with
 | none=>rfl
 | some x=>
  have hm:b∈trk h H:=lVv.mpr ⟨lJt.mpr (lJi e'),by simp[q]⟩
  have z:(hidT h H).get? b=none:=PySem.W.hideAll_none (trk h H) hm
  rw[z] at e;cases e
def qYo (g h:Heap) (L:Addr):List (Addr×Obj):=(List.range h.objs.size).filterMap fun a=>if a=L\/(g.get? a).isSome=true then none else (h.get? a).map fun o=>(a,o)
def rest (g h:Heap) (L d:Addr):List (Addr×Obj):=(qYo g h L).filter fun p=>decide (p.1≠d)
structure Mod (K:PySem.W.Frag) (mg:Str->Option Value) (base:Heap):Prop where
 kin:K.In base
 glob:base.Ns mainGlobals mg
 blt:∃mb,base.Ns builtinsNs mb/\∀x:Str,x≠"__name__"->mb x=bootBuiltins x
 nolimit:base.NoLimit
structure Cx where
 prog:Program
 w:World
 K:PySem.W.Frag
 mg:Str->Option Value
 base:Heap
 A:Around
 N:List Str
 s₀:Shared
 H₀:Hp
 env:Env
 outer:List Env
 stack:List Env
 ex:List Addr
 fn:Str->Bool
 calm:Bool
 pn:List (Addr×Obj)
 xe:Value->Shared->Prop
def frs (l:List Env):List Addr:=l.filterMap (·.frame)
abbrev Cx.fs (X:Cx):List Addr:=frs X.outer
def Vis (sc:Scope) (x:Str):Prop:=sc.names.lookup x=some .local\/sc.names.lookup x=some .cell\/sc.names.lookup x=some .free
def Loc (sc:Scope) (x:Str):Prop:=sc.names.lookup x=some .local\/sc.names.lookup x=some .cell
def Look (env:Env) (h:Heap) (m:Str->Option Value) (x:Str) (u:Value):Prop:=
 (env.kindOf x=some .local/\m x=some u)\/((env.kindOf x=some .cell\/env.kindOf x=some .free)/\∃c,env.cells.lookup x=some c/\h.IsCell c (some u))
structure Cx.Ok (X:Cx):Prop where
 mod:Mod X.K X.mg X.base
 kind:X.env.scope.kind= .function
 glob:X.env.globals=mainGlobals
 blt:X.env.builtins=builtinsNs
 above:X.s₀.heap.objs.size<=X.env.locals
 inj:∀x y c,X.env.cells.lookup x=some c->X.env.cells.lookup y=some c->x=y
 has:∀x,(X.env.kindOf x=some .cell\/X.env.kindOf x=some .free)->∃c,X.env.cells.lookup x=some c
 cab:∀x c,X.fn x=true->X.env.cells.lookup x=some c->X.s₀.heap.objs.size<=c
 hd:X.calm=true->X.A.handled=none
 gd:X.calm=true->X.A.guards=some []
 frames:X.A.frames=some X.stack
 stk:X.stack=X.outer\/(X.stack=X.env::X.outer/\X.env.frame=some X.env.locals)
 exf:∀b∈X.ex,b≠X.env.locals/\∀x c,X.env.cells.lookup x=some c->c≠b
 bs:∀b o,X.base.get? b=some o->X.s₀.heap.get? b=some o/\X.H₀ b=none
 bsz:X.base.objs.size<=X.s₀.heap.objs.size
 noex:∀b o,X.base.get? b=some o->b∉X.ex
 exfs:∀b∈X.ex,b∉X.fs
 funs:X.s₀.heap.FunFrames X.base X.outer
 frf:∀b∈X.fs,X.H₀ b=none
structure Inv (X:Cx) (pins:List (Addr×Obj)) (σ:List (Option V)) (H:Hp) (s:Shared):Prop where
 ok:X.Ok
 os:s.os=X.s₀.os
 bare:AllBare s.gens
 base:Un X.fs X.ex X.H₀ H X.s₀.heap s.heap
 loc:∃m,s.heap.Ns X.env.locals m/\∀(i:Nat) (x:Str) (v:V),X.N[i]? =some x->σ[i]? =some (some v)->Vis X.env.scope x->∃u,RelV v u/\Look X.env s.heap m x u
 cell:∀x c,X.env.cells.lookup x=some c->∃v,s.heap.IsCell c v
 free:H X.env.locals=none
 freeC:∀x c,X.env.cells.lookup x=some c->H c=none\/(X.fn x=false/\∃o u,H c=some (.frz o u))
 pin:∀p∈X.pn++pins,s.heap.get? p.1=some p.2/\H p.1=none/\p.1≠X.env.locals/\p.1∉X.fs/\∀v,p.2.data≠ .cell v
 hok:HOk X.prog X.w H s.heap
 len:σ.length=X.N.length
section
variable {X:Cx} {pins:List (Addr×Obj)} {σ:List (Option V)} {H H':Hp} {s:Shared} {h':Heap}
theorem Cx.Ok.nofr (ok:X.Ok) {b:Addr} {o:Obj} (e:X.base.get? b=some o):b∉X.fs:=fun hb=>by
 have:=(ok.funs.mem hb).1
 rw[e] at this;cases this
theorem Inv.bs (I:Inv X pins σ H s):∀b o,X.base.get? b=some o->s.heap.get? b=some o/\H b=none:=fun b o e=>
 ⟨I.base.keep b o (I.ok.bs b o e).1 (I.ok.bs b o e).2 (I.ok.nofr e) (I.ok.noex b o e),I.base.free b o (I.ok.bs b o e).1 (I.ok.bs b o e).2 (I.ok.noex b o e)⟩
theorem Inv.bk (I:Inv X pins σ H s):∀b o,X.base.get? b=some o->s.heap.get? b=some o:=fun b o e=>(I.bs b o e).1
theorem Inv.mod (I:Inv X pins σ H s):Mod X.K X.mg X.base:=I.ok.mod
theorem Inv.kIn (I:Inv X pins σ H s):X.K.In s.heap:=I.ok.mod.kin.keeps I.bk
theorem Inv.lt (I:Inv X pins σ H s):X.env.locals<s.heap.objs.size:=let ⟨_,hn,_⟩:=I.loc;hn.lt
theorem Inv.sz (I:Inv X pins σ H s):X.s₀.heap.objs.size<=s.heap.objs.size:=lKd I.ok.above (lQ3 I.lt)
theorem Inv.nofs (I:Inv X pins σ H s) {a:Addr} (h:s.heap.objs.size<=a):a∉X.fs:=fun hb=>by
 obtain⟨_,o,ho,_⟩:=I.ok.funs.mem hb
 exact absurd (lJ7 (lJi ho) (lKd I.sz h)) (lQn _)
theorem Inv.cne (I:Inv X pins σ H s):∀x c,X.env.cells.lookup x=some c->c≠X.env.locals:=fun x c e z=>by
 obtain⟨v,o,ho,hd⟩:=I.cell x c e
 obtain⟨m,⟨o',es,ep,ho',hd',_⟩,_⟩:=I.loc
 rw[z,ho'] at ho;cases ho;rw[hd'] at hd;cases hd
theorem Inv.funs (I:Inv X pins σ H s):s.heap.FunFrames X.base X.outer:=by
 have all:∀(l:List Env),(∀b∈frs l,b∈X.fs)->X.s₀.heap.FunFrames X.base l->s.heap.FunFrames X.base l:=by
  intro l
  induction l with
  | nil=>intro _ _;trivial
  | cons env r ih=>
   intro hs hl
   obtain⟨hk,⟨L,o,hf,hn,ho,hd⟩,hr⟩:=hl
   have hL:L∈X.fs:=hs L (by unfold frs;rw[lVd,hf];exact lJ1)
   obtain⟨sl,e⟩:=I.base.slot L o ho (I.ok.frf L hL) hL fun z=>I.ok.exfs L z hL
   exact⟨hk,⟨L,_,hf,hn,e,hd⟩,ih (fun b hb=>hs b (by unfold frs;rw[lVd,hf];exact lJ2 _ hb)) hr⟩
 exact all X.outer (fun _ hb=>hb) I.ok.funs
theorem Inv.stack (I:Inv X pins σ H s):s.heap.FunFrames X.base X.stack:=by
 rcases I.ok.stk with e | ⟨e,hf⟩
 ·rw[e];exact I.funs
 ·rw[e]
  obtain⟨m,hn,_⟩:=I.loc
  refine .cons (by rw[I.ok.kind];decide) hf hn ?_ I.funs
  exact Heap.get?_none_of_le (lKd I.ok.bsz I.ok.above)
theorem Inv.stkSub (I:Inv X pins σ H s):∀b∈frs X.stack,b∈X.env.locals::X.fs:=fun b hb=>by
 rcases I.ok.stk with e | ⟨e,hf⟩
 ·rw[e] at hb;exact lJ2 _ hb
 ·rw[e] at hb
  unfold frs at hb
  rw[lVd,hf] at hb
  exact hb
theorem Inv.stkFree (I:Inv X pins σ H s):∀b∈frs X.stack,H b=none:=fun b hb=>by
 rcases lJk.mp (I.stkSub b hb) with e | hb
 ·rw[e];exact I.free
 ·obtain⟨_,o,ho,_⟩:=I.ok.funs.mem hb
  exact I.base.free b o ho (I.ok.frf b hb) fun z=>I.ok.exfs b z hb
theorem Inv.step {g':Array GenState} {t':Nat} {d':Drawn} {ch:List Addr} (I:Inv X pins σ H s)
  (hch:∀b∈ch,(b∈X.ex\/X.s₀.heap.objs.size<=b)/\b≠X.env.locals/\(∀x c,X.env.cells.lookup x=some c->c≠b)/\∀p∈X.pn++pins,p.1≠b)
  (keep:∀b o,b≠X.env.locals->b∉X.fs->b∉ch->s.heap.get? b=some o->H b=none->h'.get? b=some o)
  (slot:∀b o,b≠X.env.locals->b∈X.fs->b∉ch->s.heap.get? b=some o->H b=none->∃sl,h'.get? b=some {o with slots:=sl}) (free:∀b o,b∉ch->s.heap.get? b=some o->H b=none->H' b=none)
  (there:∀b o,b∉ch->s.heap.get? b=some o->∃o',h'.get? b=some o')
  (tups:∀b xs,H b=some (.tup xs)->H' b=some (.tup xs)) (frzs:∀b o u,H b=some (.frz o u)->H' b=some (.frz o u)) (tbls:∀b ps,H b=some (.tbl ps)->∃more,H' b=some (.tbl (ps++more)))
  (ns:∀m,s.heap.Ns X.env.locals m->h'.Ns X.env.locals m) (hok:HOk X.prog X.w H' h') (hg:AllBare g'):
  Inv X pins σ H' {s with heap:=h',gens:=g',drawn:=d',toks:=t'}:=by
 have neL:∀b o,X.s₀.heap.get? b=some o->b≠X.env.locals:=fun b o e=>lJm (lJ7 (lJi e) I.ok.above)
 have neC:∀b o,X.s₀.heap.get? b=some o->b∉X.ex->b∉ch:=fun b o e hx hb=>by
  rcases (hch b hb).1 with z | z
  ·exact hx z
  ·exact absurd (lJ7 (lJi e) z) (lQn _)
 have cellK:∀x c,X.env.cells.lookup x=some c->∀v,s.heap.IsCell c v->h'.IsCell c v:=fun x c e v ⟨o,ho,hd⟩=>by
  have nch:c∉ch:=fun z=>(hch c z).2.2.1 x c e rfl
  rcases I.freeC x c e with hn | ⟨_,oc,u,hz⟩
  ·by_cases hc:c∈X.fs
   ·obtain⟨sl,q⟩:=slot c o (I.cne x c e) hc nch ho hn
    exact⟨_,q,hd⟩
   ·exact⟨o,keep c o (I.cne x c e) hc nch ho hn,hd⟩
  ·obtain⟨e1,_⟩:=I.hok c _ hz
   obtain⟨e2,_⟩:=hok c _ (frzs c _ _ hz)
   rw[ho] at e1;cases e1
   exact⟨o,e2,hd⟩
 refine⟨I.ok,I.os,hg,⟨fun b o e n hb hx=> ?_,fun b o e n hb hx=> ?_,fun b o e n hx=> ?_,fun b o e hx=> ?_,fun b xs e=>tups b xs (I.base.tups b xs e),fun b o xs e=>frzs b o xs (I.base.frzs b o xs e),fun b ps e=> ?_⟩,?_,fun x c e=> ?_,?_,fun x c e=> ?_,fun p hp=> ?_,hok,I.len⟩
 ·exact keep b o (neL b o e) hb (neC b o e hx) (I.base.keep b o e n hb hx) (I.base.free b o e n hx)
 ·obtain⟨sl,e1⟩:=I.base.slot b o e n hb hx
  obtain⟨sl',e2⟩:=slot b _ (neL b o e) hb (neC b o e hx) e1 (I.base.free b o e n hx)
  exact⟨sl',e2⟩
 ·obtain⟨o',e1⟩:=I.base.there b o e hx
  exact free b o' (neC b o e hx) e1 (I.base.free b o e n hx)
 ·obtain⟨o',e1⟩:=I.base.there b o e hx
  exact there b o' (neC b o e hx) e1
 ·obtain⟨m1,e1⟩:=I.base.tbls b ps e
  obtain⟨m2,e2⟩:=tbls b _ e1
  exact⟨m1++m2,by rw[e2,Array.append_assoc]⟩
 ·obtain⟨m,hn,hl⟩:=I.loc
  refine⟨m,ns m hn,fun i x v e1 e2 e3=> ?_⟩
  obtain⟨u,r,l⟩:=hl i x v e1 e2 e3
  refine⟨u,r,?_⟩
  rcases l with l | ⟨k,c,e,z⟩
  ·exact .inl l
  ·exact .inr ⟨k,c,e,cellK x c e _ z⟩
 ·obtain⟨v,z⟩:=I.cell x c e
  exact⟨v,cellK x c e v z⟩
 ·obtain⟨m,⟨o,_,_,ho,_⟩,_⟩:=I.loc
  exact free _ o (fun z=>(hch _ z).2.1 rfl) ho I.free
 ·obtain⟨v,o,ho,hd⟩:=I.cell x c e
  rcases I.freeC x c e with hn | ⟨h1,oc,u,hz⟩
  ·exact .inl (free c o (fun z=>(hch c z).2.2.1 x c e rfl) ho hn)
  ·exact .inr ⟨h1,oc,u,frzs c _ _ hz⟩
 ·obtain⟨e,n,ne,nf,d⟩:=I.pin p hp
  have nch:p.1∉ch:=fun z=>(hch p.1 z).2.2.2 p hp rfl
  exact⟨keep p.1 p.2 ne nf nch e n,free p.1 p.2 nch e n,ne,nf,d⟩
theorem Inv.un {t':Nat} (I:Inv X pins σ H s) (u:Un X.fs [] H H' s.heap h') (hok:HOk X.prog X.w H' h'):Inv X pins σ H' {s with heap:=h',toks:=t'}:=by
 obtain⟨m,⟨o,es,ep,ho,r⟩,_⟩:=id I.loc
 obtain⟨sl,hL⟩:=u.any ho I.free (by simp)
 exact I.step (g':=s.gens) (d':=s.drawn) (ch:=[]) (fun _ z=>nomatch z) (fun b o _ hb _ e n=>u.keep b o e n hb (by simp)) (fun b o _ hb _ e n=>u.slot b o e n hb (by simp)) (fun b o _ e n=>u.free b o e n (by simp)) (fun b o _ e=>u.there b o e (by simp)) u.tups u.frzs u.tbls (fun m' hm=>by
  obtain⟨o',es',ep',ho',r'⟩:=hm
  rw[ho] at ho';cases ho'
  exact⟨_,es',ep',hL,r'⟩) hok I.bare
theorem Inv.call {g':Array GenState} {t':Nat} {d':Drawn} {ch:List Addr} (I:Inv X pins σ H s) (u:Un (frs X.stack) ch H H' s.heap h') (hok:HOk X.prog X.w H' h') (hg:AllBare g')
  (hch:∀b∈ch,(b∈X.ex\/X.s₀.heap.objs.size<=b)/\b≠X.env.locals/\(∀x c,X.env.cells.lookup x=some c->c≠b)/\∀p∈X.pn++pins,p.1≠b):
  Inv X pins σ H' {s with heap:=h',gens:=g',drawn:=d',toks:=t'}:=by
 obtain⟨m,⟨o,es,ep,ho,r⟩,_⟩:=id I.loc
 obtain⟨sl,hL⟩:=u.any ho I.free fun z=>(hch _ z).2.1 rfl
 exact I.step (ch:=ch) hch (fun b o hL hb hc e n=>u.keep b o e n (fun z=>(lJk.mp (I.stkSub b z)).elim hL hb) hc) (fun b o _ _ hc e n=>u.any e n hc) (fun b o hc e n=>u.free b o e n hc) (fun b o hc e=>u.there b o e hc) u.tups u.frzs u.tbls (fun m' hm=>by
  obtain⟨o',es',ep',ho',r'⟩:=hm
  rw[ho] at ho';cases ho'
  exact⟨_,es',ep',hL,r'⟩) hok hg
theorem Inv.turned {t':Nat} {it:Addr} (I:Inv X pins σ H s) (k:∀b o,b≠it->s.heap.get? b=some o->h'.get? b=some o) (hn:H it=none) (hL:it≠X.env.locals)
  (h1:it∈X.ex\/X.s₀.heap.objs.size<=it) (h2:∀x c,X.env.cells.lookup x=some c->c≠it) (h3:∀p∈X.pn++pins,p.1≠it):Inv X pins σ H {s with heap:=h',toks:=t'}:=by
 have nit:∀b u,H b=some u->b≠it:=fun b u e z=>by rw[z,hn] at e;cases e
 refine I.step (g':=s.gens) (d':=s.drawn) (ch:=[it]) (fun b hb=> ?_) (fun b o _ _ hc e _=>k b o (fun z=>hc (by simp[z])) e) (fun b o _ _ hc e _=>⟨o.slots,k b o (fun z=>hc (by simp[z])) e⟩) (fun _ _ _ _ n=>n)
  (fun b o hc e=>⟨o,k b o (fun z=>hc (by simp[z])) e⟩) (fun _ _ e=>e) (fun _ _ _ e=>e) (fun b ps e=>⟨#[],by rw[e];simp⟩) (fun m hm=> ?_) (fun b u e=> ?_) I.bare
 ·have e:b=it:=by simpa using hb
  subst e
  exact⟨h1,hL,h2,h3⟩
 ·obtain⟨o,es,ep,ho,r⟩:=hm
  exact⟨o,es,ep,k _ o (Ne.symm hL) ho,r⟩
 ·refine (I.hok b u e).stay (fun c v hc q=>k c v ?_ q) (fun _ q=>q) fun _ _ q=>q
  rcases hc with z | z
  ·rw[z];exact nit b u e
  ·exact nit c _ z
theorem Inv.tok (I:Inv X pins σ H s) (t:Nat):Inv X pins σ H {s with toks:=t}:=I.un (h':=s.heap) (t':=t) Un.refl I.hok
theorem Inv.kept {t':Nat} (I:Inv X pins σ H s) (k:∀b u,s.heap.get? b=some u->h'.get? b=some u):Inv X pins σ H {s with heap:=h',toks:=t'}:=I.un (Un.kept k) (I.hok.kept k)
theorem Inv.laid {a:Addr} {o:HO} {t':Nat} (I:Inv X pins σ H s) (k:∀b u,s.heap.get? b=some u->h'.get? b=some u) (hp:s.heap.objs.size<=a) (new:ObjOk X.prog X.w (upd H a o) h' a o):
  Inv X pins σ (upd H a o) {s with heap:=h',toks:=t'}:=I.un (Un.laid k hp (I.hok.fresh hp)) (I.hok.laid k hp new)
theorem Inv.write {x e:Addr} {o:HO} {t':Nat} (I:Inv X pins σ H s) (mu:Mut (H x)) (he:e=x\/H e=some (.own x)) (k:∀b u,b≠e->s.heap.get? b=some u->h'.get? b=some u) (heo:∃u,h'.get? e=some u)
  (new:ObjOk X.prog X.w (upd H x o) h' x o):Inv X pins σ (upd H x o) {s with heap:=h',toks:=t'}:=I.un (Un.write mu he k heo) (I.hok.write mu he k heo new)
theorem Inv.weak {σ':List (Option V)} (I:Inv X pins σ H s) (hl:σ'.length=σ.length) (w:∀(i:Nat) v,σ'[i]? =some (some v)->σ[i]? =some (some v)):Inv X pins σ' H s:=
 ⟨I.ok,I.os,I.bare,I.base,let ⟨m,hn,hl'⟩:=I.loc;⟨m,hn,fun i x v e1 e2 e3=>hl' i x v e1 (w i v e2) e3⟩,I.cell,I.free,I.freeC,I.pin,I.hok,hl.trans I.len⟩
theorem Inv.pins_of {pins':List (Addr×Obj)} (I:Inv X pins σ H s) (h:∀p∈pins',s.heap.get? p.1=some p.2/\H p.1=none/\p.1≠X.env.locals/\p.1∉X.fs/\∀v,p.2.data≠ .cell v):Inv X pins' σ H s:=
 ⟨I.ok,I.os,I.bare,I.base,I.loc,I.cell,I.free,I.freeC,fun p hp=>(lJr.mp hp).elim (fun z=>I.pin p (lKe _ z)) (h p),I.hok,I.len⟩
theorem kVd {N:List Str} (hN:N.Nodup) {i j:Nat} {x:Str} (a:N[i]? =some x) (b:N[j]? =some x):i=j:=by
 obtain⟨h1,e1⟩:=lJq.mp a
 obtain⟨h2,e2⟩:=lJq.mp b
 exact (List.getElem_inj hN).mp (e1.trans e2.symm)
theorem kKl {M:Model} {A:Around} {E:Value->Shared->Prop} {i:Nat} {x:Str} {v:V} {u:Value} {Q:Unit->Shared->Prop} (I:Inv X pins σ H s) (hN:X.N.Nodup) (hi:X.N[i]? =some x) (hx:Loc X.env.scope x) (r:RelV v u)
  (h:∀s',Inv X pins (σ.set i (some v)) H s'->(∃a,Heap.SameBut a s.heap s'.heap/\(a=X.env.locals\/X.env.cells.lookup x=some a))->Q () s') (hf:X.fn x=true\/X.env.scope.names.lookup x=some .local:=by first | exact .inl rfl | exact .inr rfl | assumption):wpAny M A (storeName X.env x u) Q E s:=by
 obtain⟨m,hn,hl⟩:=id I.loc
 have hcls:(X.env.scope.kind == .class||(X.env.scope.kind == .module&&X.env.locals != X.env.globals))=false:=by rw[I.ok.kind];rfl
 have hiσ:i<σ.length:=by rw[I.len];exact (lJq.mp hi).1
 have cne:=I.cne
 have tracked:∀ {a:Addr} {h':Heap},(∃o,s.heap.get? a=some o/\H a=none)->Heap.SameBut a s.heap h'->HOk X.prog X.w H h':=fun {a h'} ha hs b ob e=>by
  obtain⟨_,_,hfree⟩:=ha
  refine (I.hok b ob e).stay (fun c w' hc q=>(hs.2 c ?_).trans q) (fun _ q=>q) fun _ _ q=>q
  rintro rfl
  rcases hc with rfl | hc
  ·rw[hfree] at e;cases e
  ·rw[hfree] at hc;cases hc
 rcases hx with hk | hk
 ·refine wpAny_storeName_local hk hn (fun h' hn' hs=> ?_) hcls
  obtain⟨oL,_,_,hoL,_⟩:=id hn
  refine h _ ⟨I.ok,I.os,I.bare,⟨fun b o e n hb hx=> ?_,fun b o e n hb hx=> ?_,I.base.free,fun b o e hx=> ?_,I.base.tups,I.base.frzs,I.base.tbls⟩,⟨_,hn',fun j y v' e1 e2 e3=> ?_⟩,fun y c e=> ?_,I.free,I.freeC,fun p hp=> ?_,tracked ⟨oL,hoL,I.free⟩ hs,by simpa using I.len⟩ ⟨_,hs,.inl rfl⟩
  ·exact (hs.2 b (lJm (lJ7 (lJi e) I.ok.above))).trans (I.base.keep b o e n hb hx)
  ·obtain⟨sl,e1⟩:=I.base.slot b o e n hb hx
   exact⟨sl,(hs.2 b (lJm (lJ7 (lJi e) I.ok.above))).trans e1⟩
  ·obtain⟨o',e1⟩:=I.base.there b o e hx
   exact⟨o',(hs.2 b (lJm (lJ7 (lJi e) I.ok.above))).trans e1⟩
  ·by_cases hj:j=i
   ·subst hj
    rw[hi] at e1;cases e1
    rw[lXz hiσ] at e2
    cases e2
    exact⟨u,r,.inl ⟨hk,by simp⟩⟩
   ·rw[lYj (Ne.symm hj)] at e2
    obtain⟨u',r',q⟩:=hl j y v' e1 e2 e3
    refine⟨u',r',?_⟩
    rcases q with ⟨k,e⟩ | ⟨k,c,e,z⟩
    ·refine .inl ⟨k,?_⟩
     have:y≠x:=fun e=>hj (kVd hN e1 (e▸hi))
     simp[this,e]
    ·exact .inr ⟨k,c,e,z.sameBut hs (cne y c e)⟩
  ·obtain⟨w',z⟩:=I.cell y c e
   exact⟨w',z.sameBut hs (cne y c e)⟩
  ·obtain⟨e,n,ne,nf,d⟩:=I.pin p hp
   exact⟨(hs.2 p.1 ne).trans e,n,ne,nf,d⟩
 ·have hfn:X.fn x=true:=by
   rcases hf with z | z
   ·exact z
   ·rw[z] at hk;cases hk
  obtain⟨c,hc⟩:=I.ok.has x (.inl hk)
  obtain⟨w',z⟩:=I.cell x c hc
  refine wpAny_storeName_cell I.ok.kind hk hc z (fun h' hc' hs=> ?_)
  obtain⟨oc,hoc,hocd⟩:=id z
  refine h {s with heap:=h'} ⟨I.ok,I.os,I.bare,⟨fun b o e n hb hx=> ?_,fun b o e n hb hx=> ?_,I.base.free,fun b o e hx=> ?_,I.base.tups,I.base.frzs,I.base.tbls⟩,⟨m,hn.sameBut hs (Ne.symm (cne x c hc)),fun j y v' e1 e2 e3=> ?_⟩,fun y c' e=> ?_,I.free,I.freeC,fun p hp=> ?_,tracked ⟨oc,hoc,(I.freeC x c hc).elim id fun z=>absurd z.1 (by rw[hfn];simp)⟩ hs,by simpa using I.len⟩ ⟨c,hs,.inr hc⟩
  ·exact (hs.2 b (lJm (lJ7 (lJi e) (I.ok.cab x c hfn hc)))).trans (I.base.keep b o e n hb hx)
  ·obtain⟨sl,e1⟩:=I.base.slot b o e n hb hx
   exact⟨sl,(hs.2 b (lJm (lJ7 (lJi e) (I.ok.cab x c hfn hc)))).trans e1⟩
  ·obtain⟨o',e1⟩:=I.base.there b o e hx
   exact⟨o',(hs.2 b (lJm (lJ7 (lJi e) (I.ok.cab x c hfn hc)))).trans e1⟩
  ·by_cases hj:j=i
   ·subst hj
    rw[hi] at e1;cases e1
    rw[lXz hiσ] at e2
    cases e2
    exact⟨u,r,.inr ⟨.inl hk,c,hc,hc'⟩⟩
   ·rw[lYj (Ne.symm hj)] at e2
    obtain⟨u',r',q⟩:=hl j y v' e1 e2 e3
    refine⟨u',r',?_⟩
    rcases q with q | ⟨k,c',e,z'⟩
    ·exact .inl q
    ·refine .inr ⟨k,c',e,z'.sameBut hs ?_⟩
     rintro rfl
     exact hj (kVd hN e1 (I.ok.inj _ _ _ e hc▸hi))
  ·by_cases hcc:c'=c
   ·subst hcc;exact⟨_,hc'⟩
   ·obtain⟨w2,z2⟩:=I.cell y c' e
    exact⟨w2,z2.sameBut hs hcc⟩
  ·obtain⟨e,n,ne,nf,d⟩:=I.pin p hp
   refine⟨(hs.2 p.1 ?_).trans e,n,ne,nf,d⟩
   intro q
   rw[q,hoc] at e
   have q':oc=p.2:=lJ0 e
   exact d w' (by rw[<-q'];exact hocd)
theorem kJp {M:Model} {A:Around} {E:Value->Shared->Prop} {i:Nat} {x:Str} {v:V} {u:Value} {Q:Unit->Shared->Prop} (I:Inv X pins σ H s) (hN:X.N.Nodup) (hi:X.N[i]? =some x) (hx:Loc X.env.scope x) (r:RelV v u)
  (h:∀s',Inv X pins (σ.set i (some v)) H s'->Q () s') (hf:X.fn x=true\/X.env.scope.names.lookup x=some .local:=by first | exact .inl rfl | exact .inr rfl | assumption):wpAny M A (storeName X.env x u) Q E s:=
 kKl I hN hi hx r (fun s' I' _=>h s' I') hf
theorem Inv.call' {s':Shared} {ch:List Addr} (I:Inv X pins σ H s) (ho:s'.os=s.os) (u:Un (frs X.stack) ch H H' s.heap s'.heap) (hok:HOk X.prog X.w H' s'.heap) (hg:AllBare s'.gens)
  (hch:∀b∈ch,(b∈X.ex\/X.s₀.heap.objs.size<=b)/\b≠X.env.locals/\(∀x c,X.env.cells.lookup x=some c->c≠b)/\∀p∈X.pn++pins,p.1≠b):Inv X pins σ H' s':=by
 obtain⟨h',g',d',t',o'⟩:=s'
 have e:o'=s.os:=ho
 subst e
 exact I.call (g':=g') (t':=t') (d':=d') u hok hg hch
end
abbrev XK:=Value->Option Addr->Hp->Prop
abbrev St:=List (Option V)
abbrev VK:=V->Hp->Prop
abbrev TE:=St->Hp->VK->Prop
abbrev TT:=St->Hp->(Bool->Hp->Prop)->Prop
abbrev TA:=St->Hp->(List V->Hp->Prop)->Prop
structure Ends where
 nx:St->Hp->Prop
 rt:VK
 bk:St->Hp->Prop:=fun _ _=>False
 ct:St->Hp->Prop:=fun _ _=>False
abbrev TS:=Ends->St->Hp->Prop
def EP (X:Cx) (pins:List (Addr×Obj)) (σ:St) (Q:VK) (u:Value) (s':Shared):Prop:=∃v H',Inv X pins σ H' s'/\RelV v u/\Q v H'
def TP (X:Cx) (pins:List (Addr×Obj)) (σ:St) (Q:Bool->Hp->Prop) (b:Bool) (s':Shared):Prop:=∃H',Inv X pins σ H' s'/\Q b H'
def SP (X:Cx) (pins:List (Addr×Obj)) (D:Ends) (f:Flow) (s':Shared):Prop:=
 match f with
 | .next=>∃ σ' H',Inv X pins σ' H' s'/\D.nx σ' H'
 | .brk=>∃ σ' H',Inv X pins σ' H' s'/\D.bk σ' H'
 | .cont=>∃ σ' H',Inv X pins σ' H' s'/\D.ct σ' H'
 | .ret u=>∃v σ' H',Inv X pins σ' H' s'/\RelV v u/\D.rt v H'
def PE (X:Cx) (e:Expr) (t:TE):Prop:=
 ∀(pins:List (Addr×Obj)) (s:Shared) (σ:St) (H:Hp) (Q:VK),Inv X pins σ H s->t σ H Q->wpAny (model X.prog X.w) X.A (eval e X.env) (EP X pins σ Q) X.xe s
def PSs (X:Cx) (st:List Stmt) (t:TS):Prop:=
 ∀(pins:List (Addr×Obj)) (s:Shared) (σ:St) (H:Hp) (D:Ends),Inv X pins σ H s->t D σ H->wpAny (model X.prog X.w) X.A (execs st X.env) (SP X pins D) X.xe s
theorem thn {α:Type} {t:Sem α} {Q Q':α->Shared->Prop} {M:Model} {A:Around} {E:Value->Shared->Prop} {s:Shared} (h:wpAny M A t Q E s) (hQ:∀a s,Q a s->Q' a s):wpAny M A t Q' E s:=lQf h hQ fun _ _ x=>x
section
variable {X:Cx}
def tVar (i:Nat):TE:=fun σ H Q=>∃v,σ[i]? =some (some v)/\Q v H
def tC (v:V):TE:=fun _ H Q=>Q v H
theorem pe_var {i:Nat} {x:Str} {pos:Pos} (hN:X.N[i]? =some x) (hv:Vis X.env.scope x) (hd:(x == ("__debug__":Str))=false:=by decide) (hcd:(x == ("__classdict__":Str))=false:=by decide):PE X (.Name x pos) (tVar i):=by
 intro pins s σ H Q I h
 obtain⟨v,e,h⟩:=h
 obtain⟨m,hn,hl⟩:=I.loc
 obtain⟨u,r,l⟩:=hl i x v hN e hv
 have fin:EP X pins σ Q u s:=⟨v,H,I,r,h⟩
 rcases l with ⟨hk,hm⟩ | ⟨hk,c,hc,hcell⟩
 ·exact wpAny_Name (wpAny_loadName_local I.ok.kind hk hn hm fin) hd
 ·rcases hk with hk | hk
  ·exact wpAny_Name (wpAny_loadName_cell I.ok.kind hk hc hcell fin) hd
  ·exact wpAny_Name (wpAny_loadName_free I.ok.kind hk hc hcell fin hcd) hd
theorem pe_int {i j pos}:PE X (.Constant (.int i) j pos) (tC (.int i)):=fun _ _ _ H _ I h=>wpAny_Constant_int ⟨.int i,H,I.tok _,⟨_,rfl⟩,h⟩
theorem pe_bl {b j pos}:PE X (.Constant (.bool b) j pos) (tC (.bl b)):=fun _ _ _ H _ I h=>Constant_bool ⟨.bl b,H,I,rfl,h⟩
theorem pe_non {j pos}:PE X (.Constant .none j pos) (tC .non):=fun _ _ _ H _ I h=>Constant_none ⟨.non,H,I,rfl,h⟩
def Gl (X:Cx) (x:Str):Prop:=X.env.kindOf x=some .globalImplicit
theorem kZp {E:Value->Shared->Prop} {pins:List (Addr×Obj)} {s:Shared} {σ:St} {H:Hp} {x:Str} {u:Value} {pos:Pos} {Q:Value->Shared->Prop} (I:Inv X pins σ H s) (hg:Gl X x) (hm:X.mg x=some u) (h:Q u s)
  (hd:(x == ("__debug__":Str))=false:=by decide):wpAny (model X.prog X.w) X.A (eval (.Name x pos) X.env) Q E s:=
 Calls.Name_function_global I.ok.kind hg (Calls.loadGlobal_global (by rw[I.ok.glob];exact I.mod.glob.keeps I.bk) hm h) hd
theorem jUv {E:Value->Shared->Prop} {pins:List (Addr×Obj)} {s:Shared} {σ:St} {H:Hp} {x:Str} {u:Value} {pos:Pos} {Q:Value->Shared->Prop} (I:Inv X pins σ H s) (hg:Gl X x) (hm:X.mg x=none) (hv:bootBuiltins x=some u) (h:Q u s)
  (hn:x≠"__name__":=by decide) (hd:(x == ("__debug__":Str))=false:=by decide):wpAny (model X.prog X.w) X.A (eval (.Name x pos) X.env) Q E s:=by
 obtain⟨mb,h1,h2⟩:=I.mod.blt
 exact Calls.Name_function_global I.ok.kind hg (Calls.loadGlobal_builtin (by rw[I.ok.glob];exact I.mod.glob.keeps I.bk) hm (by rw[I.ok.blt];exact h1.keeps I.bk) ((h2 x hn).trans hv) h) hd
theorem qVy {x:Str} {v:V} {u:Value} {pos:Pos} (hg:Gl X x) (hm:X.mg x=none) (hv:bootBuiltins x=some u) (r:RelV v u) (hn:x≠"__name__":=by decide) (hd:(x == ("__debug__":Str))=false:=by decide):PE X (.Name x pos) (tC v):=
 fun _ _ _ H _ I h=>jUv I hg hm hv ⟨v,H,I,r,h⟩ hn hd
variable {a b:Expr} {ta tb:TE} {pos:Pos}
def tB (t:TE):TT:=fun σ H Q=>t σ H fun x H1=>∃c,x= .bl c/\Q c H1
variable {tA tB':TT} {rest:List Expr}
def tAnd (t u:TT):TT:=fun σ H Q=>t σ H fun c H1=>if c=true then u σ H1 Q else Q false H1
def tOrV (ta tb:TE):TE:=fun σ H Q=>ta σ H fun x H1=>∃c,x= .bl c/\if c=true then Q (.bl true) H1 else tb σ H1 Q
end
def SqL (K:PySem.W.Frag) (H:Hp) (a:Addr) (xs:List V):Prop:=
 Rd H a (.lst xs)\/
  ∃(o:Obj) (its:Array Value) (n:Nat),K.lookup a=some o/\o.cls= .type "list"/\o.dict=none/\o.data= .seq its n/\its.size<=sizeLine/\Vals xs its.toList
def SqT (K:PySem.W.Frag) (H:Hp) (a:Addr) (xs:List V):Prop:=
 Rd H a (.tup xs)\/
  ∃(o:Obj) (its:Array Value) (n:Nat),K.lookup a=some o/\o.cls= .type "tuple"/\o.data= .seq its n/\its.size<=sizeLine/\Vals xs its.toList
noncomputable def absV:Value->Option V
 | .none=>some .non
 | .bool b=>some (.bl b)
 | .int i _=>some (.int i)
 | .str x _=>some (.str x)
 | .bytes b _=>some (.byt b)
 | .float b _=>some (.flt b)
 | .ref a=>some (.ref a)
 | .type n=>some (.ty n)
 | _=>none
theorem RelV.abs {x:V} {u:Value} (r:RelV x u):absV u=some x:=by
 cases x with
 | non=>cases r;rfl
 | bl _=>cases r;rfl
 | int _=>obtain⟨t,rfl⟩:=r;rfl
 | str _=>obtain⟨t,rfl⟩:=r;rfl
 | byt _=>obtain⟨t,rfl⟩:=r;rfl
 | flt _=>obtain⟨t,rfl⟩:=r;rfl
 | ref _=>cases r;rfl
 | ty _=>cases r;rfl
theorem RelV.inj {x y:V} {u:Value} (r:RelV x u) (q:RelV y u):x=y:=lJ0 (r.abs.symm.trans q.abs)
theorem Vals.inj {xs ys:List V} {us:List Value} (h:Vals xs us) (g:Vals ys us):xs=ys:=by
 induction h generalizing ys with
 | nil=>(cases g;rfl)
 | cons r _ ih=>(cases g with | cons r' t'=>rw[r.inj r',ih t'])
section
variable {X:Cx} {pins:List (Addr×Obj)} {σ:St} {H:Hp} {s:Shared} {a:Addr} {xs ys:List V}
theorem SqL.of {K:PySem.W.Frag} (h:H a=some (.lst xs)):SqL K H a xs:= .inl (.inl h)
theorem SqT.of {K:PySem.W.Frag} (h:H a=some (.tup xs)):SqT K H a xs:= .inl (.inl h)
theorem Inv.list (I:Inv X pins σ H s) (h:SqL X.K H a xs):∃its:List Value,Vals xs its/\PlainL s.heap a its.toArray/\xs.length<=sizeLine:=by
 rcases h with h | ⟨o,its,n,hk,hc,hd,hs,hz,r⟩
 ·obtain⟨z,its,n,r,e⟩:=h.ok I.hok
  exact⟨its,r,⟨_,n,e,rfl,rfl,rfl⟩,z⟩
 ·refine⟨its.toList,r,⟨o,n,I.kIn a o hk,hc,hd,by simpa using hs⟩,?_⟩
  have e:=r.length
  simp only[lKf] at e
  omega
theorem Inv.tuple (I:Inv X pins σ H s) (h:SqT X.K H a xs):∃its:List Value,Vals xs its/\IsTup s.heap a its.toArray/\xs.length<=sizeLine:=by
 rcases h with h | ⟨o,its,n,hk,hc,hs,hz,r⟩
 ·obtain⟨z,its,r,p⟩:=h.ok I.hok
  exact⟨its,r,p.is,z⟩
 ·refine⟨its.toList,r,⟨o,I.kIn a o hk,hc,n,by simpa using hs⟩,?_⟩
  have e:=r.length
  simp only[lKf] at e
  omega
theorem Inv.list_inj (I:Inv X pins σ H s) (h:SqL X.K H a xs) (h':SqL X.K H a ys):xs=ys:=by
 obtain⟨its,r,⟨o,n,e,_,_,d⟩,_⟩:=I.list h
 obtain⟨its',r',⟨o',n',e',_,_,d'⟩,_⟩:=I.list h'
 rw[e] at e';cases e'
 rw[d] at d'
 injection d' with d1 _
 have:its=its':=by simpa using lKo Array.toList d1
 subst this
 exact r.inj r'
theorem Inv.tuple_inj (I:Inv X pins σ H s) (h:SqT X.K H a xs) (h':SqT X.K H a ys):xs=ys:=by
 obtain⟨its,r,⟨o,e,_,n,d⟩,_⟩:=I.tuple h
 obtain⟨its',r',⟨o',e',_,n',d'⟩,_⟩:=I.tuple h'
 rw[e] at e';cases e'
 rw[d] at d'
 injection d' with d1 _
 have:its=its':=by simpa using lKo Array.toList d1
 subst this
 exact r.inj r'
end
abbrev Cx.wish (X:Cx) (E:Value->Shared->Prop):Cx:={X with xe:=E}
abbrev Cx.nox (X:Cx):Cx:=X.wish fun _ _=>False
theorem Cx.Ok.wish {X:Cx} (ok:X.Ok) (E:Value->Shared->Prop):(X.wish E).Ok:=
 ⟨ok.mod,ok.kind,ok.glob,ok.blt,ok.above,ok.inj,ok.has,ok.cab,ok.hd,ok.gd,ok.frames,ok.stk,ok.exf,ok.bs,ok.bsz,ok.noex,ok.exfs,ok.funs,ok.frf⟩
theorem Cx.Ok.unwish {X:Cx} {E:Value->Shared->Prop} (ok:(X.wish E).Ok):X.Ok:=
 ⟨ok.mod,ok.kind,ok.glob,ok.blt,ok.above,ok.inj,ok.has,ok.cab,ok.hd,ok.gd,ok.frames,ok.stk,ok.exf,ok.bs,ok.bsz,ok.noex,ok.exfs,ok.funs,ok.frf⟩
section
variable {X:Cx} {pins:List (Addr×Obj)} {σ:St} {H:Hp} {s:Shared} {E:Value->Shared->Prop}
theorem Inv.wish (I:Inv X pins σ H s) (E:Value->Shared->Prop):Inv (X.wish E) pins σ H s:=⟨I.ok.wish E,I.os,I.bare,I.base,I.loc,I.cell,I.free,I.freeC,I.pin,I.hok,I.len⟩
theorem Inv.unwish (I:Inv (X.wish E) pins σ H s):Inv X pins σ H s:=⟨I.ok.unwish,I.os,I.bare,I.base,I.loc,I.cell,I.free,I.freeC,I.pin,I.hok,I.len⟩
theorem SP.unwish {D:Ends} {f:Flow} {s':Shared} (h:SP (X.wish E) pins D f s'):SP X pins D f s':=by
 cases f with
 | next=>obtain⟨σ',H',I,q⟩:=h;exact⟨σ',H',I.unwish,q⟩
 | brk=>obtain⟨σ',H',I,q⟩:=h;exact⟨σ',H',I.unwish,q⟩
 | cont=>obtain⟨σ',H',I,q⟩:=h;exact⟨σ',H',I.unwish,q⟩
 | ret u=>obtain⟨v,σ',H',I,r,q⟩:=h;exact⟨v,σ',H',I.unwish,r,q⟩
theorem PSs.nox {st:List Stmt} {t:TS} (h:PSs X.nox st t):PSs X st t:=fun pins s σ H D I hw=>
 lQf (h pins s σ H D (I.wish _) hw) (fun _ _ q=>q.unwish) fun _ _ z=>False.elim z
end
section
variable {X:Cx} {st:Stmt} {rest:List Stmt} {t u:TS} {e:Expr} {te:TE} {pos:Pos}
theorem Inv.quiet {pins:List (Addr×Obj)} {σ:St} {H:Hp} {s:Shared} (I:Inv X pins σ H s):interactive X.env=false:=by simp[interactive,I.ok.kind]
def tRetN:TS:=fun D _ H=>D.rt .non H
end
abbrev TSet:=V->V->V->Hp->(Hp->Prop)->Prop
def PSet (X:Cx) (t:TSet):Prop:=
 ∀(pins:List (Addr×Obj)) (s:Shared) (σ:St) (H:Hp) (o i v:V) (ov iv u:Value) (Q:Hp->Prop),Inv X pins σ H s->RelV o ov->RelV i iv->RelV v u->t o i v H Q->
  wpAny (model X.prog X.w) X.A (setItem ov iv u) (fun _ s'=>∃H',Inv X pins σ H' s'/\Q H') X.xe s
section
variable {X:Cx} {pos:Pos}
def tPar (i j:Nat) (ta:TA):TS:=fun D σ H=>ta σ H fun vs H1=>∃v w,vs=[v,w]/\D.nx ((σ.set i (some v)).set j (some w)) H1
end
section
variable {X:Cx} {pos:Pos}
end
structure It where
 go:Nat->Hp->Prop
 yld:Nat->Hp->V->Hp->Prop
 stop:Nat->Hp->Prop
def FpOk (X:Cx) (pins:List (Addr×Obj)) (H:Hp) (b:Addr):Prop:=
 H b=none/\b≠X.env.locals/\b∉X.fs/\(b∈X.ex\/X.s₀.heap.objs.size<=b)/\(∀x c,X.env.cells.lookup x=some c->c≠b)/\∀p∈X.pn++pins,p.1≠b
theorem Inv.fpOk {X:Cx} {pins:List (Addr×Obj)} {σ:St} {H H':Hp} {s:Shared} {b:Addr} (I:Inv X pins σ H s) (hb:s.heap.objs.size<=b) (hn:H' b=none):FpOk X pins H' b:=by
 refine⟨hn,lK0 (lJ7 I.lt hb),I.nofs hb,.inr (lKd I.sz hb),fun x c e z=> ?_,fun p hp z=> ?_⟩
 ·obtain⟨v,q⟩:=I.cell x c e
  exact absurd (lJ7 q.lt (by rw[z];exact hb)) (lQn _)
 ·exact absurd (lJ7 (lJi (I.pin p hp).1) (by rw[z];exact hb)) (lQn _)
structure Turn (P:Program) (w:World) (K:PySem.W.Frag) (tg:Expr) (J:It) (fp:List Addr) (it:Addr) (tn:Nat->Heap->Prop):Prop where
 mem:it∈fp
 obj:∀i h,tn i h->∀b∈fp,∃o,h.get? b=some o/\∀v,o.data≠ .cell v
 keep:∀i h h',tn i h->(∀b∈fp,∀o,h.get? b=some o->h'.get? b=some o)->tn i h'
 item:∀(X:Cx),X.prog=P->X.w=w->X.K=K->X.calm=true->∀(i:Nat) (pins:List (Addr×Obj)) (s:Shared) (σ:St) (H:Hp) (E:Value->Shared->Prop),Inv X pins σ H s->(∀b∈fp,FpOk X pins H b)->tn i s.heap->J.go i H->
  wpAny (model P w) X.A (pyNext (.ref it)) (fun r s1=>∃u,r=some u/\
   wpAny (model P w) X.A (letOwnedTupleGo tg (.ref it) u) (fun _ s2=>∃x H',Inv X pins σ H' s2/\RelV x u/\J.yld i H x H'/\tn (i+1) s2.heap/\∀b∈fp,H' b=none) E s1) E s
 done:∀(X:Cx),X.prog=P->X.w=w->X.K=K->X.calm=true->∀(i:Nat) (pins:List (Addr×Obj)) (s:Shared) (σ:St) (H:Hp) (E:Value->Shared->Prop),Inv X pins σ H s->(∀b∈fp,FpOk X pins H b)->tn i s.heap->J.stop i H->
  wpAny (model P w) X.A (pyNext (.ref it)) (fun r s1=>r=none/\Inv X pins σ H s1) E s
 self:∀(A:Around) (i:Nat) (s:Shared) (Q:Value->Shared->Prop) (E:Value->Shared->Prop),tn i s.heap->Q (.ref it) s->wpAny (model P w) A (pyIter (.ref it)) Q E s
abbrev TI:=St->Hp->(It->Hp->Prop)->Prop
def PIE (X:Cx) (pins:List (Addr×Obj)) (σ:St) (tg:Expr) (R:It->Hp->Prop) (itv:Value) (s2:Shared):Prop:=
 ∃(it:Addr) (fp:List Addr) (tn:Nat->Heap->Prop) (J:It) (H':Hp),itv= .ref it/\Inv X pins σ H' s2/\Turn X.prog X.w X.K tg J fp it tn/\tn 0 s2.heap/\(∀b∈fp,FpOk X pins H' b)/\R J H'
def PI (X:Cx) (tg iter:Expr) (wi:TI):Prop:=
 ∀(pins:List (Addr×Obj)) (s:Shared) (σ:St) (H:Hp) (R:It->Hp->Prop),Inv X pins σ H s->wi σ H R->
  wpAny (model X.prog X.w) X.A (eval iter X.env) (fun v s1=>wpAny (model X.prog X.w) X.A (pyIter v) (PIE X pins σ tg R) X.xe s1) X.xe s
theorem qXv {M:Model} {A:Around} {E:Value->Shared->Prop} {s:Shared} {tg:Expr} {it:Addr} {u:Value} {o:Obj} {n:String} {vs:Array Value} {Q:Unit->Shared->Prop} (ho:s.heap.get? it=some o) (hc:o.cls= .type n) (hd:o.data= .fields vs)
  (hn:["enumerate","zip","dict_itemiterator","dict_reverseitemiterator","odict_iterator","itertools.zip_longest","itertools.pairwise"].contains n=false) (hQ:Q () s):wpAny M A (letOwnedTupleGo tg (.ref it) u) Q E s:=by
 unfold letOwnedTupleGo
 cases tg<;>first
  | exact lJd hQ
  | (cases u<;>first
    | exact lJd hQ
    | (refine lJa (wpAny_load ho ?_)
       rw[hc,hd]
       show wpAny M A (if (["enumerate","zip","dict_itemiterator","dict_reverseitemiterator","odict_iterator","itertools.zip_longest","itertools.pairwise"].contains n&&vs[0]? == some (rawInt _))=true then _ else _) Q E s
       rw[lJb (by intro h;rw[hn,Bool.false_and] at h;cases h)]
       exact lJd hQ))
noncomputable def Itl (K:PySem.W.Frag) (a:Addr):It:=
 ⟨fun i H=>∃xs x,SqL K H a xs/\xs[i]? =some x,fun i H x H'=>H'=H/\∀xs,SqL K H a xs->xs[i]? =some x,fun i H=>∃xs,SqL K H a xs/\xs.length<=i⟩
noncomputable def Itt (K:PySem.W.Frag) (a:Addr):It:=
 ⟨fun i H=>∃xs x,SqT K H a xs/\xs[i]? =some x,fun i H x H'=>H'=H/\∀xs,SqT K H a xs->xs[i]? =some x,fun i H=>∃xs,SqT K H a xs/\xs.length<=i⟩
def Itr (lo:Int) (n:Nat):It:=⟨fun i _=>i<n,fun i H x H'=>H'=H/\x= .int (lo+i),fun i _=>n<=i⟩
theorem kX8 {P:Program} {w:World} {K:PySem.W.Frag} {tg:Expr} (a it:Addr):Turn P w K tg (Itl K a) [it] it (fun i h=>h.IsListIter it a i) where
 mem:=by simp
 obj:=fun i h st b hb=>by
  have e:b=it:=by simpa using hb
  subst e
  obtain⟨o,e,c,d⟩:=st
  exact⟨o,e,fun v z=>by rw[d] at z;cases z⟩
 keep:=fun i h h' st k=>st.at fun o e=>k it (by simp) o e
 item:=by
  intro X hP hw hK hc i pins s σ H E I hf st hg
  subst hP hw hK
  obtain⟨xs,x,hq,hx⟩:=hg
  obtain⟨its,rv,p,hz⟩:=I.list hq
  obtain⟨u,hu,ru⟩:=rv.get hx
  obtain⟨f0,f1,f2,f3,f4,f5⟩:=hf it (by simp)
  refine wpAny_pyNext_list_item st p.isList (x:=u) (by simpa using hu) fun h' st' sb=> ?_
  have I1:Inv X pins σ H {s with heap:=h'}:=I.turned (t':=s.toks) (fun b o hb e=>(sb.2 b hb).trans e) f0 f1 f3 f4 f5
  obtain⟨o,e,c,d⟩:=id st'
  exact⟨u,rfl,qXv (s:={s with heap:=h'}) e c d (by decide) ⟨x,H,I1,ru,⟨rfl,fun ys hy=>by rw[I.list_inj hy hq];exact hx⟩,st',fun b hb=>(hf b hb).1⟩⟩
 done:=by
  intro X hP hw hK hc i pins s σ H E I hf st hg
  subst hP hw hK
  obtain⟨xs,hq,hx⟩:=hg
  obtain⟨its,rv,p,hz⟩:=I.list hq
  obtain⟨f0,f1,f2,f3,f4,f5⟩:=hf it (by simp)
  have hl:=rv.length
  exact wpAny_pyNext_list_end (I.ok.hd hc) st p.isList (by simp;omega) fun h' eb=>⟨rfl,I.turned (t':=s.toks) (fun b o hb e=>eb b o hb e) f0 f1 f3 f4 f5⟩
 self:=fun _ _ _ _ _ st h=>wpAny_pyIter_listiter st h
theorem kV8 {P:Program} {w:World} {K:PySem.W.Frag} {tg:Expr} (a it:Addr):Turn P w K tg (Itt K a) [it] it (fun i h=>h.IsTupleIter it a i) where
 mem:=by simp
 obj:=fun i h st b hb=>by
  have e:b=it:=by simpa using hb
  subst e
  obtain⟨o,e,c,d⟩:=st
  exact⟨o,e,fun v z=>by rw[d] at z;cases z⟩
 keep:=fun i h h' st k=>st.at fun o e=>k it (by simp) o e
 item:=by
  intro X hP hw hK hc i pins s σ H E I hf st hg
  subst hP hw hK
  obtain⟨xs,x,hq,hx⟩:=hg
  obtain⟨its,rv,p,hz⟩:=I.tuple hq
  obtain⟨u,hu,ru⟩:=rv.get hx
  obtain⟨f0,f1,f2,f3,f4,f5⟩:=hf it (by simp)
  refine wpAny_pyNext_tuple_item st (show s.heap.IsTuple a its.toArray from p) (x:=u) (by simpa using hu) fun h' st' sb=> ?_
  have I1:Inv X pins σ H {s with heap:=h'}:=I.turned (t':=s.toks) (fun b o hb e=>(sb.2 b hb).trans e) f0 f1 f3 f4 f5
  obtain⟨o,e,c,d⟩:=id st'
  exact⟨u,rfl,qXv (s:={s with heap:=h'}) e c d (by decide) ⟨x,H,I1,ru,⟨rfl,fun ys hy=>by rw[I.tuple_inj hy hq];exact hx⟩,st',fun b hb=>(hf b hb).1⟩⟩
 done:=by
  intro X hP hw hK hc i pins s σ H E I hf st hg
  subst hP hw hK
  obtain⟨xs,hq,hx⟩:=hg
  obtain⟨its,rv,p,hz⟩:=I.tuple hq
  obtain⟨f0,f1,f2,f3,f4,f5⟩:=hf it (by simp)
  have hl:=rv.length
  exact wpAny_pyNext_tuple_end (I.ok.hd hc) st (show s.heap.IsTuple a its.toArray from p) (by simp;omega) fun h' eb=>⟨rfl,I.turned (t':=s.toks) (fun b o hb e=>eb b o hb e) f0 f1 f3 f4 f5⟩
 self:=fun _ _ _ _ _ st h=>wpAny_pyIter_tupleiter st h
theorem kV9 {P:Program} {w:World} {K:PySem.W.Frag} {tg:Expr} (it:Addr) (lo:Int) (n:Nat):Turn P w K tg (Itr lo n) [it] it (fun i h=>IsRangeIter h it (lo+(i:Nat)*1) ((n:Int)-(i:Nat)) 1) where
 mem:=by simp
 obj:=fun i h st b hb=>by
  have e:b=it:=by simpa using hb
  subst e
  exact⟨_,st,fun v z=>by
   have z':Data.fields _=Data.cell v:=z
   cases z'⟩
 keep:=fun i h h' st k=>k it (by simp) _ st
 item:=by
  intro X hP hw hK hc i pins s σ H E I hf st hg
  subst hP hw hK
  obtain⟨f0,f1,f2,f3,f4,f5⟩:=hf it (by simp)
  have W:=Walks.range (prog:=X.prog) (w:=X.w) (I.ok.hd hc) it lo 1 n
  refine W.item i s _ _ hg st fun v h' tk hv st' kk=> ?_
  obtain⟨t,rfl⟩:=hv
  have I1:Inv X pins σ H {s with heap:=h',toks:=tk}:=I.turned (fun b o hb e=>kk b o (by simpa using hb) e) f0 f1 f3 f4 f5
  refine⟨_,rfl,qXv (s:={s with heap:=h',toks:=tk}) (n:="range_iterator") st' rfl rfl (by decide) ⟨.int (lo+i),H,I1,⟨t,?_⟩,⟨rfl,rfl⟩,st',fun b hb=>(hf b hb).1⟩⟩
  rw[Int.mul_one]
 done:=by
  intro X hP hw hK hc i pins s σ H E I hf st hg
  subst hP hw hK
  obtain⟨f0,f1,f2,f3,f4,f5⟩:=hf it (by simp)
  exact wpAny_pyNext_range_end (I.ok.hd hc) st (by have:n<=i:=hg;omega) fun h' eb=>⟨rfl,I.turned (t':=s.toks) (fun b o hb e=>eb b o hb e) f0 f1 f3 f4 f5⟩
 self:=fun _ _ _ _ _ st h=>wpAny_pyIter_rangeiter st h
section
variable {X:Cx} {tg:Expr}
theorem kU6 {pins:List (Addr×Obj)} {σ:St} {H:Hp} {s:Shared} {R:It->Hp->Prop} {E:Value->Shared->Prop} {lo hi:Int} {t u v:Tok} {tk:Nat} (I:Inv X pins σ H s) (h1: -(2^62)<=lo) (h2:lo<2^62) (h3: -(2^62)<=hi) (h4:hi<2^62)
  (q:R (Itr lo (hi-lo).toNat) H):wpAny (model X.prog X.w) X.A (pyIter (.ref s.heap.objs.size)) (PIE X pins σ tg R) E {s with heap:=s.heap.push {cls:= .type "range",data:= .fields #[.int lo t,.int hi u,.int 1 v]},toks:=tk}:=by
 refine wpAny_pyIter_range (IsRange.new ..) (small_one h1 h2 h3 h4) ?_
 have I1:Inv X pins σ H {s with heap:=s.heap.push {cls:= .type "range",data:= .fields #[.int lo t,.int hi u,.int 1 v]},toks:=tk}:=I.kept fun b o e=>lJl _ e
 refine⟨(s.heap.push {cls:= .type "range",data:= .fields #[.int lo t,.int hi u,.int 1 v]}).objs.size,[(s.heap.push {cls:= .type "range",data:= .fields #[.int lo t,.int hi u,.int 1 v]}).objs.size],_,_,H,rfl,
  I1.kept (t':=tk) fun b o e=>lJl _ e,kV9 _ lo (hi-lo).toNat,?_,fun b hb=> ?_,q⟩
 ·have e1:lo+((0:Nat):Int)*1=lo:=by simp
  have e2:(((hi-lo).toNat:Nat):Int)-((0:Nat):Int)=Builtin.Range.rangeSize lo hi 1:=by rw[rangeSize_one];split<;>omega
  show IsRangeIter _ _ (lo+((0:Nat):Int)*1) ((((hi-lo).toNat:Nat):Int)-((0:Nat):Int)) 1
  rw[e1,e2]
  exact lJ8 _ rfl
 ·have e:b=(s.heap.push {cls:= .type "range",data:= .fields #[.int lo t,.int hi u,.int 1 v]}).objs.size:=by simpa using hb
  subst e
  exact I1.fpOk (lJg _) (I1.hok.fresh (lJg _))
def jQp (fp:List Addr) (h:Heap):List (Addr×Obj):=fp.filterMap fun b=>(h.get? b).map fun o=>(b,o)
theorem jQf {fp:List Addr} {h:Heap} {b:Addr} {o:Obj} (hb:b∈fp) (e:h.get? b=some o):(b,o)∈jQp fp h:=lYk.mpr ⟨b,hb,by rw[e];rfl⟩
theorem kZb {fp:List Addr} {h:Heap} {p:Addr×Obj} (hp:p∈jQp fp h):p.1∈fp/\h.get? p.1=some p.2:=by
 obtain⟨b,hb,e⟩:=lYk.mp hp
 cases q:h.get? b with
 | none=>rw[q] at e;cases e
 | some o=>
  rw[q] at e
  have e':(b,o)=p:=lJ0 e
  subst e'
  exact⟨hb,q⟩
theorem Inv.pinned {pins:List (Addr×Obj)} {σ:St} {H:Hp} {s:Shared} {fp:List Addr} (I:Inv X pins σ H s) (hf:∀b∈fp,FpOk X pins H b) (ho:∀b∈fp,∃o,s.heap.get? b=some o/\∀v,o.data≠ .cell v):Inv X (pins++jQp fp s.heap) σ H s:=
 I.pins_of fun p hp=>(lJr.mp hp).elim (fun z=>I.pin p (lJy _ z)) fun z=>by
  obtain⟨hb,e⟩:=kZb z
  obtain⟨f0,f1,f2,_⟩:=hf p.1 hb
  obtain⟨o,e',d⟩:=ho p.1 hb
  rw[e] at e';cases e'
  exact⟨e,f0,f1,f2,d⟩
theorem Inv.unpinned {pins pl:List (Addr×Obj)} {σ:St} {H:Hp} {s:Shared} (I:Inv X (pins++pl) σ H s):Inv X pins σ H s:=I.pins_of fun p hp=>I.pin p (lJy _ (lKe _ hp))
end
abbrev R2:=V->V->Hp->VK->Prop
def OpR (X:Cx) (f:Value->Value->Sem Value) (r:R2):Prop:=
 ∀(pins:List (Addr×Obj)) (s:Shared) (σ:St) (H:Hp) (x y:V) (v u:Value) (Q:VK),Inv X pins σ H s->RelV x v->RelV y u->r x y H Q->
  wpAny (model X.prog X.w) X.A (f v u) (EP X pins σ Q) X.xe s
def kX2 (X:Cx) (f:Value) (r:List V->Hp->VK->Prop):Prop:=
 ∀(pins:List (Addr×Obj)) (s:Shared) (σ:St) (H:Hp) (xs:List V) (us:List Value) (Q:VK),Inv X pins σ H s->Vals xs us->r xs H Q->
  wpAny (model X.prog X.w) X.A (call f us) (EP X pins σ Q) X.xe s
def TruR (X:Cx) (r:V->Hp->(Bool->Hp->Prop)->Prop):Prop:=
 ∀(pins:List (Addr×Obj)) (s:Shared) (σ:St) (H:Hp) (x:V) (v:Value) (Q:Bool->Hp->Prop),Inv X pins σ H s->RelV x v->r x H Q->
  wpAny (model X.prog X.w) X.A (truthy v) (TP X pins σ Q) X.xe s
def tUn (r:V->Hp->VK->Prop) (ta:TE):TE:=fun σ H Q=>ta σ H fun x H1=>r x H1 Q
def rI (C:Int->Int->Prop) (g:Int->Int->V):R2:=fun x y H Q=>∃i j,x= .int i/\y= .int j/\C i j/\Q (g i j) H
def rI0 (g:Int->Int->V):R2:=fun x y H Q=>∃i j,x= .int i/\y= .int j/\Q (g i j) H
section
variable {X:Cx} {a b c:Expr} {ta tb tc:TE} {pos:Pos}
theorem opI {f:Value->Value->Sem Value} {C:Int->Int->Prop} {g:Int->Int->Int}
  (rule:∀(i j:Int) (t u:Tok) (s:Shared) (Q:Value->Shared->Prop) (E:Value->Shared->Prop),C i j->Q (.int (g i j) s.toks) {s with toks:=s.toks+1}->wpAny (model X.prog X.w) X.A (f (.int i t) (.int j u)) Q E s):
  OpR X f (rI C fun i j=> .int (g i j)):=by
 intro pins s σ H x y v u Q I rx ry h
 obtain⟨i,j,rfl,rfl,hc,q⟩:=h
 obtain⟨t,rfl⟩:=rx
 obtain⟨t',rfl⟩:=ry
 exact rule i j t t' s _ _ hc ⟨.int (g i j),H,I.tok _,⟨_,rfl⟩,q⟩
theorem opI0 {f:Value->Value->Sem Value} {g:Int->Int->Int}
  (rule:∀(i j:Int) (t u:Tok) (s:Shared) (Q:Value->Shared->Prop) (E:Value->Shared->Prop),Q (.int (g i j) s.toks) {s with toks:=s.toks+1}->wpAny (model X.prog X.w) X.A (f (.int i t) (.int j u)) Q E s):
  OpR X f (rI0 fun i j=> .int (g i j)):=by
 intro pins s σ H x y v u Q I rx ry h
 obtain⟨i,j,rfl,rfl,q⟩:=h
 obtain⟨t,rfl⟩:=rx
 obtain⟨t',rfl⟩:=ry
 exact rule i j t t' s _ _ ⟨.int (g i j),H,I.tok _,⟨_,rfl⟩,q⟩
theorem opB0 {f:Value->Value->Sem Value} {g:Int->Int->Bool}
  (rule:∀(i j:Int) (t u:Tok) (s:Shared) (Q:Value->Shared->Prop) (E:Value->Shared->Prop),Q (.bool (g i j)) s->wpAny (model X.prog X.w) X.A (f (.int i t) (.int j u)) Q E s):
  OpR X f (rI0 fun i j=> .bl (g i j)):=by
 intro pins s σ H x y v u Q I rx ry h
 obtain⟨i,j,rfl,rfl,q⟩:=h
 obtain⟨t,rfl⟩:=rx
 obtain⟨t',rfl⟩:=ry
 exact rule i j t t' s _ _ ⟨.bl (g i j),H,I,rfl,q⟩
def CDiv (i j:Int):Prop:=0<j/\j<1073741824
def CPow (i j:Int):Prop:=0<=j/\j<=1000000/\i.natAbs<2^64
def CMul (i j:Int):Prop:=(-(2^64)<i/\i<2^64)\/(-(2^64)<j/\j<2^64)
theorem CMul.ok {i j:Int} (h:CMul i j):IntMulOk i j:=by
 rcases h with ⟨h1,h2⟩ | ⟨h1,h2⟩
 ·exact .of_left (intBits_le_64 h1 h2)
 ·exact .of_right (intBits_le_64 h1 h2)
theorem op_add:OpR X (binaryOp .Add) (rI0 fun i j=> .int (i+j)):=opI0 fun _ _ _ _ _ _ _ q=>add_int q
theorem op_mul:OpR X (binaryOp .Mult) (rI CMul fun i j=> .int (i*j)):=opI fun _ _ _ _ _ _ _ hc q=>mul_int q hc.ok
theorem qV0:OpR X (binaryOp .FloorDiv) (rI CDiv fun i j=> .int (i / j)):=opI fun i j _ _ _ _ _ hc q=>by
 have h1:(0:Int)<j:=hc.1
 have h2:j<1073741824:=hc.2
 exact floordiv_int (by omega) (by rw[Int.fdiv_eq_ediv_of_nonneg i (by omega)];exact q) (.inl (PyProof.noPylong_small (by omega)))
theorem op_mod:OpR X (binaryOp .Mod) (rI (fun _ j=>0<j) fun i j=> .int (i%j)):=opI fun i j _ _ _ _ _ hc q=>by
 have h1:(0:Int)<j:=hc
 exact mod_int' (by omega) (by rw[Int.fmod_eq_emod_of_nonneg i (by omega)];exact q)
theorem op_pow:OpR X (binaryOp .Pow) (rI CPow fun i j=> .int (i^j.toNat)):=opI fun _ _ _ _ _ _ _ hc q=>pow_int_small hc.1 hc.2.1 hc.2.2 q
end
section
variable {X:Cx} {a b c:Expr} {ta tb tc:TE} {pos:Pos}
theorem fin_bl {pins:List (Addr×Obj)} {σ:St} {H:Hp} {s:Shared} {Q:VK} {k k':Bool} (I:Inv X pins σ H s) (q:Q (.bl k) H) (e:k=k'):EP X pins σ Q (.bool k') s:=by
 subst e
 exact⟨.bl k,H,I,rfl,q⟩
theorem op_lt:OpR X (compareOp .Lt) (rI0 fun i j=> .bl (decide (i<j))):=opB0 fun _ _ _ _ _ _ _ q=>lt_int q
theorem op_le:OpR X (compareOp .LtE) (rI0 fun i j=> .bl (decide (i<=j))):=opB0 fun _ _ _ _ _ _ _ q=>le_int q
theorem op_gt:OpR X (compareOp .Gt) (rI0 fun i j=> .bl (decide (j<i))):=opB0 fun _ _ _ _ _ _ _ q=>gt_int q
theorem op_ge:OpR X (compareOp .GtE) (rI0 fun i j=> .bl (decide (j<=i))):=opB0 fun _ _ _ _ _ _ _ q=>ge_int q
theorem op_isN:OpR X (compareOp .Is) (fun x y H Q=>y= .non/\Q (.bl (decide (x= .non))) H):=by
 intro pins s σ H x y v u Q I rx ry h
 obtain⟨rfl,q⟩:=h
 cases ry
 refine is_none_gen (fin_bl I q ?_)
 cases x<;>first
  | (cases rx;rfl)
  | (obtain⟨t,rfl⟩:=rx;rfl)
theorem nomark (b:Expr) {op:CmpOp} (h:op≠ .In:=by decide) (h2:op≠ .NotIn:=by decide):behindInMarks op b=false:=by
 have e1:(op == CmpOp.In)=false:=by cases op<;>first | rfl | exact absurd rfl h
 have e2:(op == CmpOp.NotIn)=false:=by cases op<;>first | rfl | exact absurd rfl h2
 cases b<;>simp[behindInMarks,e1,e2]
def TruV (K:PySem.W.Frag) (x:V) (H:Hp) (k:Bool):Prop:=
 match x with
 | .non=>k=false
 | .bl b=>k=b
 | .int i=>k=(i != 0)
 | .str y=>y.length<=sizeLine/\k=((y.length:Int) != 0)
 | .byt y=>y.size<=sizeLine/\k=((y.size:Int) != 0)
 | .ref p=>(∃xs,SqL K H p xs/\k= !xs.isEmpty)\/(∃xs,SqT K H p xs/\k= !xs.isEmpty)\/∃kvs,H p=some (.dK kvs)/\k= !kvs.isEmpty
 | _=>False
theorem kXt {κ:Type} {kvs:List (κ×V)} {vs:List (κ×Value)} (r:KV kvs vs):(!vs.isEmpty)= !kvs.isEmpty:=by
 cases r<;>rfl
theorem jXn {xs:List V} {its:List Value} (r:Vals xs its):(!its.toArray.isEmpty)= !xs.isEmpty:=by
 cases r<;>simp
theorem jZ9:(sizeLine:Nat)<2^63:=by rw[lKs];decide
theorem tru_ok:TruR X (fun x H Q=>∃k,TruV X.K x H k/\Q k H):=by
 intro pins s σ H x v Q I rx h
 obtain⟨k,e,q⟩:=h
 have hl:=jZ9
 have hs:sizeLine=16777216:=lKs
 cases x with
 | non=>
  cases rx
  have e':k=false:=e
  subst e'
  exact truthy_none ⟨H,I,q⟩
 | bl b=>
  cases rx
  have e':k=b:=e
  subst e'
  exact lXv ⟨H,I,q⟩
 | int i=>
  obtain⟨t,rfl⟩:=rx
  have e':k=(i != 0):=e
  subst e'
  exact PySem.P.truthy_int ⟨H,I,q⟩
 | str y=>
  obtain⟨t,rfl⟩:=rx
  obtain⟨hy,e'⟩:y.length<=sizeLine/\k=((y.length:Int) != 0):=e
  subst e'
  exact PySem.P.truthy_str (by omega) ⟨H,I.tok _,q⟩
 | byt y=>
  obtain⟨t,rfl⟩:=rx
  obtain⟨hy,e'⟩:y.size<=sizeLine/\k=((y.size:Int) != 0):=e
  subst e'
  exact PySem.W.truthy_bytes (by omega) ⟨H,I.tok _,q⟩
 | ref p=>
  cases rx
  have e':(∃xs,SqL X.K H p xs/\k= !xs.isEmpty)\/(∃xs,SqT X.K H p xs/\k= !xs.isEmpty)\/∃kvs,H p=some (.dK kvs)/\k= !kvs.isEmpty:=e
  rcases e' with ⟨xs,hx,e'⟩ | ⟨xs,hx,e'⟩ | ⟨kvs,hx,e'⟩
  ·subst e'
   obtain⟨its,r,pl,hz⟩:=I.list hx
   have hlen:=r.length
   exact wpAny_truthy_list pl.isList (by simp only[lJu];omega) ⟨H,I.tok _,by rw[jXn r];exact q⟩
  ·subst e'
   obtain⟨its,r,pl,hz⟩:=I.tuple hx
   have hlen:=r.length
   exact truthy_tuple pl (by simp only[lJu];omega) ⟨H,I.tok _,by rw[jXn r];exact q⟩
  ·subst e'
   obtain⟨hz,hS,vs,r,m⟩:kvs.length<=sizeLine/\(p == sysModules)=false/\∃vs,KV kvs vs/\s.heap.DictOf (jJ7 X.prog X.w) p vs:=I.hok p _ hx
   have hlen:kvs.length=vs.length:=lQ2 r
   exact wpAny_truthy_dict hS m (by omega) ⟨H,I.tok _,by rw[kXt r];exact q⟩
 | _=>exact (show False from e).elim
theorem qKn {x:V} {us:List Value} (r:Vals [x] us):∃u,us=[u]/\RelV x u:=by
 cases r with
 | cons r1 r2=>cases r2;exact⟨_,rfl,r1⟩
theorem vals2 {x y:V} {us:List Value} (r:Vals [x,y] us):∃u w',us=[u,w']/\RelV x u/\RelV y w':=by
 cases r with
 | cons r1 r2=>
  cases r2 with
  | cons r3 r4=>cases r4;exact⟨_,_,rfl,r1,r3⟩
theorem qUd:kX2 X (.builtin "abs") (fun xs H Q=>∃i,xs=[.int i]/\Q (.int (if i<0 then -i else i)) H):=by
 intro pins s σ H xs us Q I r h
 obtain⟨i,rfl,q⟩:=h
 obtain⟨u,rfl,t,rfl⟩:=qKn r
 exact call_abs_int fun u tk=>⟨.int (if i<0 then -i else i),H,I.tok _,⟨_,rfl⟩,q⟩
theorem qJ0 (hc:X.calm=true):kX2 X (.builtin "max") (fun xs H Q=>∃i j,xs=[.int i,.int j]/\Q (.int (if j>i then j else i)) H):=by
 intro pins s σ H xs us Q I r h
 obtain⟨i,j,rfl,q⟩:=h
 obtain⟨u,w',rfl,⟨t,rfl⟩,⟨t',rfl⟩⟩:=vals2 r
 refine max_two_ints (I.ok.hd hc) fun h' tk k=>⟨_,H,I.kept k,?_,q⟩
 by_cases hj:j>i
 ·rw[lJc hj,lJc hj];exact⟨_,rfl⟩
 ·rw[lJb hj,lJb hj];exact⟨_,rfl⟩
end
section
variable {prog:Program} {w:World} {A:Around} {E:Value->Shared->Prop} {s:Shared} {K:PySem.W.Frag} {x dx C f:Addr} {mA:Str->Option Value} {name:Str} {v:Value}
end
theorem RelO.some_of {v:V} {o:Option Value} (r:RelO (some v) o):∃u,o=some u/\RelV v u:=by
 cases o with
 | none=>exact (show False from r).elim
 | some u=>exact⟨u,rfl,r⟩
section
variable {P:Program} {w:World} {H H':Hp} {h h':Heap} {a C dx:Addr} {fs fs':List (Str×V)}
end
section
variable {X:Cx} {pins:List (Addr×Obj)} {σ:St} {H:Hp} {s:Shared} {a C dx:Addr} {fs:List (Str×V)} {f:Str} {v:V} {A:Around} {E:Value->Shared->Prop}
end
section
variable {X:Cx} {o e value:Expr} {f:Str} {pos pos' tpos:Pos} {ta tv:TE}
def rSub:V->V->Hp->VK->Prop:=fun x y H Q=>∃i j,x= .int i/\y= .int j/\Q (.int (i-j)) H
end
section
variable {X:Cx} {pins:List (Addr×Obj)} {σ:St} {H:Hp} {s:Shared} {A:Around} {E:Value->Shared->Prop} {Q:Value->Shared->Prop} {c:Value} {b:Bool}
end
structure Room (k:Nat) (A:Around):Prop where
 hd:A.handled=none
 gd:A.guards=some []
 dp:A.depth+3*k+5<recursionLimit
 un:A.units+16*k+200<cLine
theorem Room.mono {j k:Nat} {A:Around} (r:Room k A) (h:j<=k):Room j A:=⟨r.hd,r.gd,by have:=r.dp;omega,by have:=r.un;omega⟩
theorem Room.deeper {k:Nat} {A:Around} (r:Room (k+1) A) (env:Env):Room k (A.deeper env):=
 ⟨r.hd,r.gd,by have:=r.dp;show A.depth+1+3*k+5<_;omega,by have:=r.un;show A.units+3+16*k+200<_;omega⟩
theorem Room.depth {k:Nat} {A:Around} (r:Room k A):A.depth<recursionLimit:=by have:=r.dp;omega
theorem Room.units {k:Nat} {A:Around} (r:Room k A):A.units+64<cLine:=by have:=r.un;omega
section
variable {X:Cx} {e:Expr} {es:List Expr} {te:TE} {t:TA} {pos:Pos}
end
abbrev Sp:=List V->Hp->VK->XK->Prop
abbrev CXT:=List Env->Hp->Shared->XK->Value->Shared->Prop
structure Env0 (P:Program) (w:World) (K:PySem.W.Frag) (mg:Str->Option Value) (base:Heap) (A:Around) (outer:List Env) (s:Shared) (H:Hp):Prop where
 frames:A.frames=some outer
 mod:Mod K mg base
 bs:∀b o,base.get? b=some o->s.heap.get? b=some o/\H b=none
 bsz:base.objs.size<=s.heap.objs.size
 funs:s.heap.FunFrames base outer
 frf:∀b∈frs outer,H b=none
 hok:HOk P w H s.heap
 bare:AllBare s.gens
def CE (outer:List Env) (P:Program) (w:World) (H:Hp) (s:Shared) (Q:VK) (u:Value) (s':Shared):Prop:=
 ∃v H',s'.os=s.os/\AllBare s'.gens/\Un (frs outer) [] H H' s.heap s'.heap/\HOk P w H' s'.heap/\RelV v u/\Q v H'
def CR (CX:CXT) (outer:List Env) (P:Program) (w:World) (H:Hp) (s:Shared) (Q:VK) (E:XK) (r:Result) (s':Shared):Prop:=
 match r with
 | .ok (.ret u)=>CE outer P w H s Q u s'
 | .ok _=>False
 | .error e=>CX outer H s E e s'
structure FnOk (P:Program) (w:World) (K:PySem.W.Frag) (mg:Str->Option Value) (base:Heap) (CX:CXT) (k:Nat) (f:Addr) (fd:FuncData) (ps:List Str) (sp:Sp):Prop where
 len:∀vs H Q E,sp vs H Q E->vs.length=ps.length
 run:∀(A:Around) (outer:List Env) (s:Shared) (H:Hp) (args:Args) (us:List Value) (vs:List V) (Q:VK) (E:XK),Room k A->Env0 P w K mg base A outer s H->BindsTo s fd args (ps.zip us)->Vals vs us->sp vs H Q E->
  codeAny (model P w) A (.call (.ref f) args) (CR CX outer P w H s Q E) s
section
variable {X:Cx} {pins:List (Addr×Obj)} {σ:St} {H:Hp} {s s':Shared}
theorem Inv.env0 (I:Inv X pins σ H s):Env0 X.prog X.w X.K X.mg X.base X.A X.stack s H:=
 ⟨I.ok.frames,I.ok.mod,I.bs,lKd I.ok.bsz I.sz,I.stack,I.stkFree,I.hok,I.bare⟩
theorem Inv.after {Q:VK} {u:Value} (I:Inv X pins σ H s) (h:CE X.stack X.prog X.w H s Q u s'):EP X pins σ Q u s':=by
 obtain⟨v,H',os,bare,un,hok,r,q⟩:=h
 obtain⟨hh,g,d,t,os'⟩:=s'
 obtain rfl:os'=s.os:=os
 exact⟨v,H',I.call (h':=hh) (g':=g) (d':=d) (t':=t) (ch:=[]) un hok bare (fun b z=>absurd z (by simp)),r,q⟩
end
def Binds (K:PySem.W.Frag) (fd:FuncData) (ps:List Str) (ds:List Value):Prop:=
 ∀(s:Shared) (us:List Value),K.In s.heap->(us++ds).length=ps.length->BindsTo s fd ⟨us,[]⟩ (ps.zip (us++ds))
theorem Binds.all {K:PySem.W.Frag} {fd:FuncData} {ps:List Str} (h:∀us:List Value,us.length=ps.length->bindArgs fd ⟨us,[]⟩=pure (ps.zip us)):Binds K fd ps []:=fun s us _ hl=>by
 rw[lKz] at hl ⊢
 exact .of_eq (h us hl)
def qVd (CX:CXT) (X:Cx) (E:XK):Prop:=∀(pins:List (Addr×Obj)) (σ:St) (H:Hp) (s:Shared) (e:Value) (s':Shared),Inv X pins σ H s->CX X.stack H s E e s'->X.xe e s'
section
variable {X:Cx} {CX:CXT} {k:Nat} {f C:Addr} {fd:FuncData} {ps:List Str} {sp:Sp} {dvs:List V} {ds:List Value} {E:XK} {x m:Str} {p pos apos:Pos} {e o:Expr} {es:List Expr} {ta:TE} {t:TA}
theorem run_fn {pins:List (Addr×Obj)} {σ:St} {H:Hp} {s:Shared} {Q:VK} {us:List Value} {vs:List V} (F:FnOk X.prog X.w X.K X.mg X.base CX k f fd ps sp) (hr:Room k X.A) (hb:Binds X.K fd ps ds) (hd:Vals dvs ds) (hx:qVd CX X E)
  (I:Inv X pins σ H s) (r:Vals vs us) (h:sp (vs++dvs) H Q E):wpAny (model X.prog X.w) X.A (call (.ref f) us) (EP X pins σ Q) X.xe s:=by
 have r2:Vals (vs++dvs) (us++ds):=r.append hd
 have hl:(us++ds).length=ps.length:=by rw[<-r2.length];exact F.len _ _ _ _ h
 refine wpAny_call (lVr (F.run X.A X.stack s H ⟨us,[]⟩ (us++ds) (vs++dvs) Q E hr I.env0 (hb s us I.kIn hl) r2 h) fun r s' hq=> ?_)
 cases r with
 | error e=>exact hx pins σ H s e s' I hq
 | ok fl=>
  cases fl with
  | ret u=>exact I.after hq
  | next=>exact False.elim hq
  | brk=>exact False.elim hq
  | cont=>exact False.elim hq
end
section
variable {X:Cx} {CX:CXT} {k:Nat} {f C:Addr} {fd:FuncData} {ps ks:List Str} {sp:Sp} {E:XK} {x m:Str} {p pos apos kpos:Pos} {e o:Expr} {es:List Expr} {kws:List Keyword} {te ta:TE} {t tk:TA} {nm:Option Str}
variable {g:List Value->List Value->List Value} {gV:List V->List V->List V}
end
structure FnScope (N P:List Str) (sc:Scope):Prop where
 kind:sc.kind= .function
 co:sc.isCoroutine=false
 gen:sc.isGenerator=false
 nd:N.Nodup
 pre:N.take P.length=P
 par:∀x∈P,sc.names.lookup x=some .local\/sc.names.lookup x=some .cell
 nofree:∀y∈sc.names,y.2≠ .free
theorem kQi {kindOf:Str->Option NameKind} {x:Str}:∀ {binds:List (Str×Value)} {m:Str->Option Value},(∀v,(x,v)∉binds)->bindL kindOf binds m x=m x
 | [],_,_=>rfl
 | (n,v)::r,m,h=>by
  unfold bindL
  rw[kQi fun w hw=>h w (lJ2 _ hw)]
  split
  ·have:x≠n:=by rintro rfl;exact h v lJ1
   simp[this]
  ·rfl
theorem kQk {kindOf:Str->Option NameKind} {x:Str}:∀ {binds:List (Str×Value)} {m:Str->Option Value},(∀v,(x,v)∉binds)->bindC kindOf binds m x=m x
 | [],_,_=>rfl
 | (n,v)::r,m,h=>by
  unfold bindC
  rw[kQk fun w hw=>h w (lJ2 _ hw)]
  split
  ·rfl
  ·have:x≠n:=by rintro rfl;exact h v lJ1
   simp[this]
theorem kQj {kindOf:Str->Option NameKind} {x:Str} {v:Value}:∀ {P:List Str} {vs:List Value} {i:Nat} {m:Str->Option Value},P.Nodup->P[i]? =some x->vs[i]? =some v->kindOf x=some .local->
  bindL kindOf (P.zip vs) m x=some v
 | [],_,_,_,_,h,_,_=>by simp at h
 | _::_,[],_,_,_,_,h,_=>by simp at h
 | p::P,w::vs,0,m,nd,h1,h2,hk=>by
  simp at h1 h2;subst h1;subst h2
  show bindL kindOf ((p,w)::P.zip vs) m p=_
  unfold bindL
  rw[kQi fun v hv=>(lKu.mp nd).1 (List.of_mem_zip hv).1,lJc hk]
  simp
 | p::P,w::vs,i+1,m,nd,h1,h2,hk=>by
  show bindL kindOf ((p,w)::P.zip vs) m x=_
  unfold bindL
  exact kQj (i:=i) (lKu.mp nd).2 (by simpa using h1) (by simpa using h2) hk
theorem kQl {kindOf:Str->Option NameKind} {x:Str} {v:Value}:∀ {P:List Str} {vs:List Value} {i:Nat} {m:Str->Option Value},P.Nodup->P[i]? =some x->vs[i]? =some v->kindOf x≠some .local->
  bindC kindOf (P.zip vs) m x=some v
 | [],_,_,_,_,h,_,_=>by simp at h
 | _::_,[],_,_,_,_,h,_=>by simp at h
 | p::P,w::vs,0,m,nd,h1,h2,hk=>by
  simp at h1 h2;subst h1;subst h2
  show bindC kindOf ((p,w)::P.zip vs) m p=_
  unfold bindC
  rw[kQk fun v hv=>(lKu.mp nd).1 (List.of_mem_zip hv).1,lJb hk]
  simp
 | p::P,w::vs,i+1,m,nd,h1,h2,hk=>by
  show bindC kindOf ((p,w)::P.zip vs) m x=_
  unfold bindC
  exact kQl (i:=i) (lKu.mp nd).2 (by simpa using h1) (by simpa using h2) hk
def start (N:List Str) (vs:List V):St:=vs.map some++List.replicate (N.length-vs.length) none
noncomputable def cxOf (CX:CXT) (P:Program) (w:World) (K:PySem.W.Frag) (mg:Str->Option Value) (base:Heap) (N:List Str) (qual:Str) (scope:Scope) (f:Addr) (cd:Value) (A:Around) (outer:List Env) (s:Shared) (H:Hp) (E:XK):Cx where
 prog:=P
 w:=w
 K:=K
 mg:=mg
 base:=base
 A:=A.deeper (envOfC qual scope s.heap.objs.size f cd)
 N:=N
 s₀:=s
 H₀:=H
 env:=envOfC qual scope s.heap.objs.size f cd
 outer:=outer
 stack:=envOfC qual scope s.heap.objs.size f cd::outer
 ex:=[]
 calm:=true
 fn:=fun _=>true
 pn:=[]
 xe:=fun e s'=>wpAny (model P w) (A.deeper (envOfC qual scope s.heap.objs.size f cd)) (leaving (envOfC qual scope s.heap.objs.size f cd) e) (fun _ s''=>CX outer H s E e s'') (fun e' s''=>CX outer H s E e' s'') s'
theorem kV2 {sc:Scope} {n:Nat} {x:Str} (h:sc.names.lookup x=some .cell):∃c,(cellsFrom n sc.names []).lookup x=some c:=by
 have q:=PySem.W.cellsFrom_some sc.names n [] (.inl h)
 exact lVe.mp q
theorem kZ0 {CX:CXT} {P:Program} {w:World} {K:PySem.W.Frag} {mg:Str->Option Value} {base:Heap} {N ps:List Str} {qual:Str} {scope:Scope} {f:Addr} {cd:Value} {A:Around} {outer:List Env} {s s1:Shared} {H:Hp} {E:XK} {us:List Value} {vs:List V}
  (S:FnScope N ps scope) (hd:A.handled=none/\A.guards=some []) (e0:Env0 P w K mg base A outer s H) (hl:vs.length=ps.length) (r:Vals vs us)
  (x:InCallC s s.heap.objs.size (bindL (envOfC qual scope s.heap.objs.size f cd).kindOf (ps.zip us) fun _=>none) (cellsFrom (s.heap.objs.size+1) scope.names []) (bindC (envOfC qual scope s.heap.objs.size f cd).kindOf (ps.zip us) fun _=>none) s1):
  Inv (cxOf CX P w K mg base N qual scope f cd A outer s H E) [] (start N vs) H s1:=by
 have hpl:ps.length<=N.length:=by have:=lKo List.length S.pre;rw[lK1] at this;omega
 obtain⟨h1,tk,rfl,hk⟩:=x.done
 have noA:∀b:Addr,b∉(cxOf CX P w K mg base N qual scope f cd A outer s H E).ex:=fun b z=>absurd (show b∈([]:List Addr) from z) (by simp)
 refine⟨⟨e0.mod,S.kind,rfl,rfl,lJg _,fun y z c h1 h2=> ?_,fun y hy=> ?_,fun y c _ h=> ?_,fun _=>hd.1,fun _=>hd.2,Around.frames_deeper e0.frames,.inr ⟨rfl,rfl⟩,fun b z=>absurd z (noA b),e0.bs,e0.bsz,fun b _ _=>noA b,fun b z=>absurd z (noA b),e0.funs,e0.frf⟩,
  rfl,e0.bare,Un.kept hk,⟨_,x.toInCall.ns,fun i y v h1 h2 h3=> ?_⟩,fun y c h=>⟨_,x.cell y c h⟩,e0.hok.fresh (lJg _),fun y c h=> ?_,fun p hp=>absurd (show p∈([]:List (Addr×Obj)) from hp) (by simp),e0.hok.kept hk,?_⟩
 ·exact name_of_addr x.apart (lJ3 h1) (lJ3 h2)
 ·have hy:scope.names.lookup y=some .cell\/scope.names.lookup y=some .free:=hy
  rcases hy with hy | hy
  ·exact kV2 hy
  ·exact absurd rfl (S.nofree _ (lJ3 hy))
 ·exact lQ3 (x.above y c (lJ3 h))
 ·have hi:i<vs.length:=by
   unfold start at h2
   by_cases hi:i<vs.length
   ·exact hi
   ·rw[lK8 (by simpa using hi)] at h2
    rw[List.getElem?_replicate] at h2
    split at h2<;>cases h2
  have ha:vs[i]? =some v:=by
   unfold start at h2
   rw[lK9 (by simpa using hi),lJz] at h2
   cases e:vs[i]? with
   | none=>rw[e] at h2;cases h2
   | some a=>rw[e] at h2;cases h2;rfl
  obtain⟨u,hu,rv⟩:=r.get ha
  have hp:ps[i]? =some y:=by
   rw[<-S.pre,lY2 (by omega)];exact h1
  have ndP:ps.Nodup:=by rw[<-S.pre];exact S.nd.sublist (lQu _ _)
  refine⟨u,rv,?_⟩
  rcases S.par y (lJx hp) with k | k
  ·exact .inl ⟨k,kQj ndP hp hu k⟩
  ·obtain⟨c,e⟩:=kV2 (n:=s.heap.objs.size+1) k
   refine .inr ⟨.inl k,c,e,?_⟩
   have q:=x.cell y c e
   rw[kQl ndP hp hu (by show scope.names.lookup y≠_;rw[k];decide)] at q
   exact q
 ·exact .inl (e0.hok.fresh (lQ3 (x.above y c (lJ3 h))))
 ·unfold start
  show _=N.length
  rw[lKb,lJf,List.length_replicate]
  omega
theorem fn_of {CX:CXT} {P:Program} {w:World} {K:PySem.W.Frag} {mg:Str->Option Value} {base:Heap} {k:Nat} {f:Addr} {name qual:Str} {params:Arguments} {body:List Stmt} {scope:Scope} {dV kV doc pm cdv ct oc:Value} {an od:Option Addr}
  {osl:Array (Option Value)} {N ps:List Str} {sp:Sp} (lk:K.lookup f=some ⟨oc,od,.func (PySem.W.fnOf name qual params body scope dV kV doc pm an cdv ct),osl⟩) (hcd:PySem.W.codeIn K cdv qual=true) (S:FnScope N ps scope)
  (len:∀vs H Q E,sp vs H Q E->vs.length=ps.length)
  (hbody:∀(A:Around) (outer:List Env) (s:Shared) (H:Hp) (vs:List V) (Q:VK) (E:XK),Room k (A.deeper (envOfC qual scope s.heap.objs.size f cdv))->sp vs H Q E->
   ∃t,PSs (cxOf CX P w K mg base N qual scope f cdv A outer s H E) body t/\t {nx:=fun _ H'=>Q .non H',rt:=Q} (start N vs) H):
  FnOk P w K mg base CX (k+1) f (PySem.W.fnOf name qual params body scope dV kV doc pm an cdv ct) ps sp:=by
 refine⟨len,fun A outer s H args us vs Q E hr e0 hb r hsp=> ?_⟩
 have hl:=len _ _ _ _ hsp
 have KX:K.In s.heap:=e0.mod.kin.keeps fun b o e=>(e0.bs b o e).1
 have lim:s.heap.NoLimit:=e0.mod.nolimit.keeps fun b o e=>(e0.bs b o e).1
 have hkind:∀y∈ps.zip us,scope.names.lookup y.1=some .local\/(scope.names.lookup y.1=some .cell/\((cellsFrom (s.heap.objs.size+1) scope.names []).lookup y.1).isSome=true):=fun ⟨n,v⟩ hy=>by
  rcases S.par n (List.of_mem_zip hy).1 with q | q
  ·exact .inl q
  ·exact .inr ⟨q,PySem.W.cellsFrom_some _ _ _ (.inl q)⟩
 refine codeAny_call_function hr.depth (KX _ _ lk) rfl S.co S.gen rfl (PySem.W.codeRec_of KX hcd) (hb _ _ _ _ ?_)
 refine wpAny_newFunctionEnv_cells S.kind hkind fun env he s1 x=> ?_
 subst he
 refine⟨lim.keeps x.toInCall.keep,codeAny_func ?_⟩
 obtain⟨t,ht,hq⟩:=hbody A outer s H vs Q E (hr.deeper _) hsp
 have I:Inv (cxOf CX P w K mg base N qual scope f cdv A outer s H E) [] (start N vs) H s1:=kZ0 S ⟨hr.hd,hr.gd⟩ e0 hl r x
 refine lQf (ht [] s1 (start N vs) H _ I hq) (fun fl s' hs=> ?_) fun e s' hs=>hs
 have fin:∀ {σ':St} {H':Hp} {v:V} {u:Value},Inv (cxOf CX P w K mg base N qual scope f cdv A outer s H E) [] σ' H' s'->RelV v u->Q v H'->CE outer P w H s Q u s':=
  fun {σ' H' v u} J rv q=>⟨v,H',J.os,J.bare,J.base,J.hok,rv,q⟩
 cases fl with
 | ret u=>
  obtain⟨v,σ',H',J,rv,q⟩:=hs
  exact fin J rv q
 | next=>
  obtain⟨σ',H',J,q⟩:=hs
  exact fin (v:=V.non) (u:=Value.none) J rfl q
 | brk=>
  obtain⟨_,_,_,q⟩:=hs
  exact False.elim q
 | cont=>
  obtain⟨_,_,_,q⟩:=hs
  exact False.elim q
section
variable {X:Cx} {x:Str} {p pos:Pos} {e:Expr} {es:List Expr} {t:TA} {id T:String} {r:List V->Hp->VK->Prop}
end
end L2
namespace HT
open PySem PyProof.Rows
theorem qQ3 (A:Around) (s:Shared) (a:Int) (t:Tok) (c:Int) (u:Tok):∃e,SeqAt.EqAt A s (.int a t) (.int c u) e/\(e=true↔a=c):=
 ⟨(a == c),SeqAt.EqAt.int_int a t c u,by simp⟩
section
open PySem.SeqAt
open PySem.AutoSeq1 (wpAny_loadPart')
open PySem.MeetsSeq PySem.MeetsSeq2 PySem.MeetsSeq3
end
section
variable {prog:Program} {w:World} {A:Around} {E:Value->Shared->Prop} {s:Shared}
theorem cat_tup {t b:Addr} {vs ws:List Value} {Q:Value->Shared->Prop} (ht:IsTup s.heap t vs.toArray) (hb:IsTup s.heap b ws.toArray) (hv:vs≠[])
  (h1:ws=[]->Q (.ref t) s) (h2:ws≠[]->Q (.ref s.heap.objs.size) {s with heap:=s.heap.push {cls:= .type "tuple",data:= .seq (vs++ws).toArray} })
  (hsz:vs.length+ws.length<=sizeLine):wpAny (model prog w) A (binaryOp .Add (.ref t) (.ref b)) Q E s:=by
 obtain⟨⟨cls,dd,data,sl⟩,ho,hc,n,hd⟩:=id ht
 obtain⟨⟨cls2,dd2,data2,sl2⟩,ho2,hc2,n2,hd2⟩:=id hb
 simp only at hc hd hc2 hd2
 subst hc hd hc2 hd2
 have e:vs.toArray++ws.toArray=(vs++ws).toArray:=by simp
 by_cases hw:ws=[]
 ·exact concat_meets ⟨_,ho,rfl⟩ ⟨_,ho2,rfl⟩ noFill_tuple_add seq_tuple_add PySem.F.slot_tuple_add PySem.F.entry_tuple_add (lY3 _ _)
   (tuple_addW1 t b vs.toArray ws.toArray n n2 dd dd2 sl sl2 (by simpa using hv) (by simp[hw])) ⟨ho,ho2,h1 hw⟩
 ·refine concat_meets ⟨_,ho,rfl⟩ ⟨_,ho2,rfl⟩ noFill_tuple_add seq_tuple_add PySem.F.slot_tuple_add PySem.F.entry_tuple_add (lY3 _ _)
   (tuple_addW2 t b vs.toArray ws.toArray n n2 dd dd2 sl sl2 (by simpa using hv) (by simpa using hw) (by rw[lJu,lJu];exact hsz)) ⟨ho,ho2,?_⟩
  rw[e]
  exact h2 hw
def sIx (n d:Nat):Option Int->Nat
 | none=>d
 | some v=>if v<0 then (v+(n:Int)).toNat else min v.toNat n
theorem sIx_le (n d:Nat) (hd:d<=n) (o:Option Int):sIx n d o<=n:=by
 cases o with
 | none=>exact hd
 | some v=>
  show (if v<0 then (v+(n:Int)).toNat else min v.toNat n)<=n
  by_cases hv:v<0
  ·rw[lJc hv];omega
  ·rw[lJb hv];exact Nat.min_le_right _ _
theorem qJy (v:Int) (n d:Nat):(if v<0 then max (v+(n:Int)) 0 else min v (n:Int))=((sIx n d (some v):Nat):Int):=by
 show (if v<0 then max (v+(n:Int)) 0 else min v (n:Int))=(((if v<0 then (v+(n:Int)).toNat else min v.toNat n):Nat):Int)
 by_cases hv:v<0
 ·simp only[lJc hv];omega
 ·simp only[lJb hv];omega
theorem kXz (lo hi:Option Int) (n:Nat):Builtin.Slice.sliceAdjust lo hi 1 (n:Int)=(((sIx n 0 lo:Nat):Int),((sIx n n hi:Nat):Int)):=by
 have h1:¬ ((1:Int)<0):=by omega
 unfold Builtin.Slice.sliceAdjust
 simp only[h1,lKj]
 refine Prod.ext ?_ ?_
 ·cases lo with
  | none=>rfl
  | some v=>exact qJy v n 0
 ·cases hi with
  | none=>rfl
  | some v=>exact qJy v n n
theorem kXh (i j:Nat):Builtin.Slice.slicePlaces (i:Int) (j:Int) 1=j-i:=by
 unfold Builtin.Slice.slicePlaces
 have h1:(1:Int)>0:=by omega
 simp only[h1,lKl,Int.ediv_one]
 split<;>omega
theorem jZ2 {v:Value} {o:Option Int} {Q:Option Int->Shared->Prop} (p:IsPart v o) (h:Q o s):wpAny (model prog w) A (Builtin.Slice.slicePartIndex v) Q E s:=by
 cases p with
 | none=>exact slicePart_none h
 | int i t=>exact slicePart_int h
theorem jUi {sl:Addr} {vl vu:Value} {lo hi:Option Int} {n:Nat} {Q:Int×Int×Nat->Shared->Prop} (hs:s.heap.IsSliceOf sl vl vu .none) (pl:IsPart vl lo) (pu:IsPart vu hi)
  (h:Q (((sIx n 0 lo:Nat):Int),1,sIx n n hi-sIx n 0 lo) s):wpAny (model prog w) A (Builtin.Slice.sliceApplied (.ref sl) (pure (n:Int))) Q E s:=by
 obtain⟨os,hos,hcs,hds⟩:=id hs
 unfold Builtin.Slice.sliceApplied Builtin.Slice.sliceFields
 refine lJa (lJa (lVa hos hds (x:=vl) rfl (lJa (lVa hos hds (x:=vu) rfl (lJa (lVa hos hds (x:= .none) rfl (lJd ?_)))))))
 refine lJa (slicePart_none ?_)
 show wpAny _ _ (if ((1:Int) == 0)=true then _ else _) _ _ s
 rw[lJb (by decide)]
 refine lJa (jZ2 pl (lJa (jZ2 pu (lJa (lJd ?_)))))
 show wpAny _ _ (match Builtin.Slice.sliceAdjust lo hi 1 (n:Int) with | (lo,hi)=>pure (lo,(1:Int),Builtin.Slice.slicePlaces lo hi 1)) _ _ s
 rw[kXz lo hi n]
 show wpAny _ _ (pure (((sIx n 0 lo:Nat):Int),(1:Int),Builtin.Slice.slicePlaces ((sIx n 0 lo:Nat):Int) ((sIx n n hi:Nat):Int) 1)) _ _ s
 rw[kXh]
 exact lJd h
theorem qQa (xs:Array Value) (i k:Nat):((List.range k).filterMap fun (m:Nat)=>xs[((i:Int)+(m:Int)*1).toNat]?).toArray=((xs.toList.drop i).take k).toArray:=by
 have e:(fun (m:Nat)=>xs[((i:Int)+(m:Int)*1).toNat]?)=fun m=>xs[i+m]? :=by
  funext m
  have:((i:Int)+(m:Int)*1).toNat=i+m:=by omega
  rw[this]
 rw[e]
 have:=pick_run xs i k
 rw[List.filterMap_map] at this
 have e2:((fun x=>xs[x]?)∘fun x=>i+x)=fun m=>xs[i+m]? :=rfl
 rw[e2] at this
 rw[this]
theorem getItem_tuple_cut {t sl:Addr} {items:Array Value} {vl vu:Value} {lo hi:Option Int} {Q:Value->Shared->Prop} (ht:IsTup s.heap t items) (hs:s.heap.IsSliceOf sl vl vu .none) (pl:IsPart vl lo) (pu:IsPart vu hi)
  (hw:¬ (sIx items.size 0 lo=0/\sIx items.size items.size hi=items.size))
  (h:Q (.ref s.heap.objs.size) {s with heap:=s.heap.push {cls:= .type "tuple",data:= .seq ((items.toList.drop (sIx items.size 0 lo)).take (sIx items.size items.size hi-sIx items.size 0 lo)).toArray} })
  (hsz:items.size<=sizeLine):wpAny (model prog w) A (getItem (.ref t) (.ref sl)) Q E s:=by
 have htake:sizeOk (.seq ((items.toList.drop (sIx items.size 0 lo)).take (sIx items.size items.size hi-sIx items.size 0 lo)).toArray):=by
  show ((items.toList.drop (sIx items.size 0 lo)).take (sIx items.size items.size hi-sIx items.size 0 lo)).toArray.size<=sizeLine
  rw[lJu,lK1,lVw,lKf]
  omega
 have hj:sIx items.size items.size hi<=items.size:=sIx_le _ _ (lJg _) hi
 obtain⟨os,hos,hcs,hds⟩:=id hs
 have hTs:s.TypeIs (.ref sl) "slice":=⟨os,hos,hcs⟩
 unfold getItem
 try with_reducible refine lKy ?_
 first | refine lJa (lJd ?_) | skip
 refine lJa (wpAny_sequenceKey ht.typeIs (by decide) ?_)
 refine lJa (lXw (name:=Str.ofString "__getitem__") ht.typeIs lXb
  (lQs lXb ht.typeIs entry_tuple_getitem ?_ (args_tuple_getitem _ _)))
 show wpAny _ _ (Builtin.Tuple.tupleItemsOf (.ref t) >>= _) _ _ s
 refine lJa (tupleItemsOf_ ht ?_)
 refine lJa (lVs hTs ?_)
 rw[lJc (by decide)]
 refine lJa (jUi hs pl pu ?_)
 have hno:¬ ((((sIx items.size 0 lo:Nat):Int) == 0&&(1:Int) == 1&&(sIx items.size items.size hi-sIx items.size 0 lo) == items.size)=true):=by
  intro q
  rw[lK2,lK2] at q
  have q1:((sIx items.size 0 lo:Nat):Int)=0:=eq_of_beq q.1.1
  have q2:sIx items.size items.size hi-sIx items.size 0 lo=items.size:=eq_of_beq q.2
  exact hw ⟨by omega,by omega⟩
 show wpAny _ _ (if (((sIx items.size 0 lo:Nat):Int) == 0&&(1:Int) == 1&&(sIx items.size items.size hi-sIx items.size 0 lo) == items.size)=true then _ else _) _ _ s
 rw[lJb hno,qQa]
 first
  | exact lJa (m:=Builtin.Tuple.tupleExact _) (lQl (lJd ⟨_,rfl,lJd h⟩) htake)
  | exact lJa (m:=Builtin.Tuple.tupleExact _) (lQl (lJa (lJd (lJd ⟨_,rfl,lJd h⟩))) htake)
  | exact lJa (lJa (m:=Builtin.Tuple.tupleExact _) (lQl (lJd (lJd ⟨_,rfl,lJd h⟩)) htake))
  | exact lJa (lJa (m:=Builtin.Tuple.tupleExact _) (lQl (lJd ⟨_,rfl,lJd h⟩) htake))
end
end HT
namespace L2
open PySem PySem.Spec PyProof.Rows
abbrev TO:=St->Hp->(Option Int->Hp->Prop)->Prop
theorem kJa {ns:List Int}:∀ {us:List Value},Vals (ns.map V.int) us->IntsAre us ns:=by
 induction ns with
 | nil=>intro us r;rw[List.map_nil] at r;cases r;exact .nil
 | cons n ns ih=>
  intro us r
  rw[lJo] at r
  cases r with
  | cons r1 r2=>
   obtain⟨t,e⟩:=r1
   subst e
   exact .cons n t (ih r2)
section
variable {X:Cx} {e:Expr} {te:TE} {lo hi:Option Expr} {tl th:TO} {pos p2:Pos}
def SlR (X:Cx) (r:V->Option Int->Option Int->Hp->VK->Prop):Prop:=
 ∀(pins:List (Addr×Obj)) (s:Shared) (σ:St) (H:Hp) (x:V) (v vl vu:Value) (lo hi:Option Int) (sl:Addr) (Q:VK),Inv X pins σ H s->RelV x v->s.heap.IsSliceOf sl vl vu .none->IsPart vl lo->IsPart vu hi->r x lo hi H Q->
  ∃T id,typeLookup (.type T) "__getitem__"=pure (some (.builtin id))/\s.TypeIs v T/\wpAny (model X.prog X.w) X.A (getItem v (.ref sl)) (EP X pins σ Q) X.xe s
def cutV (xs:List V) (lo hi:Option Int):List V:=(xs.drop (HT.sIx xs.length 0 lo)).take (HT.sIx xs.length xs.length hi-HT.sIx xs.length 0 lo)
theorem jZi (xs:List V) (lo hi:Option Int):(cutV xs lo hi).length<=xs.length:=by
 unfold cutV
 rw[lK1,lVw]
 omega
noncomputable def rSlT (K:PySem.W.Frag):V->Option Int->Option Int->Hp->VK->Prop:=fun x lo hi H Q=>∃a xs,x= .ref a/\SqT K H a xs/\
 ¬ (HT.sIx xs.length 0 lo=0/\HT.sIx xs.length xs.length hi=xs.length)/\∀p,H p=none->Q (.ref p) (upd H p (.tup (cutV xs lo hi)))
theorem sl_tup:SlR X (rSlT X.K):=by
 intro pins s σ H x v vl vu lo hi sl Q I rx hs pl pu h
 obtain⟨a,xs,rfl,hx,hw,q⟩:=h
 cases rx
 obtain⟨its,r,ht,hz⟩:=I.tuple hx
 have hlen:its.toArray.size=xs.length:=by rw[lJu];exact r.length.symm
 refine⟨"tuple",_,lXb.lookup,ht.typeIs,?_⟩
 refine HT.getItem_tuple_cut ht hs pl pu (by rw[hlen];exact hw) ?_ (by rw[hlen];exact hz)
 rw[hlen]
 refine⟨.ref s.heap.objs.size,_,I.laid (t':=s.toks) (o:= .tup (cutV xs lo hi)) (fun b ob q=>lJl _ q) (lJg _) ?_,rfl,q _ (I.hok.fresh (lJg _))⟩
 exact⟨lKd (jZi xs lo hi) hz,_,(r.drop (HT.sIx xs.length 0 lo)).take (HT.sIx xs.length xs.length hi-HT.sIx xs.length 0 lo),TupD.new _ _⟩
noncomputable def qK8 (K:PySem.W.Frag):R2:=fun x y H Q=>∃a b xs ys,x= .ref a/\y= .ref b/\SqT K H a xs/\SqT K H b ys/\xs≠[]/\xs.length+ys.length<=sizeLine/\
 (ys=[]->Q (.ref a) H)/\(ys≠[]->∀p,H p=none->Q (.ref p) (upd H p (.tup (xs++ys))))
theorem Vals.nil_iff {xs:List V} {us:List Value} (r:Vals xs us):us=[]↔xs=[]:=by
 cases r with
 | nil=>simp
 | cons _ _=>simp
theorem qV1:OpR X (binaryOp .Add) (qK8 X.K):=by
 intro pins s σ H x y v u Q I rx ry h
 obtain⟨a,b,xs,ys,rfl,rfl,ha,hb,hx,hz,q1,q2⟩:=h
 cases rx
 cases ry
 obtain⟨its,r1,p1,_⟩:=I.tuple ha
 obtain⟨its2,r2,p2,_⟩:=I.tuple hb
 refine HT.cat_tup p1 p2 (fun z=>hx (r1.nil_iff.mp z)) (fun z=>⟨.ref a,H,I,rfl,q1 (r2.nil_iff.mp z)⟩) (fun z=> ?_) (by rw[<-r1.length,<-r2.length];exact hz)
 refine⟨.ref s.heap.objs.size,_,I.laid (t':=s.toks) (o:= .tup (xs++ys)) (fun b ob q=>lJl _ q) (lJg _) ?_,rfl,q2 (fun w=>z (r2.nil_iff.mpr w)) _ (I.hok.fresh (lJg _))⟩
 exact⟨by rw[lKb];exact hz,_,r1.append r2,TupD.new _ _⟩
end
def ixN (n:Nat) (i:Int):Option Nat:=if 0<=i then (if i<n then some i.toNat else none) else if -(n:Int)<=i then some (i+n).toNat else none
def atI {α:Type} (xs:List α) (i:Int):Option α:=(ixN xs.length i).bind fun j=>xs[j]?
theorem kZx {n:Nat} {i:Int} {j:Nat} (h:ixN n i=some j):seqIndex? i n=some j/\j<n/\ -(n:Int)<=i/\i<n:=by
 unfold ixN at h
 by_cases h0:0<=i
 ·rw[lJc h0] at h
  by_cases h1:i<n
  ·rw[lJc h1] at h
   have e:i.toNat=j:=lJ0 h
   exact⟨by rw[seqIndex_of h0 h1,e],by omega,by omega,h1⟩
  ·rw[lJb h1] at h;cases h
 ·rw[lJb h0] at h
  by_cases h1: -(n:Int)<=i
  ·rw[lJc h1] at h
   have e:(i+n).toNat=j:=lJ0 h
   exact⟨by rw[seqIndex_neg (by omega) h1,e],by omega,h1,by omega⟩
  ·rw[lJb h1] at h;cases h
theorem qJ7 {α:Type} {xs:List α} {i:Int} {v:α} (h:atI xs i=some v):∃j,seqIndex? i xs.length=some j/\xs[j]? =some v/\j<xs.length/\ -(xs.length:Int)<=i/\i<xs.length:=by
 unfold atI at h
 cases e:ixN xs.length i with
 | none=>rw[e] at h;cases h
 | some j=>
  rw[e] at h
  obtain⟨h1,h2,h3,h4⟩:=kZx e
  exact⟨j,h1,h,h2,h3,h4⟩
def qYq (b:Expr):Prop:=∀o i,subscripted b false o i=operate [o,i] (getItem o i)
def IxR (X:Cx) (r:R2):Prop:=
 ∀(value slice:Expr) (pins:List (Addr×Obj)) (s:Shared) (σ:St) (H:Hp) (x y:V) (v u:Value) (Q:VK),Inv X pins σ H s->RelV x v->RelV y u->r x y H Q->
  subscripted slice false v u=operate [v,u] (getItem v u)->wpAny (model X.prog X.w) X.A (subscriptTail value slice v u) (EP X pins σ Q) X.xe s
def MtR (X:Cx) (id:String) (r:V->List V->Hp->VK->Prop):Prop:=
 ∀(pins:List (Addr×Obj)) (s:Shared) (σ:St) (H:Hp) (x:V) (xs:List V) (v:Value) (us:List Value) (Q:VK),Inv X pins σ H s->RelV x v->Vals xs us->r x xs H Q->
  wpAny (model X.prog X.w) X.A (call (.builtin id) (v::us)) (EP X pins σ Q) X.xe s
section
variable {X:Cx} {a b:Expr} {ta tb:TE} {pos:Pos}
theorem IxR.or {r r':R2} (h:IxR X r) (h':IxR X r'):IxR X (fun x y H Q=>r x y H Q\/r' x y H Q):=by
 intro value slice pins s σ H x y v u Q I rx ry q hs
 rcases q with q | q
 ·exact h value slice pins s σ H x y v u Q I rx ry q hs
 ·exact h' value slice pins s σ H x y v u Q I rx ry q hs
def rIxL (K:PySem.W.Frag):R2:=fun x y H Q=>∃p xs i v,x= .ref p/\y= .int i/\SqL K H p xs/\atI xs i=some v/\Q v H
def rIxT (K:PySem.W.Frag):R2:=fun x y H Q=>∃p xs i v,x= .ref p/\y= .int i/\SqT K H p xs/\atI xs i=some v/\Q v H
theorem ix_list:IxR X (rIxL X.K):=by
 intro value slice pins s σ H x y v u Q I rx ry h hs
 obtain⟨p,xs,i,z,rfl,rfl,hq,he,q⟩:=h
 cases rx
 obtain⟨t,rfl⟩:=ry
 obtain⟨its,r,pl,hz⟩:=I.list hq
 obtain⟨j,h1,h2,h3,h4,h5⟩:=qJ7 he
 obtain⟨w,ew,rw'⟩:=r.get h2
 have hl:=r.length
 have hn:=jZ9
 have fin:EP X pins σ Q w s:=⟨z,H,I,rw',q⟩
 by_cases h0:0<=i
 ·have hj:i.toNat=j:=by
   rw[seqIndex_of h0 h5] at h1
   exact lJ0 h1
  exact item_listR pl.isList h0 (by omega) (by rw[hj];simpa using ew) fin hs
 ·have hj:(i+(its.toArray.size:Int)).toNat=j:=by
   rw[seqIndex_neg (by omega) h4] at h1
   rw[lJu,<-hl]
   exact lJ0 h1
  exact subscriptTail_builtinR (x:=w) pl.isList.typeIs slot_list_getitem.lookup
   (wpAny_getItem_list_neg (Q:=fun r s'=>r=w/\EP X pins σ Q r s') pl.isList (by omega) (by rw[lJu]<;>omega) (by omega) (by rw[hj];simpa using ew) ⟨rfl,fin⟩) hs
theorem ix_tup:IxR X (rIxT X.K):=by
 intro value slice pins s σ H x y v u Q I rx ry h hs
 obtain⟨p,xs,i,z,rfl,rfl,hq,he,q⟩:=h
 cases rx
 obtain⟨t,rfl⟩:=ry
 obtain⟨its,r,pl,hz⟩:=I.tuple hq
 obtain⟨j,h1,h2,h3,h4,h5⟩:=qJ7 he
 obtain⟨w,ew,rw'⟩:=r.get h2
 have hl:=r.length
 have hn:=jZ9
 have fin:EP X pins σ Q w s:=⟨z,H,I,rw',q⟩
 exact subscriptTail_builtinR (x:=w) pl.typeIs slot_tuple_getitem.lookup
  (getItem_tuple (j:=j) (Q:=fun r s'=>r=w/\EP X pins σ Q r s') pl (by omega) (by omega) (by rw[lJu,<-hl];exact h1) (by simpa using ew) ⟨rfl,fin⟩) hs
theorem kXo (its:List Value) (n j:Nat) (u:Value):Obj.mapSeq (·.setIfInBounds j u) {cls:= .type "list",data:= .seq its.toArray n}={cls:= .type "list",data:= .seq (its.set j u).toArray n}:=by
 simp[Obj.mapSeq]
theorem Inv.lst {pins:List (Addr×Obj)} {σ:St} {H:Hp} {s:Shared} {p:Addr} {xs:List V} (I:Inv X pins σ H s) (h:H p=some (.lst xs)):
  ∃(its:List Value) (n:Nat),Vals xs its/\s.heap.get? p=some {cls:= .type "list",data:= .seq its.toArray n}/\xs.length<=sizeLine:=by
 obtain⟨z,its,n,r,e⟩:=I.hok p _ h
 exact⟨its,n,r,e,z⟩
theorem Inv.lstUpd {pins:List (Addr×Obj)} {σ:St} {H:Hp} {s:Shared} {p:Addr} {xs ys:List V} {its its':List Value} {n n':Nat} {f:Obj->Obj} (I:Inv X pins σ H s) (h:H p=some (.lst xs))
  (ho:s.heap.get? p=some {cls:= .type "list",data:= .seq its.toArray n}) (hf:f {cls:= .type "list",data:= .seq its.toArray n}={cls:= .type "list",data:= .seq its'.toArray n'}) (r:Vals ys its') (hz:ys.length<=sizeLine) (t:Nat):
  Inv X pins σ (upd H p (.lst ys)) {s with heap:=s.heap.update p f,toks:=t}:=by
 have e:(s.heap.update p f).get? p=some {cls:= .type "list",data:= .seq its'.toArray n'}:=by
  rw[lX0 f ho (by rw[hf]<;>rfl),hf]
 refine I.write (x:=p) (e:=p) (by rw[h];trivial) (.inl rfl) (fun b u hb q=>(lYl _ _ (Ne.symm hb)).trans q) ⟨_,e⟩ ?_
 exact⟨hz,its',n',r,e⟩
def qK7:V->V->V->Hp->(Hp->Prop)->Prop:=fun o i v H Q=>∃p xs k j,o= .ref p/\i= .int k/\H p=some (.lst xs)/\ixN xs.length k=some j/\Q (upd H p (.lst (xs.set j v)))
theorem qKu:PSet X qK7:=by
 intro pins s σ H o i v ov iv u Q I ro ri rv h
 obtain⟨p,xs,k,j,rfl,rfl,hp,hj,q⟩:=h
 cases ro
 obtain⟨t,rfl⟩:=ri
 obtain⟨its,n,r,ho,hz⟩:=I.lst hp
 obtain⟨h1,h2,h3,h4⟩:=kZx hj
 have hl:=r.length
 have hn:=jZ9
 have I':Inv X pins σ (upd H p (.lst (xs.set j v))) {s with heap:=s.heap.update p (Obj.mapSeq (·.setIfInBounds j u))}:=
  I.lstUpd hp ho (kXo its n j u) (r.set rv j) (by rw[List.length_set];exact hz) s.toks
 by_cases h0:0<=k
 ·have hk:k.toNat=j:=by
   rw[seqIndex_of h0 h4] at h1
   exact lJ0 h1
  exact PySem.W.ki_setAt ho h0 (by omega) (by rw[lJu,<-hl];exact h4) (by rw[hk];exact⟨_,I',q⟩)
 ·have hk:(k+(its.toArray.size:Int)).toNat=j:=by
   rw[seqIndex_neg (by omega) h3] at h1
   rw[lJu,<-hl]
   exact lJ0 h1
  exact PySem.W.ki_setBack ho (by omega) (by rw[lJu,<-hl];exact h3) (by omega) (by rw[hk];exact⟨_,I',q⟩)
theorem kKn (lo hi:Option Int) (n:Nat):(sliceBounds lo hi none n).1=((HT.sIx n 0 lo:Nat):Int)/\(sliceBounds lo hi none n).2.1=((HT.sIx n n hi:Nat):Int)/\(sliceBounds lo hi none n).2.2=1:=by
 refine⟨?_,?_,rfl⟩
 ·cases lo with
  | none=>simp[sliceBounds,HT.sIx]
  | some i=>
   simp only[sliceBounds,HT.sIx,Option.getD_none,show (1:Int)>0 by decide,lKl]
   by_cases h:i<0
   ·simp only[h,lKl]<;>omega
   ·simp only[h,lKj]<;>omega
 ·cases hi with
  | none=>simp[sliceBounds,HT.sIx]
  | some i=>
   simp only[sliceBounds,HT.sIx,Option.getD_none,show (1:Int)>0 by decide,lKl]
   by_cases h:i<0
   ·simp only[h,lKl]<;>omega
   ·simp only[h,lKj]<;>omega
theorem kJt (its:List Value) (lo hi:Option Int):slicePick its.toArray lo hi none=((its.drop (HT.sIx its.length 0 lo)).take (HT.sIx its.length its.length hi-HT.sIx its.length 0 lo)).toArray:=by
 obtain⟨h1,h2,h3⟩:=kKn lo hi its.toArray.size
 unfold slicePick
 rw[h1,h2,h3]
 simp only[sliceRange_one,pick_run,lJu]<;>rfl
def rSlL (K:PySem.W.Frag):V->Option Int->Option Int->Hp->VK->Prop:=fun x lo hi H Q=>∃a xs,x= .ref a/\SqL K H a xs/\∀p,H p=none->Q (.ref p) (upd H p (.lst (cutV xs lo hi)))
theorem qVq:SlR X (rSlL X.K):=by
 intro pins s σ H x v vl vu lo hi sl Q I rx hs pl pu h
 obtain⟨a,xs,rfl,hx,q⟩:=h
 cases rx
 obtain⟨its,r,ht,hz⟩:=I.list hx
 have hlen:=r.length
 refine⟨"list",_,slot_list_getitem.lookup,ht.isList.typeIs,?_⟩
 refine wpAny_getItem_list_slice ht.isList hs pl pu .none (by simp) ?_ (by rw[lJu]<;>omega)
 rw[kJt,<-hlen]
 refine⟨.ref s.heap.objs.size,_,I.laid (t':=s.toks) (o:= .lst (cutV xs lo hi)) (fun b ob q=>lJl _ q) (lJg _) ?_,rfl,q _ (I.hok.fresh (lJg _))⟩
 exact⟨lKd (jZi xs lo hi) hz,_,0,(r.drop (HT.sIx xs.length 0 lo)).take (HT.sIx xs.length xs.length hi-HT.sIx xs.length 0 lo),lJ8 _ rfl⟩
def jZu:V->Bool
 | .non=>true
 | .bl _=>true
 | .int _=>true
 | .str _=>true
 | _=>false
noncomputable def eqV:V->V->Bool
 | .non,.non=>true
 | .bl a,.bl b=>a == b
 | .bl a,.int b=>(if a then 1 else 0) == b
 | .int a,.bl b=>a == (if b then 1 else 0)
 | .int a,.int b=>a == b
 | .str a,.str b=>a == b
 | _,_=>false
theorem eqAt_V {A:Around} {s:Shared} {y x:V} {u v:Value} (ry:RelV y u) (rx:RelV x v) (fy:jZu y=true) (fx:jZu x=true):SeqAt.EqAt A s u v (eqV y x):=by
 cases y with
 | non=>
  cases ry
  cases x with
  | non=>cases rx;exact SeqAt.EqAt.same _
  | bl b=>cases rx;exact SeqAt.EqAt.none_bool b
  | int b=>obtain⟨t,rfl⟩:=rx;exact SeqAt.EqAt.none_int b t
  | str b=>obtain⟨t,rfl⟩:=rx;exact SeqAt.EqAt.none_str b t
  | _=>exact absurd (show false=true from fx) lJv
 | bl a=>
  cases ry
  cases x with
  | non=>cases rx;exact SeqAt.EqAt.bool_none a
  | bl b=>cases rx;exact SeqAt.EqAt.bool_bool a b
  | int b=>obtain⟨t,rfl⟩:=rx;exact SeqAt.EqAt.bool_int a b t
  | str b=>obtain⟨t,rfl⟩:=rx;exact SeqAt.EqAt.bool_str a b t
  | _=>exact absurd (show false=true from fx) lJv
 | int a=>
  obtain⟨t',rfl⟩:=ry
  cases x with
  | non=>cases rx;exact SeqAt.EqAt.int_none a t'
  | bl b=>cases rx;exact SeqAt.EqAt.int_bool a t' b
  | int b=>obtain⟨t,rfl⟩:=rx;exact SeqAt.EqAt.int_int a t' b t
  | str b=>obtain⟨t,rfl⟩:=rx;exact SeqAt.EqAt.int_str a t' b t
  | _=>exact absurd (show false=true from fx) lJv
 | str a=>
  obtain⟨t',rfl⟩:=ry
  cases x with
  | non=>cases rx;exact SeqAt.EqAt.str_none a t'
  | bl b=>cases rx;exact SeqAt.EqAt.str_bool a t' b
  | int b=>obtain⟨t,rfl⟩:=rx;exact SeqAt.EqAt.str_int a t' b t
  | str b=>obtain⟨t,rfl⟩:=rx;exact SeqAt.EqAt.str_str a t' b t
  | _=>exact absurd (show false=true from fx) lJv
 | _=>exact absurd (show false=true from fy) lJv
def eqU (x:V) (u:Value):Bool:=match u with
 | .none=>eqV .non x
 | .bool b=>eqV (.bl b) x
 | .int i _=>eqV (.int i) x
 | .str z _=>eqV (.str z) x
 | _=>false
theorem qJi {x y:V} {u:Value} (r:RelV y u) (f:jZu y=true):eqU x u=eqV y x:=by
 cases y with
 | non=>cases r;rfl
 | bl b=>cases r;rfl
 | int i=>obtain⟨t,rfl⟩:=r;rfl
 | str z=>obtain⟨t,rfl⟩:=r;rfl
 | _=>exact absurd (show false=true from f) lJv
theorem kUt {x:V}:∀ {xs:List V} {us:List Value},Vals xs us->xs.all jZu=true->us.any (eqU x)=xs.any fun y=>eqV y x
 | _,_,.nil,_=>rfl
 | y::xs,u::us,.cons r t,f=>by
  rw[lQv,lK2] at f
  rw[lKv,lKv,qJi r f.1,kUt t f.2]
theorem jX7 {A:Around} {s:Shared} {x:V} {v:Value} (rx:RelV x v) (fx:jZu x=true):∀ {xs:List V} {us:List Value},Vals xs us->xs.all jZu=true->∀u∈us,SeqAt.EqAt A s u v (eqU x u)
 | _,_,.nil,_=>fun u hu=>by cases hu
 | y::xs,u::us,.cons r t,f=>fun u' hu=>by
  rw[lQv,lK2] at f
  rcases (lJk.mp hu) with rfl | hu
  ·rw[qJi r f.1];exact eqAt_V r rx f.1 fx
  ·exact jX7 rx fx t f.2 u' hu
def inV (x:V) (xs:List V):Bool:=xs.any fun y=>eqV y x
def rIn (K:PySem.W.Frag) (neg:Bool):R2:=fun x y H Q=>∃p xs,y= .ref p/\(SqL K H p xs\/SqT K H p xs)/\jZu x=true/\xs.all jZu=true/\Q (.bl (if neg then !inV x xs else inV x xs)) H
theorem kKt:OpR X (compareOp .NotIn) (rIn X.K true):=by
 intro pins s σ H x y v u Q I rx ry h
 obtain⟨p,xs,rfl,hq,fx,fs,q⟩:=h
 cases ry
 rcases hq with hq | hq
 ·obtain⟨its,r,pl,hz⟩:=I.list hq
  refine SeqAt.notIn_listAt (eqU x) pl.isList (fun w hw=>jX7 rx fx r fs w (by simpa using hw)) ⟨.bl _,H,I,rfl,?_⟩
  rw[show its.toArray.any (eqU x)=its.any (eqU x) by simp,kUt r fs]
  exact q
 ·obtain⟨its,r,pl,hz⟩:=I.tuple hq
  refine SeqAt.notIn_tupleAt (eqU x) pl (fun w hw=>jX7 rx fx r fs w (by simpa using hw)) ⟨.bl _,H,I,rfl,?_⟩
  rw[show its.toArray.any (eqU x)=its.any (eqU x) by simp,kUt r fs]
  exact q
theorem kQh:kX2 X (.builtin "len") (fun xs H Q=>∃p ys,xs=[.ref p]/\(SqL X.K H p ys\/SqT X.K H p ys)/\Q (.int ys.length) H):=by
 intro pins s σ H xs us Q I r h
 obtain⟨p,ys,rfl,hq,q⟩:=h
 obtain⟨u,rfl,rx⟩:=qKn r
 cases rx
 have hn:=jZ9
 rcases hq with hq | hq
 ·obtain⟨its,r',pl,hz⟩:=I.list hq
  have hlen:=r'.length
  exact Calls.call_len_list pl.isList (by simp only[lJu]<;>omega) ⟨.int ys.length,H,I.tok _,⟨s.toks+1,by rw[lJu,hlen]⟩,q⟩
 ·obtain⟨its,r',pl,hz⟩:=I.tuple hq
  have hlen:=r'.length
  exact len_tuple pl (by simp only[lJu]<;>omega) ⟨.int ys.length,H,I.tok _,⟨s.toks+1,by rw[lJu,hlen]⟩,q⟩
theorem kQg:kX2 X (.type "list") (fun xs H Q=>∃p ys,xs=[.ref p]/\(SqL X.K H p ys\/SqT X.K H p ys)/\∀l,H l=none->Q (.ref l) (upd H l (.lst ys))):=by
 intro pins s σ H xs us Q I r h
 obtain⟨p,ys,rfl,hq,q⟩:=h
 obtain⟨u,rfl,rx⟩:=qKn r
 cases rx
 have fin:∀(its:List Value),Vals ys its->ys.length<=sizeLine->∀(h':Heap) (c':Nat),(∀b o',s.heap.get? b=some o'->h'.get? b=some o')->
   h'.get? s.heap.objs.size=some {cls:= .type "list",dict:=none,data:= .seq its.toArray c',slots:= #[]}->EP X pins σ Q (.ref s.heap.objs.size) {s with heap:=h'}:=fun its r' hz h' c' kp e=>
  ⟨.ref s.heap.objs.size,_,I.laid (t':=s.toks) kp (lJg _) (show ObjOk X.prog X.w _ h' _ (.lst ys) from⟨hz,its,c',r',e⟩),rfl,q _ (I.hok.fresh (lJg _))⟩
 rcases hq with hq | hq
 ·obtain⟨its,r',pl,hz⟩:=I.list hq
  have hlen:=r'.length
  obtain⟨o,ho,hc,n,hd⟩:=pl.isList
  exact call_list_seq p (.inl rfl) ho hc hd (fun h' c' kp e=>fin its r' hz h' c' kp e) (by simp only[lJu]<;>omega)
 ·obtain⟨its,r',pl,hz⟩:=I.tuple hq
  have hlen:=r'.length
  obtain⟨o,ho,hc,n,hd⟩:=pl
  exact call_list_seq p (.inr rfl) ho hc hd (fun h' c' kp e=>fin its r' hz h' c' kp e) (by simp only[lJu]<;>omega)
theorem kKe:kX2 X (.type "tuple") (fun xs H Q=>∃p ys,xs=[.ref p]/\((SqL X.K H p ys/\∀l,H l=none->Q (.ref l) (upd H l (.tup ys)))\/(SqT X.K H p ys/\Q (.ref p) H))):=by
 intro pins s σ H xs us Q I r h
 obtain⟨p,ys,rfl,h⟩:=h
 obtain⟨u,rfl,rx⟩:=qKn r
 cases rx
 rcases h with ⟨hq,q⟩ | ⟨hq,q⟩
 ·obtain⟨its,r',pl,hz⟩:=I.list hq
  have hlen:=r'.length
  refine call_tuple_list pl.isList (fun h' kp=> ?_) (by simp only[lJu]<;>omega)
  have I1:Inv X pins σ H {s with heap:=h'}:=I.kept (t':=s.toks) kp
  have I2:Inv X pins σ (upd H h'.objs.size (.tup ys)) {s with heap:=h'.push {cls:= .type "tuple",data:= .seq its.toArray} }:=
   I1.laid (t':=s.toks) (fun b o e=>lJl _ e) (lJg _) (show ObjOk X.prog X.w _ _ _ (.tup ys) from⟨hz,its,r',TupD.new _ _⟩)
  exact⟨.ref h'.objs.size,_,I2,rfl,q _ (I1.hok.fresh (lJg _))⟩
 ·obtain⟨its,r',pl,hz⟩:=I.tuple hq
  exact call_tuple_same pl ⟨.ref p,H,I,rfl,q⟩
def tyV (K:PySem.W.Frag) (T:String) (x:V) (H:Hp):Prop:=match x with
 | .str _=>T="str"
 | .int _=>T="int"
 | .ref p=>(T="list"/\∃xs,SqL K H p xs)\/(T="tuple"/\∃o,K.lookup p=some o/\o.cls= .type "tuple"/\o.dict=none)\/
   (T="dict"/\((∃kvs,H p=some (.dK kvs))\/∃kvs,H p=some (.dT kvs)))\/(T="set"/\∃S n,H p=some (.set S n))
 | _=>False
theorem tyV_is {pins:List (Addr×Obj)} {σ:St} {H:Hp} {s:Shared} {T:String} {x:V} {v:Value} (I:Inv X pins σ H s) (r:RelV x v) (ty:tyV X.K T x H):
  s.TypeIs v T/\∀a,v= .ref a->∃ob,s.heap.get? a=some ob/\ob.dict=none:=by
 cases x with
 | str z=>
  obtain⟨t,rfl⟩:=r
  cases (show T="str" from ty)
  exact⟨typeIs_str s z t,fun _ e=>nomatch e⟩
 | int i=>
  obtain⟨t,rfl⟩:=r
  cases (show T="int" from ty)
  exact⟨typeIs_int s i t,fun _ e=>nomatch e⟩
 | ref p=>
  cases r
  rcases ty with ⟨rfl,xs,hq⟩ | ⟨rfl,o,hk,hc,hd⟩ | ⟨rfl,hk⟩ | ⟨rfl,S,n,hk⟩
  ·obtain⟨its,_,pl,_⟩:=I.list hq
   refine⟨pl.isList.typeIs,fun a e=> ?_⟩
   cases e
   obtain⟨o,n,e,c,hd,_⟩:=pl
   exact⟨o,e,hd⟩
  ·refine⟨⟨o,I.kIn p o hk,hc⟩,fun a e=> ?_⟩
   cases e
   exact⟨o,I.kIn _ o hk,hd⟩
  ·have z:∃o,s.heap.get? p=some o/\o.ExactDict:=by
    rcases hk with ⟨kvs,hk⟩ | ⟨kvs,hk⟩
    ·obtain⟨_,_,_,_,o,_,_,e,ex,_⟩:=I.hok p _ hk
     exact⟨o,e,ex⟩
    ·obtain⟨_,_,_,_,o,_,_,e,ex,_⟩:=I.hok p _ hk
     exact⟨o,e,ex⟩
   obtain⟨o,e,ex⟩:=z
   refine⟨⟨o,e,ex.1⟩,fun a e2=> ?_⟩
   cases e2
   exact⟨o,e,ex.2.1⟩
  ·obtain⟨o,_,_,_,e,ex,_⟩:=I.hok p _ hk
   refine⟨⟨o,e,ex.1⟩,fun a e2=> ?_⟩
   cases e2
   exact⟨o,e,ex.2.1⟩
 | _=>exact False.elim ty
variable {o e:Expr} {es:List Expr} {to:TE} {t:TA} {name:Str} {apos cpos:Pos} {T id:String} {r:V->List V->Hp->VK->Prop}
end
def MtM (X:Cx) (id:String) (r:V->List V->Hp->VK->Prop):Prop:=
 ∀(pins:List (Addr×Obj)) (s:Shared) (σ:St) (H:Hp) (x:V) (xs:List V) (v:Value) (us:List Value) (Q:VK),Inv X pins σ H s->RelV x v->Vals xs us->r x xs H Q->
  wpAny (model X.prog X.w) X.A (call (.builtin id) (v::us)) (EP X pins σ Q) X.xe s
theorem Vals.one {x:V} {us:List Value} (h:Vals [x] us):∃u,us=[u]/\RelV x u:=by
 cases h with | cons r t=>(cases t;exact⟨_,rfl,r⟩)
theorem Vals.two {x y:V} {us:List Value} (h:Vals [x,y] us):∃u v,us=[u,v]/\RelV x u/\RelV y v:=by
 cases h with | cons r t=>(cases t with | cons q t=>(cases t;exact⟨_,_,rfl,r,q⟩))
theorem Vals.eraseIdx:∀ {xs:List V} {us:List Value} (i:Nat),Vals xs us->Vals (xs.eraseIdx i) (us.eraseIdx i)
 | _,_,_,.nil=> .nil
 | _,_,0,.cons _ t=>t
 | _,_,i+1,.cons r t=> .cons r (Vals.eraseIdx i t)
theorem Vals.rep {xs:List V} {us:List Value} (h:Vals xs us):∀k:Nat,Vals (List.replicate k xs).flatten (List.replicate k us).flatten
 | 0=> .nil
 | k+1=>by
  rw[lXc,lXc,lX1,lX1]
  exact Vals.append h (Vals.rep h k)
theorem kK2 {α:Type}:∀(l:List α) (i:Nat),(l.eraseIdx i).length<=l.length
 | [],_=>lJg _
 | _::_,0=>Nat.le_succ _
 | _::r,i+1=>lX2 (kK2 r i)
theorem kK9 (its:List Value):∀(k:Nat) (acc:List Value),
  List.foldl (fun x1 x2=>x1++x2) acc.toArray (List.replicate k its.toArray)=(acc++(List.replicate k its).flatten).toArray
 | 0,acc=>by simp
 | k+1,acc=>by
  have e:acc.toArray++its.toArray=(acc++its).toArray:=by simp
  have e2:(acc++its)++(List.replicate k its).flatten=acc++(List.replicate (k+1) its).flatten:=by
   rw[lXc,lX1,lJn]
  rw[<-e2,<-kK9 its k (acc++its),<-e,lXc,lQ4]
section
variable {X:Cx} {pins:List (Addr×Obj)} {σ:St} {H:Hp} {s:Shared} {l b:Addr} {xs ys zs:List V}
theorem Inv.lset {its its':List Value} {n:Nat} {f:Array Value->Array Value} {t':Nat} (I:Inv X pins σ H s) (hH:H l=some (.lst xs))
  (e:s.heap.get? l=some {cls:= .type "list",data:= .seq its.toArray n}) (hf:f its.toArray=its'.toArray) (hv:Vals ys its') (hz:ys.length<=sizeLine):
  Inv X pins σ (upd H l (.lst ys)) {s with heap:=s.heap.update l (Obj.mapSeq f),toks:=t'}:=by
 have q:=PySem.IsL.update e f
 rw[hf] at q
 refine I.write (x:=l) (e:=l) (by rw[hH];exact trivial) (.inl rfl) (fun b' u hb hu=>(lYl s.heap (Obj.mapSeq f) (Ne.symm hb)).trans hu) ⟨_,q⟩ ?_
 exact⟨hz,its',_,hv,q⟩
theorem Inv.lnew {its:List Value} {t':Nat} (I:Inv X pins σ H s) (hv:Vals ys its) (hz:ys.length<=sizeLine):
  Inv X pins σ (upd H s.heap.objs.size (.lst ys)) {s with heap:=s.heap.push {cls:= .type "list",data:= .seq its.toArray},toks:=t'}:=
 I.laid (fun _ _ q=>lJl _ q) (lJg _) ⟨hz,its,0,hv,lJ8 _ rfl⟩
theorem Inv.fresh (I:Inv X pins σ H s):H s.heap.objs.size=none:=I.hok.fresh (lJg _)
theorem Inv.lstM (I:Inv X pins σ H s) (hH:H l=some (.lst xs)):xs.length<=sizeLine/\∃(its:List Value) (n:Nat),Vals xs its/\xs.length=its.length/\s.heap.get? l=some {cls:= .type "list",data:= .seq its.toArray n}:=by
 obtain⟨z,its,n,r,e⟩:=I.hok l _ hH
 exact⟨z,its,n,r,r.length,e⟩
theorem qQg {n:Nat} (h:n<=sizeLine):Builtin.List.listTooLong n=false:=by
 unfold Builtin.List.listTooLong
 exact lJw (by omega)
end
section
variable {X:Cx}
def jQo:V->List V->Hp->VK->Prop:=fun x vs H Q=>∃l xs y,x= .ref l/\vs=[y]/\H l=some (.lst xs)/\xs.length<sizeLine/\Q .non (upd H l (.lst (xs++[y])))
theorem kZi:MtM X "list.append" jQo:=by
 intro pins s σ H x vs v us Q I rx rv h
 obtain⟨l,xs,y,rfl,rfl,hH,hz,q⟩:=h
 cases rx
 obtain⟨u,rfl,ru⟩:=rv.one
 obtain⟨z,its,n,r,hl,e⟩:=I.lstM hH
 refine lV7 F.slot_list_append ⟨_,e,rfl⟩ F.entry_list_append (F.args_list_append_2 _ _) (PySem.list_append l its.toArray n u (by rw[lJu];omega)) ⟨e,?_⟩
 refine⟨.non,_,I.lset (its':=its++[u]) hH e (by simp) (r.append (.cons ru .nil)) ?_,rfl,q⟩
 rw[lKb,List.length_singleton]
 omega
noncomputable def rPopAt:V->List V->Hp->VK->Prop:=fun x vs H Q=>∃l xs i k y,x= .ref l/\vs=[.int i]/\H l=some (.lst xs)/\ -(2^63)<=i/\i<2^63/\seqIndex? i xs.length=some k/\xs[k]? =some y/\Q y (upd H l (.lst (xs.eraseIdx k)))
theorem qQl:MtM X "list.pop" rPopAt:=by
 intro pins s σ H x vs v us Q I rx rv h
 obtain⟨l,xs,i,k,y,rfl,rfl,hH,h1,h2,hk,hy,q⟩:=h
 cases rx
 obtain⟨u,rfl,ru⟩:=rv.one
 obtain⟨t,rfl⟩:=ru
 obtain⟨z,its,n,r,hl,e⟩:=I.lstM hH
 obtain⟨w,hw,rw'⟩:=r.get hy
 refine lV7 F.slot_list_pop ⟨_,e,rfl⟩ F.entry_list_pop (F.args_list_pop_2 _ _)
  (MeetsSeq.list_pop_at l its.toArray n i t k w (fitsIndex_both h1 h2) (by rw[lJu,<-hl];exact hk) (by rw[<-lKa];exact hw) (by rw[lJu];omega)) ⟨e,?_⟩
 refine⟨y,_,I.lset (its':=its.eraseIdx k) hH e ?_ (r.eraseIdx k) ?_,rw',q⟩
 ·show its.toArray.eraseIdxIfInBounds k=(its.eraseIdx k).toArray
  rw[List.eraseIdxIfInBounds_toArray]
 ·have:=kK2 xs k
  omega
noncomputable def rCat:R2:=fun x y H Q=>∃l b xs zs,x= .ref l/\y= .ref b/\H l=some (.lst xs)/\H b=some (.lst zs)/\xs.length+zs.length<=sizeLine/\∀p,H p=none->Q (.ref p) (upd H p (.lst (xs++zs)))
theorem op_cat:OpR X (binaryOp .Add) rCat:=by
 intro pins s σ H x y v u Q I rx ry h
 obtain⟨l,b,xs,zs,rfl,rfl,hH,hB,hz,q⟩:=h
 cases rx
 cases ry
 obtain⟨z,its,n,r,hl,e⟩:=I.lstM hH
 obtain⟨z2,its2,n2,r2,hl2,e2⟩:=I.lstM hB
 refine PySem.P.add_list e e2 ?_ (by rw[lJu,lJu];omega)
 have ea:its.toArray++its2.toArray=(its++its2).toArray:=by simp
 rw[ea]
 exact⟨.ref _,_,I.lnew (t':=s.toks) (r.append r2) (by rw[lKb];omega),rfl,q _ I.fresh⟩
noncomputable def rRep:R2:=fun x y H Q=>∃l k xs,x= .ref l/\y= .int k/\H l=some (.lst xs)/\ -(2^63)<=k/\k<2^63/\xs.length*k.toNat<=sizeLine/\
 ∀p,H p=none->Q (.ref p) (upd H p (.lst (List.replicate k.toNat xs).flatten))
theorem qXf {α:Type} (xs:List α) (k:Nat):(List.replicate k xs).flatten.length=k*xs.length:=by
 induction k with
 | zero=>simp
 | succ k ih=>rw[lXc,lX1,lKb,ih,lVx,Nat.add_comm]
theorem op_rep:OpR X (binaryOp .Mult) rRep:=by
 intro pins s σ H x y v u Q I rx ry h
 obtain⟨l,k,xs,rfl,rfl,hH,h1,h2,hz,q⟩:=h
 cases rx
 obtain⟨t,rfl⟩:=ry
 obtain⟨z,its,n,r,hl,e⟩:=I.lstM hH
 have hlen:its.toArray.size*k.toNat<=sizeLine:=by rw[lJu,<-hl];exact hz
 have hcap:¬ its.toArray.size*k.toNat>(2^63-1) / 8:=by
  have:(sizeLine:Nat)<=(2^63-1) / 8:=by decide
  omega
 have hfit:¬ (!Builtin.List.listFitsIndex k)=true:=by
  rw[fitsIndex_both h1 h2]
  exact lJv
 have hlong:¬ Builtin.List.listTooLong (its.toArray.size*k.toNat)=true:=by
  rw[qQg hlen]
  exact lJv
 have hnew:List.foldl (fun x1 x2=>x1++x2) #[] (List.replicate (if its.toArray.isEmpty=true then 0 else k.toNat) its.toArray)=(List.replicate k.toNat its).flatten.toArray:=by
  have f0:∀m:Nat,List.foldl (fun x1 x2=>x1++x2) #[] (List.replicate m its.toArray)=(List.replicate m its).flatten.toArray:=fun m=>by
   have:=kK9 its m []
   rw[lXd] at this
   exact this
  rw[f0]
  cases its with
  | nil=>simp
  | cons a r'=>rw[lJb (by simp)]
 refine wpAny_binaryOp_repeat_ref (T:="list") (U:="int") (by decide) ⟨_,e,rfl⟩ (fun s'=>typeIs_int s' k t) noFill_list_mul F.fills_int_mul F.slot_int_rmul repeat_list F.slot_int_index.lookup
  (lV7 F.slot_int_rmul (typeIs_int s k t) F.entry_int_rmul (F.args_int_rmul_2 _ _) (int___rmul___int_list k t l its.toArray n)
   ⟨e,rfl,⟨_,e,rfl⟩,lV7 F.slot_list_mul ⟨_,e,rfl⟩ F.entry_list_mul (F.args_list_mul_2 _ _) (AutoListH.list___mul___list_int_3 l its.toArray n k t hfit hcap hlong) ⟨e,?_⟩⟩)
 rw[hnew]
 exact⟨.ref _,_,I.lnew (t':=s.toks) (r.rep k.toNat) (by rw[qXf,Nat.mul_comm];exact hz),rfl,q _ I.fresh⟩
end
section
variable {prog:Program} {w:World} {A:Around} {E:Value->Shared->Prop} {s:Shared}
end
section
variable {X:Cx}
end
section
variable {κ:Type} [DecidableEq κ]
def valV (kvs:List (κ×V)) (k:κ):Option V:=(kvs.find? fun kv=>decide (kv.1=k)).map (·.2)
def putK (kvs:List (κ×V)) (k:κ) (v:V):List (κ×V):=
 if (kvs.any fun kv=>decide (kv.1=k))=true then kvs.map (fun kv=>if kv.1=k then (kv.1,v) else kv) else kvs++[(k,v)]
theorem jX1 {p:κ×V} {r:List (κ×V)} {k:κ} (e:p.1=k):valV (p::r) k=some p.2:=by simp[valV,lQc,e]
theorem jX2 {p:κ×V} {r:List (κ×V)} {k:κ} (e:¬ p.1=k):valV (p::r) k=valV r k:=by simp[valV,lQc,e]
theorem kUx (k:κ):∀kvs:List (κ×V),(kvs.any fun kv=>decide (kv.1=k))=(valV kvs k).isSome
 | []=>rfl
 | p::r=>by
  rw[lKv]
  by_cases e:p.1=k
  ·simp only[jX1 e,lJ5 e,Bool.true_or,Option.isSome_some]
  ·rw[jX2 e,lJw e,Bool.false_or];exact kUx k r
theorem jY9 (kvs:List (κ×V)) (k:κ) (v:V):(putK kvs k v).length<=kvs.length+1:=by
 unfold putK
 split
 ·rw[lJf];omega
 ·rw[lKb,lJ9,lQa];omega
theorem RelO.isSome_eq {o:Option V} {u:Option Value} (r:RelO o u):o.isSome=u.isSome:=by
 cases o with
 | none=>cases u with
  | none=>rfl
  | some _=>exact (show False from r).elim
 | some _=>cases u with
  | none=>exact (show False from r).elim
  | some _=>rfl
theorem KV.val {kvs:List (κ×V)} {vs:List (κ×Value)} (r:KV kvs vs) (k:κ):RelO (valV kvs k) (valueAt vs k):=by
 unfold KV at r
 induction r with
 | nil=>exact True.intro
 | @cons p q ps qs h t ih=>
  obtain⟨h1,h2⟩:=h
  by_cases e:p.1=k
  ·have e':q.1=k:=h1.symm.trans e
   have b:valueAt (q::qs) k=some q.2:=by simp[valueAt,lQc,e']
   rw[jX1 e,b];exact h2
  ·have e':¬ q.1=k:=fun z=>e (h1.trans z)
   have b:valueAt (q::qs) k=valueAt qs k:=by simp[valueAt,lQc,e']
   rw[jX2 e,b];exact ih
theorem KV.any {kvs:List (κ×V)} {vs:List (κ×Value)} (r:KV kvs vs) (k:κ):(kvs.any fun kv=>decide (kv.1=k))=vs.any fun kv=>decide (kv.1=k):=by
 unfold KV at r
 induction r with
 | nil=>rfl
 | cons h t ih=>rw[lKv,lKv,ih,h.1]
theorem KV.repl {kvs:List (κ×V)} {vs:List (κ×Value)} (r:KV kvs vs) (k:κ) {y:V} {u:Value} (ry:RelV y u):
  KV (kvs.map fun kv=>if kv.1=k then (kv.1,y) else kv) (vs.map fun kv=>if kv.1=k then (kv.1,u) else kv):=by
 unfold KV at r ⊢
 induction r with
 | nil=>exact .nil
 | @cons p q ps qs h t ih=>
  rw[lJo,lJo]
  refine .cons ?_ ih
  obtain⟨h1,h2⟩:=h
  by_cases e:p.1=k
  ·rw[lJc e,lJc (h1.symm.trans e)];exact⟨h1,ry⟩
  ·rw[lJb e,lJb (fun z=>e (h1.trans z))];exact⟨h1,h2⟩
theorem KV.put {kvs:List (κ×V)} {vs:List (κ×Value)} (r:KV kvs vs) (k:κ) {y:V} {u:Value} (ry:RelV y u):KV (putK kvs k y) (stored vs k u):=by
 unfold putK stored
 rw[r.any k]
 by_cases e:(vs.any fun kv=>decide (kv.1=k))=true
 ·rw[lJc e,lJc e];exact r.repl k ry
 ·rw[lJb e,lJb e];exact Paired.snoc r ⟨rfl,ry⟩
theorem KV.length {kvs:List (κ×V)} {vs:List (κ×Value)} (r:KV kvs vs):kvs.length=vs.length:=lQ2 r
end
theorem kXq {P:Program} {w:World} {k:Key} {u:Value} (r:RelV (kV k) u):(jJ7 P w).is k u=true:=by
 cases k with
 | inl i=>obtain⟨t,e⟩:=(show ∃t,u=Value.int i t from r);subst e;exact jY7 P w i t
 | inr x=>obtain⟨t,e⟩:=(show ∃t,u=Value.str x t from r);subst e;exact kUd P w x t
abbrev KT (H:Hp):List (TKey×V)->List (TKey×Addr×Value)->Prop:=Paired fun p q=>p.1=q.1/\TKeyAt H p.1 q.2.1/\RelV p.2 q.2.2
theorem KT.val {H:Hp} {kvs:List (TKey×V)} {xs:List (TKey×Addr×Value)} (r:KT H kvs xs) (k:TKey):RelO (valV kvs k) ((atKey xs k).map (·.2)):=by
 induction r with
 | nil=>exact True.intro
 | @cons p q ps qs h t ih=>
  obtain⟨h1,_,h2⟩:=h
  by_cases e:p.1=k
  ·have e':q.1=k:=h1.symm.trans e
   have b:atKey (q::qs) k=some q.2:=by simp[atKey,lQc,e']
   rw[jX1 e,b];exact h2
  ·have e':¬ q.1=k:=fun z=>e (h1.trans z)
   have b:atKey (q::qs) k=atKey qs k:=by simp[atKey,lQc,e']
   rw[jX2 e,b];exact ih
theorem KT.repl {H:Hp} {kvs:List (TKey×V)} {xs:List (TKey×Addr×Value)} (r:KT H kvs xs) (k:TKey) {y:V} {u:Value} (ry:RelV y u):
  KT H (kvs.map fun kv=>if kv.1=k then (kv.1,y) else kv) (xs.map (putAt k u)):=by
 induction r with
 | nil=>exact .nil
 | @cons p q ps qs h t ih=>
  rw[lJo,lJo]
  refine .cons ?_ ih
  obtain⟨h1,h2,h3⟩:=h
  unfold putAt
  by_cases e:p.1=k
  ·rw[lJc e,lJc (h1.symm.trans e)];exact⟨h1,h2,ry⟩
  ·rw[lJb e,lJb (fun z=>e (h1.trans z))];exact⟨h1,h2,h3⟩
theorem KT.put {H:Hp} {kvs:List (TKey×V)} {xs:List (TKey×Addr×Value)} (r:KT H kvs xs) (k:TKey) {b:Addr} {y:V} {u:Value} (hb:TKeyAt H k b) (ry:RelV y u):
  KT H (putK kvs k y) (storedH xs k b u):=by
 have e:(kvs.any fun kv=>decide (kv.1=k))=(atKey xs k).isSome:=by
  rw[kUx,(r.val k).isSome_eq,Option.isSome_map]
 unfold putK storedH
 rw[e]
 by_cases q:(atKey xs k).isSome=true
 ·rw[lJc q,lJc q];exact r.repl k ry
 ·rw[lJb q,lJb q];exact Paired.snoc r ⟨rfl,hb,ry⟩
theorem KT.keeps {H H':Hp} {kvs:List (TKey×V)} {xs:List (TKey×Addr×Value)} (r:KT H kvs xs) (ht:∀b ys,H b=some (.tup ys)->H' b=some (.tup ys)):KT H' kvs xs:=
 Paired.mapP r fun _ _ z=>⟨z.1,z.2.1.mono ht,z.2.2⟩
section
variable {P:Program} {w:World} {H:Hp} {h:Heap} {a:Addr}
theorem rd_of {u:HO} (ok:HOk P w H h) (e:Rd H a u):ObjOk P w H h a u:=e.ok ok
theorem qUa {kvs:List (Key×V)} (ok:HOk P w H h) (e:Rd H a (.dK kvs)):kvs.length<=sizeLine/\(a == sysModules)=false/\∃vs,KV kvs vs/\h.DictOf (jJ7 P w) a vs:=
 show ObjOk P w H h a (.dK kvs) from rd_of ok e
theorem dk_of {kvs:List (Key×V)} (ok:HOk P w H h) (e:H a=some (.dK kvs)):kvs.length<=sizeLine/\(a == sysModules)=false/\∃vs,KV kvs vs/\h.DictOf (jJ7 P w) a vs:=qUa ok (.inl e)
theorem kVo {K:Type} [DecidableEq K] {c:Nat} {T:KeyV P w K c} {R:K->V->Prop} (hR:∀k x u,R k x->RelV x u->T.is h k u):∀ {ks:List K} {xs:List V} {us:List Value},Paired R ks xs->Vals xs us->ItemsV T h ks us
 | _,_,_,.nil,.nil=> .nil
 | _,_,_,.cons r t,.cons q z=> .cons (hR _ _ _ r q) (kVo hR t z)
theorem kQu {K:Type} [DecidableEq K] {c:Nat} {T:KeyV P w K c} {R:K->V->Prop} {ks:List K} {xs:List V} {p:Addr} (ok:HOk P w H h) (hR:∀k x u,R k x->RelV x u->T.is h k u) (e:H p=some (.tup xs)) (r:Paired R ks xs):jZp T h ks (.ref p):=by
 obtain⟨_,its,q,o,h1,h2,n,h3,_⟩:=(show ObjOk P w H h p (.tup xs) from ok p _ e)
 exact⟨p,o,its.toArray,n,rfl,h1,h2,h3,by simpa using kVo hR r q⟩
theorem r1_of (ok:HOk P w H h) (k:K1) (x:V) (u:Value) (r:Rk1 H k x) (q:RelV x u):(vk1 P w).is h k u:=by
 cases k with
 | inl k=>cases (show x=kV k from r);exact kXq (P:=P) (w:=w) q
 | inr ks=>
  obtain⟨p,vs,rfl,e,t⟩:=(show ∃p vs,x= .ref p/\H p=some (.tup vs)/\Paired (fun k v=>v=kV k) ks vs from r)
  cases (show u=Value.ref p from q)
  exact kQu (T:=kJf P w) ok (fun k x u r q=>by subst r;exact kXq (P:=P) (w:=w) q) e t
theorem r2_of (ok:HOk P w H h) (k:K2) (x:V) (u:Value) (r:Rk2 H k x) (q:RelV x u):(vk2 P w).is h k u:=by
 cases k with
 | inl k=>cases (show x=kV k from r);exact kXq (P:=P) (w:=w) q
 | inr ks=>
  obtain⟨p,vs,rfl,e,t⟩:=(show ∃p vs,x= .ref p/\H p=some (.tup vs)/\Paired (Rk1 H) ks vs from r)
  cases (show u=Value.ref p from q)
  exact kQu (T:=vk1 P w) ok (r1_of ok) e t
theorem jZa {ks:TKey} (ok:HOk P w H h) (e:TKeyAt H ks a):(jJm P w).is h ks a:=by
 obtain⟨vs,h1,t⟩:=e
 exact kQu (T:=vk2 P w) ok (r2_of ok) h1 t
theorem qQ8 {kvs:List (TKey×V)} (ok:HOk P w H h) (e:Rd H a (.dT kvs)):kvs.length<=sizeLine/\(a == sysModules)=false/\
  ∃xs,KT H kvs xs/\h.DictOfH (jJm P w) a xs:=by
 obtain⟨z,y,xs,r,o,es,ep,h1,h2,h3,h4,h5⟩:=(show ObjOk P w H h a (.dT kvs) from rd_of ok e)
 refine⟨z,y,xs,r,o,es,ep,h1,h2,h3,h4,fun x hx=> ?_,h5⟩
 have all:∀ {l:List (TKey×V)} {m:List (TKey×Addr×Value)},KT H l m->∀x∈m,(jJm P w).is h x.1 x.2.1:=by
  intro l m q
  induction q with
  | nil=>intro x hx;exact nomatch hx
  | @cons p q ps qs hq t ih=>
   intro x hx
   rcases (lJk.mp hx) with e | hx
   ·subst e
    exact jZa ok (by rw[<-hq.1];exact hq.2.1)
   ·exact ih x hx
 exact all r x hx
theorem dt_of {kvs:List (TKey×V)} (ok:HOk P w H h) (e:H a=some (.dT kvs)):kvs.length<=sizeLine/\(a == sysModules)=false/\
  ∃xs,KT H kvs xs/\h.DictOfH (jJm P w) a xs:=qQ8 ok (.inl e)
end
def DGet (H:Hp) (a:Addr) (y:V) (r:Option V):Prop:=
 (∃kvs k,Rd H a (.dK kvs)/\y=kV k/\r=valV kvs k)\/∃kvs k b,Rd H a (.dT kvs)/\y= .ref b/\TKeyAt H k b/\r=valV kvs k
def DPut (H:Hp) (a:Addr) (y v:V) (H':Hp):Prop:=
 (∃kvs k,H a=some (.dK kvs)/\y=kV k/\kvs.length<sizeLine/\H'=upd H a (.dK (putK kvs k v)))\/
 ∃kvs k b,H a=some (.dT kvs)/\y= .ref b/\TKeyAt H k b/\kvs.length<sizeLine/\H'=upd H a (.dT (putK kvs k v))
theorem DGet.k {H:Hp} {a:Addr} {kvs:List (Key×V)} {k:Key} (e:H a=some (.dK kvs)):DGet H a (kV k) (valV kvs k):= .inl ⟨kvs,k,.inl e,rfl,rfl⟩
theorem DGet.t {H:Hp} {a b:Addr} {kvs:List (TKey×V)} {k:TKey} (e:H a=some (.dT kvs)) (eb:TKeyAt H k b):DGet H a (.ref b) (valV kvs k):= .inr ⟨kvs,k,b,.inl e,rfl,eb,rfl⟩
theorem DPut.k {H:Hp} {a:Addr} {kvs:List (Key×V)} {k:Key} {v:V} (e:H a=some (.dK kvs)) (hl:kvs.length<sizeLine):DPut H a (kV k) v (upd H a (.dK (putK kvs k v))):= .inl ⟨kvs,k,e,rfl,hl,rfl⟩
theorem DPut.t {H:Hp} {a b:Addr} {kvs:List (TKey×V)} {k:TKey} {v:V} (e:H a=some (.dT kvs)) (eb:TKeyAt H k b) (hl:kvs.length<sizeLine):
  DPut H a (.ref b) v (upd H a (.dT (putK kvs k v))):= .inr ⟨kvs,k,b,e,rfl,eb,hl,rfl⟩
section
variable {X:Cx} {pins:List (Addr×Obj)} {σ:St} {H:Hp} {s:Shared} {a:Addr} {y v:V} {u r:Value} {o:Option V} {A:Around} {E:Value->Shared->Prop}
theorem Inv.big (I:Inv X pins σ H s):sysModules<s.heap.objs.size:=by
 have h:mainGlobals<s.heap.objs.size:=(I.mod.glob.keeps I.bk).lt
 exact lQw (by decide) h
theorem qJu {Q:Value->Shared->Prop} (hu:A.units+20<cLine) (I:Inv X pins σ H s) (g:DGet H a y (some v)) (ry:RelV y u) (h:∀w' s',Inv X pins σ H s'->RelV v w'->Q w' s'):
  wpAny (model X.prog X.w) A (getItem (.ref a) u) Q E s:=by
 rcases g with ⟨kvs,k,e,ey,l⟩ | ⟨kvs,k,b,e,ey,eb,l⟩
 ·subst ey
  obtain⟨z,hd,vs,rel,dd⟩:=qUa I.hok e
  obtain⟨w',hw,rw'⟩:=RelO.some_of (v:=v) (o:=valueAt vs k) (by rw[l];exact rel.val k)
  exact wpAny_getItem_of (kXq ry) dd.mapOf hw (h w' _ (I.tok _) rw')
 ·subst ey
  cases (show u=Value.ref b from ry)
  obtain⟨z,hd,xs,rel,dd⟩:=qQ8 I.hok e
  obtain⟨w',hw,rw'⟩:=RelO.some_of (v:=v) (o:=(atKey xs k).map (·.2)) (by rw[l];exact rel.val k)
  obtain⟨p,hp,hp2⟩:=lVf.mp hw
  refine wpAny_getItem_heap (jKu hu) (jZa I.hok eb) dd hp ?_
  rw[hp2]
  exact h w' _ (I.tok _) rw'
theorem qYf {Q:Value->Shared->Prop} (hu:A.units+20<cLine) (I:Inv X pins σ H s) (g:DGet H a y o) (ry:RelV y u) (h:∀s',Inv X pins σ H s'->Q (.bool (!o.isSome)) s'):
  wpAny (model X.prog X.w) A (compareOp .NotIn u (.ref a)) Q E s:=by
 rcases g with ⟨kvs,k,e,ey,l⟩ | ⟨kvs,k,b,e,ey,eb,l⟩
 ·subst ey
  obtain⟨z,hd,vs,rel,dd⟩:=qUa I.hok e
  refine wpAny_notIn_of (kXq ry) hd dd.mapOf ?_
  rw[<-(rel.val k).isSome_eq,<-l]
  exact h _ (I.tok _)
 ·subst ey
  cases (show u=Value.ref b from ry)
  obtain⟨z,hd,xs,rel,dd⟩:=qQ8 I.hok e
  refine wpAny_notIn_heap (jKu hu) (jZa I.hok eb) hd dd ?_
  have q:=(rel.val k).isSome_eq
  rw[Option.isSome_map] at q
  rw[<-q,<-l]
  exact h _ (I.tok _)
theorem kUp {h':Heap} {t':Nat} {ob:HO} (I:Inv X pins σ H s) (mu:Mut (H a)) (hs:Heap.SameBut a s.heap h') (he:∃q,h'.get? a=some q) (new:ObjOk X.prog X.w (upd H a ob) h' a ob):
  Inv X pins σ (upd H a ob) {s with heap:=h',toks:=t'}:=
 I.write (x:=a) (e:=a) mu (.inl rfl) (fun b q hb z=>(hs.2 b hb).trans z) he new
theorem dk_new {P:Program} {w:World} {H':Hp} {h':Heap} {kvs:List (Key×V)} {vs:List (Key×Value)} (z:kvs.length<=sizeLine) (hd:(a == sysModules)=false) (rel:KV kvs vs) (dd:h'.DictOf (jJ7 P w) a vs):
  ObjOk P w H' h' a (.dK kvs):=⟨z,hd,vs,rel,dd⟩
theorem kQc {H':Hp} {Q:Unit->Shared->Prop} (hu:A.units+20<cLine) (I:Inv X pins σ H s) (g:DPut H a y v H') (ry:RelV y u) (rv:RelV v r) (h:∀s',Inv X pins σ H' s'->Q () s'):
  wpAny (model X.prog X.w) A (setItem (.ref a) u r) Q E s:=by
 rcases g with ⟨kvs,k,e,ey,l,eH⟩ | ⟨kvs,k,b,e,ey,eb,l,eH⟩
 ·subst ey eH
  obtain⟨z,hd,vs,rel,dd⟩:=dk_of I.hok e
  have hz:vs.length<=sizeLine:=by rw[<-rel.length];exact z
  have hl:(putK kvs k v).length<=sizeLine:=by have:=jY9 kvs k v;omega
  refine wpAny_setItem_pairs (hsz:=hz) (kXq ry) dd fun h' dd' hs=>h _ ?_
  have he:∃q,h'.get? a=some q:=let ⟨q,_,_,hq,_⟩:=dd';⟨q,hq⟩
  exact kUp I (by rw[e];exact True.intro) hs he (dk_new hl hd (rel.put k rv) dd')
 ·subst ey eH
  cases (show u=Value.ref b from ry)
  obtain⟨z,hd,xs,rel,dd⟩:=dt_of I.hok e
  have hz:xs.length<=sizeLine:=by rw[<-lQ2 rel];exact z
  have hl:(putK kvs k v).length<=sizeLine:=by have:=jY9 kvs k v;omega
  refine wpAny_setItem_heap (hsz:=hz) (jKu hu) (jZa I.hok eb) dd fun h' dd' hs=>h _ ?_
  obtain⟨q,es,ep,hq,h2,h3,h4,_,h5⟩:=dd'
  refine kUp I (by rw[e];exact True.intro) hs ⟨q,hq⟩ ⟨hl,hd,_,(rel.put k eb rv).keeps fun c ys ec=> ?_,q,es,ep,hq,h2,h3,h4,h5⟩
  rw[jJr (ne_of ec e (fun z=>nomatch z))]
  exact ec
end
section
variable {X:Cx} {pins:List (Addr×Obj)} {σ:St} {H:Hp} {s:Shared} {a:Addr} {kvs:List (Key×V)} {k:Key} {u:Value} {A:Around} {E:Value->Shared->Prop}
end
theorem kUo {X:Cx} {pins:List (Addr×Obj)} {σ:St} {H:Hp} {s:Shared} {a:Addr} {y:V} {o:Option V} (I:Inv X pins σ H s) (g:DGet H a y o):s.TypeIs (.ref a) "dict":=by
 rcases g with ⟨kvs,k,e,_,_⟩ | ⟨kvs,k,b,e,_,_,_⟩
 ·obtain⟨_,_,vs,_,dd⟩:=qUa I.hok e
  exact dd.typeIs
 ·obtain⟨_,_,xs,_,dd⟩:=qQ8 I.hok e
  exact dd.typeIs
section
variable {X:Cx} {o i e value:Expr} {pos pos' tpos:Pos} {td ty tv:TE}
end
theorem qQ9 {P:Program} {w:World} {H:Hp} (h:Heap) (hb:sysModules<h.objs.size):ObjOk P w H (h.push {cls:= .type "dict",data:= .dict #[]}) h.objs.size (.dT []):=
 ⟨lJ6 _,beq_eq_false_iff_ne.mpr (Ne.symm (lJm hb)),[],.nil,_,#[],0,lJ8 _ rfl,⟨rfl,rfl,rfl⟩,rfl,rfl,List.nodup_nil⟩
section
variable {X:Cx} {pos:Pos}
end
section
variable {X:Cx} {pins:List (Addr×Obj)} {σ:St} {H:Hp} {s:Shared} {a:Addr} {y d:V} {u r:Value} {o:Option V} {A:Around} {E:Value->Shared->Prop}
end
section
variable {X:Cx} {o e f:Expr} {apos cpos:Pos} {td ty tx:TE}
end
section
variable {X:Cx} {pins:List (Addr×Obj)} {σ:St} {H:Hp} {s:Shared} {a:Addr} {kvs:List (Key×V)} {A:Around} {E:Value->Shared->Prop}
end
section
variable {X:Cx} {pins:List (Addr×Obj)} {σ:St} {H:Hp} {s:Shared} {a:Addr} {y:V} {u:Value} {A:Around} {E:Value->Shared->Prop}
end
end L2
namespace Att
open PySem PySem.W PySem.Calls PyProof.Rows
theorem jZc {P:Params} {h:Heap}:∀(ns:List Int) (vs:List Value),WellAll P h vs (ns.map WData.int)->IntsAre vs ns:=by
 intro ns
 induction ns with
 | nil=>
  intro vs w
  rw[List.map_nil] at w
  cases w
  exact .nil
 | cons n ns ih=>
  intro vs w
  rw[lJo] at w
  cases w with
  | cons a b=>
   cases a
   exact .cons _ _ (ih _ b)
theorem kYj {l:OpenLaw} {n:Nat} (hn:l.most=some n) {P:Params} {h:Heap} {args:List WData} {vals:List Value}
  (hpre:l.row.toRowW.claim.pre args=true) (hwl:WellAll P h vals args):
  ∃a vs ns,vals=[Value.ref a]/\args=[WData.list (ns.map WData.int)]/\h.get? a=some {cls:= .type "list",data:= .seq vs.toArray}/\IntsAre vs ns/\ns.length<=n:=by
 have hsh:WShape.hasAll [] args [.list .int]=true:=(pre_splitW hpre).1
 have hc:l.pre.holds [] {args:=args}=true:=(pre_splitW hpre).2
 obtain⟨d,r,rfl,h1,h2⟩:=hasAllW_cons hsh
 obtain rfl:=hasAllW_nil h2
 obtain⟨xs,rfl,h3⟩:=hasW_list h1
 obtain⟨ns,rfl⟩:=items_int h3
 have hlen:ns.length<=n:=by
  unfold OpenLaw.pre at hc
  have h4:(WTm.not (.lt (.lit (.int (n:Int))) (.len (.arg 0)))).holds [] {args:=[.list (ns.map .int)]}=true:=by
   have h4:=(holds_andW hc).1
   rw[hn] at h4
   exact h4
  have h5:=condW_of h4 (w_not (w_lt w_lit (w_len_list (w_arg rfl))))
  rw[lJf] at h5
  refine Nat.le_of_not_lt fun q=> ?_
  have q':(n:Int)<((ns.length:Nat):Int):=by omega
  first
   | (rw[lJ5 q'] at h5;exact absurd h5 (by decide))
   | (simp at h5;omega)
 cases hwl with
 | cons w1 w2=>
  cases w2
  cases w1 with
  | list ho hall=>exact⟨_,_,ns,rfl,rfl,ho,jZc ns _ hall,hlen⟩
theorem kYy (l:OpenLaw) (args:List WData):l.row.toRowW.claim.post args (.bool true) args=true:=
 postW_of (r:=l.row.toRowW) (X:=(true == true))
  (show WShape.has [] (.bool true) .bool=true by first | rfl | decide | simp[WShape.has,WShape.arms,WShape.armsAll])
  (show (WTm.eq .res (.lit (.bool true))).value [] {args:=args,res:=some (.bool true),after:=args}=some (.bool (true == true)) from w_eq_bool (w_res rfl) w_lit) rfl
theorem attach_call {l:OpenLaw} {n:Nat} {q:Program} {loose:List Str} {XP:(Str->Option Value)->Heap->Prop} {YP:World->Heap->Prop} {d:DefRec}
  (hn:l.most=some n) (hdf:d.params.defaults=[])
  (call:∀(w:World) (s₀ s₁:Shared) (mg mb:Str->Option Value) (fa:Addr) (o:Obj) (pm cd doc:Value) (a:Addr) (vs:List Value) (ns:List Int),
   Ground q loose [] XP w s₀ mg mb s₁.heap->YP w s₁.heap->
   s₁.heap.get? fa=some o->o.data= .func (docDef d.name d.params d.body d.scope pm cd doc)->s₁.heap.CodeRec cd d.name->mg d.name=some (.ref fa)->
   s₁.heap.get? a=some {cls:= .type "list",data:= .seq vs.toArray}->IntsAre vs ns->ns.length<=n->s₁.gens= #[]->
   codeAny (model l.prog w) callerA (.call (.ref fa) ⟨[.ref a],[]⟩) (fun r s'=>r= .ok (.ret (.bool true))/\OldK s₁.heap s'.heap/\s'.os=s₁.os/\AllBare s'.gens) s₁):
  WalkO q loose XP YP l.row.toRowW d [] (fun f vs=>PySem.call f vs):=by
 intro w s₀ s₁ mg mb G Y fa o pm cd doc dV kV ho hd hcd hD hmg hg args vals as hpre hlay hrd hwl hlo
 obtain rfl:dV= .none:=Dflts.none hD hdf
 obtain rfl:kV= .none:=Dflts.noKw hD
 obtain⟨a,vs,ns,rfl,rfl,hobj,hints,hlen⟩:=kYj hn hpre hwl
 refine enter_call (lVr (call w s₀ s₁ mg mb fa o pm cd doc a vs ns G Y ho (fd_plain hd) hcd hmg hobj hints hlen hg) fun r s' hq=> ?_)
 obtain⟨rfl,h2,h3,h4⟩:=hq
 exact⟨.inl ⟨.bool true,.bool true,[],rfl,fun _=>rfl,.bool true,kYy l _,fun _=>⟨List.Pairwise.nil,fun _ hm=>(nomatch hm)⟩⟩,h2,h3,h4⟩
section
variable {prog:Program} {w:World} {A:Around} {E:Value->Shared->Prop} {s:Shared} {K:Frag}
end
end Att
namespace L2
open PySem PySem.Spec PyProof.Rows
theorem jUm:∀ {vs:List Value} {ns:List Int},IntsAre vs ns->Vals (ns.map V.int) vs
 | _,_,.nil=> .nil
 | _,_,.cons n t h=> .cons ⟨t,rfl⟩ (jUm h)
noncomputable def jUz (s:Stmt):Arguments:=match s with
 | .FunctionDef _ a _ _ _ _ _ _ _ _=>a
 | _=>{posonlyargs:=[],args:=[],vararg:=none,kwonlyargs:=[],kw_defaults:=[],kwarg:=none,defaults:=[]}
def defBody (s:Stmt):List Stmt:=match s with
 | .FunctionDef _ _ b _ _ _ _ _ _ _=>b
 | _=>[]
def jJk (s:Stmt):Scope:=match s with
 | .FunctionDef _ _ _ _ _ _ sc _ _ _=>sc
 | _=>{kind:= .function,names:=[],isGenerator:=false,isCoroutine:=false}
abbrev CX0:CXT:=fun _ _ _ _ _ _=>False
abbrev E0:XK:=fun _ _ _=>False
theorem pass0 {X:Cx}:qVd CX0 X E0:=fun _ _ _ _ _ _ _ h=>h.elim
structure Fun (K:PySem.W.Frag) (x qual:Str) (st:Stmt) (f:Addr) (fd:FuncData):Prop where
 ex:∃(oc:Value) (od:Option Addr) (kV doc pm:Value) (an:Option Addr) (cdv ct:Value) (osl:Array (Option Value)),
  fd=PySem.W.fnOf x qual (jUz st) (defBody st) (jJk st) .none kV doc pm an cdv ct/\K.lookup f=some ⟨oc,od,.func fd,osl⟩/\PySem.W.codeIn K cdv qual=true
 kp:PySem.W.keepIn K (.ref f)=true
section
variable {P:Program} {w:World} {K:PySem.W.Frag} {mg:Str->Option Value} {base:Heap}
theorem Fun.ok {x qual:Str} {st:Stmt} {f:Addr} {fd:FuncData} {N ps:List Str} {k:Nat} {sp:Sp} (F:Fun K x qual st f fd) (S:FnScope N ps (jJk st)) (len:∀vs H Q E,sp vs H Q E->vs.length=ps.length)
  (hbody:∀(cdv:Value) (A:Around) (outer:List Env) (s:Shared) (H:Hp) (vs:List V) (Q:VK) (E:XK),Room k (A.deeper (envOfC qual (jJk st) s.heap.objs.size f cdv))->sp vs H Q E->
   ∃t,PSs (cxOf CX0 P w K mg base N qual (jJk st) f cdv A outer s H E).nox (defBody st) t/\t {nx:=fun _ H'=>Q .non H',rt:=Q} (start N vs) H):FnOk P w K mg base CX0 (k+1) f fd ps sp:=by
 obtain⟨oc,od,kV,doc,pm,an,cdv,ct,osl,rfl,lk,hcd⟩:=F.ex
 refine fn_of lk hcd S len fun A outer s H vs Q E hr hsp=> ?_
 obtain⟨t,h,q⟩:=hbody cdv A outer s H vs Q E hr hsp
 exact⟨t,h.nox,q⟩
theorem Fun.binds {x qual:Str} {st:Stmt} {f:Addr} {fd:FuncData} {ps:List Str} (F:Fun K x qual st f fd)
  (h:∀(kV doc pm:Value) (an:Option Addr) (cdv ct:Value) (us:List Value),us.length=ps.length->bindArgs (PySem.W.fnOf x qual (jUz st) (defBody st) (jJk st) .none kV doc pm an cdv ct) ⟨us,[]⟩=pure (ps.zip us)):Binds K fd ps []:=by
 obtain⟨oc,od,kV,doc,pm,an,cdv,ct,osl,rfl,lk,hcd⟩:=F.ex
 exact .all (h kV doc pm an cdv ct)
theorem fun_mk {x qual:Str} {st:Stmt} {f:Addr} {oc:Value} {od an:Option Addr} {osl:Array (Option Value)} {kV doc pm cdv ct:Value} (l:K.lookup f=some ⟨oc,od,.func (PySem.W.fnOf x qual (jUz st) (defBody st) (jJk st) .none kV doc pm an cdv ct),osl⟩)
  (c:PySem.W.codeIn K cdv qual=true) (k:PySem.W.keepIn K (.ref f)=true):Fun K x qual st f (PySem.W.fnOf x qual (jUz st) (defBody st) (jJk st) .none kV doc pm an cdv ct):=⟨⟨oc,od,kV,doc,pm,an,cdv,ct,osl,rfl,l,c⟩,k⟩
end
theorem kZ4 {A:Around} {k:Nat} (hr:Room k A):A.units+20<cLine:=Nat.lt_of_le_of_lt (Nat.add_le_add_left (by decide:20<=64) _) hr.units
section
variable {X:Cx}
end
end L2
set_option Elab.async false
set_option linter.all false
set_option maxRecDepth 100000
set_option maxHeartbeats 5000000
namespace L3
open PySem PySem.Spec PyProof.Rows L2
inductive T where
 | non | bl (b:Bool) | int (i:Int) | str (x:Str) | tup (xs:List T) | scr (xs:List T) | ref (a:Addr) | ty (n:String)
structure Ext (H H':Hp):Prop where
 tup:∀b xs,H b=some (.tup xs)->H' b=some (.tup xs)
 frz:∀b ob u,H b=some (.frz ob u)->H' b=some (.frz ob u)
theorem Ext.refl (H:Hp):Ext H H:=⟨fun _ _ h=>h,fun _ _ _ h=>h⟩
theorem Ext.trans {H H1 H2:Hp} (a:Ext H H1) (b:Ext H1 H2):Ext H H2:=⟨fun c o h=>b.tup c o (a.tup c o h),fun c o u h=>b.frz c o u (a.frz c o u h)⟩
def FrL (K:PySem.W.Frag) (H:Hp) (a:Addr) (xs:List V):Prop:=
 (∃ob,H a=some (.frz ob (.lst xs)))\/
  ∃(o:Obj) (its:Array Value) (n:Nat),K.lookup a=some o/\o.cls= .type "list"/\o.dict=none/\o.data= .seq its n/\its.size<=sizeLine/\Vals xs its.toList
theorem FrL.sq {K:PySem.W.Frag} {H:Hp} {a:Addr} {xs:List V} (h:FrL K H a xs):SqL K H a xs:=by
 rcases h with ⟨ob,h⟩ | h
 ·exact .inl (.inr ⟨ob,h⟩)
 ·exact .inr h
theorem FrL.mono {K:PySem.W.Frag} {H H':Hp} {a:Addr} {xs:List V} (e:Ext H H') (h:FrL K H a xs):FrL K H' a xs:=by
 rcases h with ⟨ob,h⟩ | h
 ·exact .inl ⟨ob,e.frz _ _ _ h⟩
 ·exact .inr h
mutual
noncomputable def Rep (K:PySem.W.Frag) (H:Hp):T->V->Prop
 | .non,v=>v= .non
 | .bl b,v=>v= .bl b
 | .int i,v=>v= .int i
 | .str x,v=>v= .str x
 | .ref a,v=>v= .ref a
 | .ty n,v=>v= .ty n
 | .tup xs,v=>∃a vs,v= .ref a/\H a=some (.tup vs)/\Reps K H xs vs
 | .scr xs,v=>∃a vs,v= .ref a/\FrL K H a vs/\Reps K H xs vs
noncomputable def Reps (K:PySem.W.Frag) (H:Hp):List T->List V->Prop
 | [],vs=>vs=[]
 | x::xs,vs=>∃v ws,vs=v::ws/\Rep K H x v/\Reps K H xs ws
end
mutual
theorem Rep.mono {K:PySem.W.Frag} {H H':Hp} (e:Ext H H'):∀(x:T) {v:V},Rep K H x v->Rep K H' x v
 | .non,_,h=>h
 | .bl _,_,h=>h
 | .int _,_,h=>h
 | .str _,_,h=>h
 | .ref _,_,h=>h
 | .ty _,_,h=>h
 | .tup xs,_,⟨a,vs,r1,r2,r3⟩=>⟨a,vs,r1,e.tup _ _ r2,Reps.mono e xs r3⟩
 | .scr xs,_,⟨a,vs,r1,r2,r3⟩=>⟨a,vs,r1,r2.mono e,Reps.mono e xs r3⟩
theorem Reps.mono {K:PySem.W.Frag} {H H':Hp} (e:Ext H H'):∀(xs:List T) {vs:List V},Reps K H xs vs->Reps K H' xs vs
 | [],_,h=>h
 | x::xs,_,⟨v,ws,r1,r2,r3⟩=>⟨v,ws,r1,Rep.mono e x r2,Reps.mono e xs r3⟩
end
section
variable {K:PySem.W.Frag} {H:Hp}
theorem Reps.length:∀ {xs:List T} {vs:List V},Reps K H xs vs->xs.length=vs.length
 | [],_,h=>by cases h;rfl
 | _::_,_,⟨_,_,r1,_,r3⟩=>by subst r1;simp[Reps.length r3]
theorem Reps.get:∀ {xs:List T} {vs:List V} {i:Nat} {x:T},Reps K H xs vs->xs[i]? =some x->∃v,vs[i]? =some v/\Rep K H x v
 | [],_,_,_,_,e=>by simp at e
 | y::ys,_,0,x,⟨v,ws,r1,r2,r3⟩,e=>by subst r1;simp at e;subst e;exact⟨v,rfl,r2⟩
 | y::ys,_,i+1,x,⟨v,ws,r1,r2,r3⟩,e=>by subst r1;simpa using Reps.get r3 (by simpa using e)
theorem Reps.get':∀ {xs:List T} {vs:List V} {i:Nat} {v:V},Reps K H xs vs->vs[i]? =some v->∃x,xs[i]? =some x/\Rep K H x v
 | [],_,_,_,h,e=>by cases h;simp at e
 | y::ys,_,0,x,⟨v,ws,r1,r2,r3⟩,e=>by subst r1;simp at e;subst e;exact⟨y,rfl,r2⟩
 | y::ys,_,i+1,x,⟨v,ws,r1,r2,r3⟩,e=>by subst r1;simpa using Reps.get' r3 (by simpa using e)
theorem Reps.append:∀ {xs ys:List T} {vs ws:List V},Reps K H xs vs->Reps K H ys ws->Reps K H (xs++ys) (vs++ws)
 | [],_,_,_,h,h2=>by cases h;exact h2
 | _::_,_,_,_,⟨v,ws,r1,r2,r3⟩,h2=>by subst r1;exact⟨v,_,rfl,r2,Reps.append r3 h2⟩
theorem Reps.one {x:T} {v:V} (r:Rep K H x v):Reps K H [x] [v]:=⟨v,[],rfl,r,rfl⟩
theorem Reps.set {x:T} {v:V} (r:Rep K H x v):∀ {xs:List T} {vs:List V} (i:Nat),Reps K H xs vs->Reps K H (xs.set i x) (vs.set i v)
 | [],_,_,e=>by cases e;rfl
 | _::_,_,0,⟨_,ws,r1,r2,r3⟩=>by subst r1;exact⟨v,ws,rfl,r,r3⟩
 | _::_,_,i+1,⟨u,ws,r1,r2,r3⟩=>by subst r1;exact⟨u,_,rfl,r2,Reps.set r i r3⟩
theorem Reps.take:∀ {xs:List T} {vs:List V} (n:Nat),Reps K H xs vs->Reps K H (xs.take n) (vs.take n)
 | _,_,0,_=>by simp[Reps]
 | [],_,_+1,h=>by cases h;simp[Reps]
 | _::_,_,n+1,⟨u,ws,r1,r2,r3⟩=>by subst r1;exact⟨u,_,rfl,r2,Reps.take n r3⟩
theorem Reps.drop:∀ {xs:List T} {vs:List V} (n:Nat),Reps K H xs vs->Reps K H (xs.drop n) (vs.drop n)
 | _,_,0,h=>h
 | [],_,_+1,h=>by cases h;simp[Reps]
 | _::_,_,n+1,⟨u,ws,r1,r2,r3⟩=>by subst r1;exact Reps.drop n r3
theorem Reps.rep {xs:List T} {vs:List V} (r:Reps K H xs vs):∀n:Nat,Reps K H (List.replicate n xs).flatten (List.replicate n vs).flatten
 | 0=>by simp[Reps]
 | n+1=>by simpa[lXc] using r.append (Reps.rep r n)
theorem Reps.atI {xs:List T} {vs:List V} {i:Int} {x:T} (r:Reps K H xs vs) (h:atI xs i=some x):∃v,atI vs i=some v/\Rep K H x v:=by
 unfold L2.atI at h ⊢
 rw[<-r.length]
 cases e:ixN xs.length i with
 | none=>rw[e] at h;cases h
 | some j=>rw[e] at h;exact r.get h
end
structure NF where
 qual:Str
 params:Arguments
 body:FuncBody
 scope:Scope
structure FdOf (N:NF) (cl:List (Str×Addr)) (fd:FuncData) (c:Addr):Prop where
 qual:fd.qualname=N.qual
 params:fd.params=N.params
 body:fd.body=N.body
 scope:fd.scope=N.scope
 globals:fd.globals=mainGlobals
 closure:fd.closure=cl
 defaults:fd.defaults= .none
 kwdefaults:fd.kwdefaults= .none
 code:fd.code= .ref c
 builtins:fd.builtins=builtinsNs
def LCode (H:Hp) (c':Addr) (q:Str):Prop:=∃(oc:Obj) (u:HO) (vs:Array Value) (tq:Tok),H c'=some (.frz oc u)/\oc.data= .fields vs/\vs[1]? =some (.str q tq)
theorem LCode.mono {H H':Hp} {c':Addr} {q:Str} (h:LCode H c' q) (e:Ext H H'):LCode H' c' q:=let ⟨oc,u,vs,tq,h1,h2⟩:=h;⟨oc,u,vs,tq,e.frz _ _ _ h1,h2⟩
inductive TbL (H:Hp) (es:List (Nat×Nat×Str)):List Value->Prop
 | nil:TbL H es []
 | cons {l c:Nat} {q:Str} {t1 t2:Tok} {c':Addr} {r:List Value}:(l,c,q)∈es->LCode H c' q->TbL H es r->TbL H es (.int l t1:: .int c t2:: .ref c'::r)
theorem TbL.mono {H H':Hp} {es:List (Nat×Nat×Str)} {ps:List Value} (h:TbL H es ps) (e:Ext H H'):TbL H' es ps:=by
 induction h with
 | nil=>exact .nil
 | cons a b _ ih=>exact .cons a (b.mono e) ih
inductive GO where
 | lst (xs:List T) | dct (kvs:List (TKey×T)) | dck (kvs:List (Key×T)) | fdc (kvs:List (TKey×T)) | ins (cn:Str) (fs:List (Str×T)) | exc (cn:Str) | tbs (es:List (Nat×Nat×Str)) | fn (N:NF) (cl:List (Str×Addr)) | cel (t:T)
abbrev Gp:=Addr->Option GO
def gup (G:Gp) (a:Addr) (o:GO):Gp:=fun b=>if b=a then some o else G b
theorem jJd {G:Gp} {a:Addr} {o:GO}:gup G a o a=some o:=by simp[gup]
theorem jJp {G:Gp} {a b:Addr} {o:GO} (h:b≠a):gup G a o b=G b:=by simp[gup,h]
theorem kZ6 {G:Gp} {a:Addr} {o o':GO}:gup (gup G a o) a o'=gup G a o':=by funext b;by_cases h:b=a<;>simp[gup,h]
def asL:Option GO->Option (List T)
 | some (.lst xs)=>some xs
 | _=>none
def seqT (G:Gp):T->Option (List T)
 | .tup xs=>some xs
 | .scr xs=>some xs
 | .ref a=>asL (G a)
 | _=>none
def PKV {κ:Type} (K:PySem.W.Frag) (H:Hp):List (κ×T)->List (κ×V)->Prop:=Paired fun p q=>p.1=q.1/\Rep K H p.2 q.2
noncomputable def GOk (K:PySem.W.Frag) (H:Hp) (a:Addr):GO->Prop
 | .lst xs=>∃vs,H a=some (.lst vs)/\Reps K H xs vs
 | .dct kvs=>∃ws,H a=some (.dT ws)/\PKV K H kvs ws
 | .dck kvs=>∃ws,H a=some (.dK ws)/\PKV K H kvs ws
 | .fdc kvs=>∃ob ws,H a=some (.frz ob (.dT ws))/\PKV K H kvs ws
 | .ins cn fs=>∃C dx ws,H a=some (.ins C dx ws)/\PySem.W.nsIn K mainGlobals cn=some (some (.ref C))/\PKV K H fs ws
 | .exc cn=>∃ob C u,H a=some (.frz ob u)/\ob.cls= .ref C/\PySem.W.nsIn K mainGlobals cn=some (some (.ref C))
 | .tbs es=>∃ps:Array Value,H a=some (.tbl ps)/\TbL H es ps.toList
 | .fn N cl=>∃ob u fd c,H a=some (.frz ob u)/\ob.data= .func fd/\FdOf N cl fd c/\LCode H c N.qual
 | .cel t=>∃ob u v w,H a=some (.frz ob u)/\ob.data= .cell (some w)/\RelV v w/\Rep K H t v
def GRel (K:PySem.W.Frag) (H:Hp) (G:Gp):Prop:=∀a o,G a=some o->GOk K H a o
section
variable {K:PySem.W.Frag} {H H':Hp} {G:Gp} {a:Addr}
theorem PKV.mono {κ:Type} {kvs:List (κ×T)} {ws:List (κ×V)} (e:Ext H H') (h:PKV K H kvs ws):PKV K H' kvs ws:=Paired.mapP h fun _ _ z=>⟨z.1,Rep.mono e _ z.2⟩
theorem GOk.move {o:GO} (h:GOk K H a o) (e:Ext H H') (ha:H' a=H a):GOk K H' a o:=by
 cases o with
 | lst xs=>obtain⟨vs,h1,h2⟩:=h;exact⟨vs,ha.trans h1,Reps.mono e _ h2⟩
 | dct kvs=>obtain⟨vs,h1,h2⟩:=h;exact⟨vs,ha.trans h1,h2.mono e⟩
 | dck kvs=>obtain⟨vs,h1,h2⟩:=h;exact⟨vs,ha.trans h1,h2.mono e⟩
 | fdc kvs=>obtain⟨ob,vs,h1,h2⟩:=h;exact⟨ob,vs,ha.trans h1,h2.mono e⟩
 | ins cn fs=>obtain⟨C,dx,ws,h1,h2,h3⟩:=h;exact⟨C,dx,ws,ha.trans h1,h2,h3.mono e⟩
 | exc cn=>obtain⟨ob,C,u,h1,h2,h3⟩:=h;exact⟨ob,C,u,ha.trans h1,h2,h3⟩
 | tbs es=>obtain⟨ps,h1,h2⟩:=h;exact⟨ps,ha.trans h1,h2.mono e⟩
 | fn N cl=>obtain⟨ob,u,fd,c,h1,h2,h3,h4⟩:=h;exact⟨ob,u,fd,c,ha.trans h1,h2,h3,h4.mono e⟩
 | cel t=>obtain⟨ob,u,v,w,h1,h2,h3,h4⟩:=h;exact⟨ob,u,v,w,ha.trans h1,h2,h3,Rep.mono e _ h4⟩
theorem GOk.some {o:GO} (h:GOk K H a o):H a≠none:=by
 cases o with
 | lst xs=>obtain⟨vs,h1,h2⟩:=h;rw[h1];simp
 | dct kvs=>obtain⟨vs,h1,h2⟩:=h;rw[h1];simp
 | dck kvs=>obtain⟨vs,h1,h2⟩:=h;rw[h1];simp
 | fdc kvs=>obtain⟨ob,vs,h1,h2⟩:=h;rw[h1];simp
 | ins cn fs=>obtain⟨C,dx,ws,h1,h2,h3⟩:=h;rw[h1];simp
 | exc cn=>obtain⟨ob,C,u,h1,h2,h3⟩:=h;rw[h1];simp
 | tbs es=>obtain⟨ps,h1,h2⟩:=h;rw[h1];simp
 | fn N cl=>obtain⟨ob,u,fd,c,h1,h2⟩:=h;rw[h1];simp
 | cel t=>obtain⟨ob,u,v,w,h1,h2⟩:=h;rw[h1];simp
theorem GRel.fresh (g:GRel K H G) (h:H a=none):G a=none:=by
 cases e:G a with
 | none=>rfl
 | some o=>exact absurd h (g a o e).some
def Soft (o:Option HO):Prop:=o=none\/(∃xs,o=some (.lst xs))\/(∃kvs,o=some (.dK kvs))\/(∃kvs,o=some (.dT kvs))\/∃C dx fs,o=some (.ins C dx fs)
theorem Ext.upd {o:HO} (h:Soft (H a)):Ext H (L2.upd H a o):=by
 refine⟨fun b xs e=> ?_,fun b ob u e=> ?_⟩
 ·rw[jJr];exact e
  rintro rfl;rw[e] at h;rcases h with h | ⟨_,h⟩ | ⟨_,h⟩ | ⟨_,h⟩ | ⟨_,_,_,h⟩<;>cases h
 ·rw[jJr];exact e
  rintro rfl;rw[e] at h;rcases h with h | ⟨_,h⟩ | ⟨_,h⟩ | ⟨_,h⟩ | ⟨_,_,_,h⟩<;>cases h
theorem GRel.upd {o:HO} {go:GO} (g:GRel K H G) (h:Soft (H a)) (n:GOk K (L2.upd H a o) a go):GRel K (L2.upd H a o) (gup G a go):=by
 intro b u e
 by_cases hb:b=a
 ·subst hb;rw[jJd] at e;cases e;exact n
 ·rw[jJp hb] at e;exact (g b u e).move (Ext.upd h) (jJr hb)
theorem Soft.none (h:H a=none):Soft (H a):= .inl h
theorem Soft.lst {xs:List V} (h:H a=some (.lst xs)):Soft (H a):= .inr (.inl ⟨xs,h⟩)
theorem Soft.dT {xs:List (TKey×V)} (h:H a=some (.dT xs)):Soft (H a):= .inr (.inr (.inr (.inl ⟨xs,h⟩)))
theorem Soft.dK {xs:List (Key×V)} (h:H a=some (.dK xs)):Soft (H a):= .inr (.inr (.inl ⟨xs,h⟩))
theorem GRel.tupNew {vs:List V} (g:GRel K H G) (h:H a=Option.none):GRel K (L2.upd H a (.tup vs)) G:=by
 intro b u e
 have hb:b≠a:=by rintro rfl;exact (g b u e).some h
 exact (g b u e).move (Ext.upd (.none h)) (jJr hb)
theorem Rep.tupNew {xs:List T} {vs:List V} (r:Reps K H xs vs) (h:H a=Option.none):Rep K (L2.upd H a (.tup vs)) (.tup xs) (.ref a):=
 ⟨a,vs,rfl,jJ3,Reps.mono (Ext.upd (.none h)) _ r⟩
theorem GRel.lstNew {xs:List T} {vs:List V} (g:GRel K H G) (r:Reps K H xs vs) (h:Soft (H a)):GRel K (L2.upd H a (.lst vs)) (gup G a (.lst xs)):=
 g.upd h ⟨vs,jJ3,Reps.mono (Ext.upd h) _ r⟩
theorem GRel.lst {xs:List T} (g:GRel K H G) (h:G a=some (.lst xs)):∃vs,H a=some (.lst vs)/\Reps K H xs vs:=g a _ h
end
abbrev St3:=List (Option T)
def SRel (K:PySem.W.Frag) (H:Hp) (σ:L2.St) (τ:St3):Prop:=σ.length=τ.length/\∀(i:Nat) (t:T),τ[i]? =some (some t)->∃v,σ[i]? =some (some v)/\Rep K H t v
theorem SRel.mono {K:PySem.W.Frag} {H H':Hp} {σ:L2.St} {τ:St3} (e:Ext H H') (h:SRel K H σ τ):SRel K H' σ τ:=
 ⟨h.1,fun i t q=>let ⟨v,h1,h2⟩:=h.2 i t q;⟨v,h1,Rep.mono e _ h2⟩⟩
theorem SRel.set {K:PySem.W.Frag} {H:Hp} {σ:L2.St} {τ:St3} {t:T} {v:V} (h:SRel K H σ τ) (i:Nat) (r:Rep K H t v):SRel K H (σ.set i (some v)) (τ.set i (some t)):=by
 refine⟨by simp[h.1],fun j u q=> ?_⟩
 by_cases hj:i=j
 ·subst hj
  have hl:i<τ.length:=by
   rcases lXa i τ.length with z | z
   ·exact z
   ·rw[lK7 (by simpa using z)] at q;cases q
  rw[lXz hl] at q
  cases q
  exact⟨v,by rw[lXz (by rw[h.1];exact hl)],r⟩
 ·rw[lYj hj] at q ⊢
  exact h.2 j u q
def Inv3 (X:Cx) (pins:List (Addr×Obj)) (τ:St3) (G:Gp) (H:Hp) (s:Shared):Prop:=∃ σ,Inv X pins σ H s/\SRel X.K H σ τ/\GRel X.K H G
abbrev VK3:=T->Gp->Prop
abbrev TE3:=St3->Gp->VK3->Prop
abbrev TT3:=St3->Gp->(Bool->Gp->Prop)->Prop
abbrev TA3:=St3->Gp->(List T->Gp->Prop)->Prop
structure Ends3 where
 nx:St3->Gp->Prop
 rt:VK3
 bk:St3->Gp->Prop:=fun _ _=>False
 ct:St3->Gp->Prop:=fun _ _=>False
abbrev TS3:=Ends3->St3->Gp->Prop
def RU (K:PySem.W.Frag) (H:Hp) (t:T) (u:Value):Prop:=∃v,Rep K H t v/\RelV v u
def RUs (K:PySem.W.Frag) (H:Hp) (ts:List T) (us:List Value):Prop:=∃vs,Reps K H ts vs/\Vals vs us
theorem RU.mono {K:PySem.W.Frag} {H H':Hp} {t:T} {u:Value} (e:Ext H H') (h:RU K H t u):RU K H' t u:=let ⟨v,h1,h2⟩:=h;⟨v,Rep.mono e _ h1,h2⟩
theorem RUs.mono {K:PySem.W.Frag} {H H':Hp} {t:List T} {u:List Value} (e:Ext H H') (h:RUs K H t u):RUs K H' t u:=let ⟨v,h1,h2⟩:=h;⟨v,Reps.mono e _ h1,h2⟩
def EP3 (X:Cx) (pins:List (Addr×Obj)) (τ:St3) (H:Hp) (Q:VK3) (u:Value) (s':Shared):Prop:=∃t G' H',Ext H H'/\Inv3 X pins τ G' H' s'/\RU X.K H' t u/\Q t G'
def TP3 (X:Cx) (pins:List (Addr×Obj)) (τ:St3) (H:Hp) (Q:Bool->Gp->Prop) (b:Bool) (s':Shared):Prop:=∃G' H',Ext H H'/\Inv3 X pins τ G' H' s'/\Q b G'
def AP3 (X:Cx) (pins:List (Addr×Obj)) (τ:St3) (H:Hp) (Q:List T->Gp->Prop) (us:List Value) (s':Shared):Prop:=∃ts G' H',Ext H H'/\Inv3 X pins τ G' H' s'/\RUs X.K H' ts us/\Q ts G'
def SP3 (X:Cx) (pins:List (Addr×Obj)) (H:Hp) (D:Ends3) (f:Flow) (s':Shared):Prop:=
 match f with
 | .next=>∃ τ' G' H',Ext H H'/\Inv3 X pins τ' G' H' s'/\D.nx τ' G'
 | .brk=>∃ τ' G' H',Ext H H'/\Inv3 X pins τ' G' H' s'/\D.bk τ' G'
 | .cont=>∃ τ' G' H',Ext H H'/\Inv3 X pins τ' G' H' s'/\D.ct τ' G'
 | .ret u=>∃t τ' G' H',Ext H H'/\Inv3 X pins τ' G' H' s'/\RU X.K H' t u/\D.rt t G'
def PE3 (X:Cx) (e:Expr) (t:TE3):Prop:=∀(pins:List (Addr×Obj)) (s:Shared) (τ:St3) (G:Gp) (H:Hp) (Q:VK3),Inv3 X pins τ G H s->t τ G Q->wpAny (model X.prog X.w) X.A (eval e X.env) (EP3 X pins τ H Q) X.xe s
def PT3 (X:Cx) (e:Expr) (t:TT3):Prop:=∀(pins:List (Addr×Obj)) (s:Shared) (τ:St3) (G:Gp) (H:Hp) (Q:Bool->Gp->Prop),Inv3 X pins τ G H s->t τ G Q->wpAny (model X.prog X.w) X.A (isTrue e X.env (eval e X.env)) (TP3 X pins τ H Q) X.xe s
def PW3 (X:Cx) (e:Expr) (t:TT3):Prop:=∀(whole:Sem Value) (pins:List (Addr×Obj)) (s:Shared) (τ:St3) (G:Gp) (H:Hp) (Q:Bool->Gp->Prop),Inv3 X pins τ G H s->t τ G Q->wpAny (model X.prog X.w) X.A (isTrue e X.env whole) (TP3 X pins τ H Q) X.xe s
theorem PW3.pt {X:Cx} {e:Expr} {t:TT3} (h:PW3 X e t):PT3 X e t:=h _
def PA3 (X:Cx) (es:List Expr) (t:TA3):Prop:=∀(pos:Pos) (pins:List (Addr×Obj)) (s:Shared) (τ:St3) (G:Gp) (H:Hp) (Q:List T->Gp->Prop),Inv3 X pins τ G H s->t τ G Q->wpAny (model X.prog X.w) X.A (spliced (backTo pos (starEach es X.env))) (AP3 X pins τ H Q) X.xe s
def PS3 (X:Cx) (st:Stmt) (t:TS3):Prop:=∀(pins:List (Addr×Obj)) (s:Shared) (τ:St3) (G:Gp) (H:Hp) (D:Ends3),Inv3 X pins τ G H s->t D τ G->wpAny (model X.prog X.w) X.A (exec st X.env) (SP3 X pins H D) X.xe s
def PSs3 (X:Cx) (st:List Stmt) (t:TS3):Prop:=∀(pins:List (Addr×Obj)) (s:Shared) (τ:St3) (G:Gp) (H:Hp) (D:Ends3),Inv3 X pins τ G H s->t D τ G->wpAny (model X.prog X.w) X.A (execs st X.env) (SP3 X pins H D) X.xe s
section
variable {X:Cx} {pins:List (Addr×Obj)} {τ:St3} {G:Gp} {H H1:Hp} {s:Shared} {C:Prop}
theorem EP3.el {Q:VK3} {u:Value} (h:EP3 X pins τ H Q u s) (k:∀t G' H',Ext H H'->Inv3 X pins τ G' H' s->RU X.K H' t u->Q t G'->C):C:=let ⟨t,G',H',a,b,c,d⟩:=h;k t G' H' a b c d
theorem AP3.el {Q:List T->Gp->Prop} {u:List Value} (h:AP3 X pins τ H Q u s) (k:∀t G' H',Ext H H'->Inv3 X pins τ G' H' s->RUs X.K H' t u->Q t G'->C):C:=let ⟨t,G',H',a,b,c,d⟩:=h;k t G' H' a b c d
theorem TP3.el {Q:Bool->Gp->Prop} {u:Bool} (h:TP3 X pins τ H Q u s) (k:∀G' H',Ext H H'->Inv3 X pins τ G' H' s->Q u G'->C):C:=let ⟨G',H',a,b,c⟩:=h;k G' H' a b c
theorem Inv3.el (h:Inv3 X pins τ G H s) (k:∀ σ,Inv X pins σ H s->SRel X.K H σ τ->GRel X.K H G->C):C:=let ⟨σ,a,b,c⟩:=h;k σ a b c
theorem RU.el {K:PySem.W.Frag} {t:T} {u:Value} (h:RU K H t u) (k:∀v,Rep K H t v->RelV v u->C):C:=let ⟨v,a,b⟩:=h;k v a b
theorem RUs.el {K:PySem.W.Frag} {t:List T} {u:List Value} (h:RUs K H t u) (k:∀v,Reps K H t v->Vals v u->C):C:=let ⟨v,a,b⟩:=h;k v a b
end
section
variable {X:Cx} {pins:List (Addr×Obj)} {τ:St3} {G:Gp} {H H1:Hp} {s:Shared}
theorem EP3.ext {Q:VK3} {u:Value} (e:Ext H H1) (h:EP3 X pins τ H1 Q u s):EP3 X pins τ H Q u s:=let ⟨t,G',H',a,b⟩:=h;⟨t,G',H',e.trans a,b⟩
theorem TP3.ext {Q:Bool->Gp->Prop} {u:Bool} (e:Ext H H1) (h:TP3 X pins τ H1 Q u s):TP3 X pins τ H Q u s:=let ⟨G',H',a,b⟩:=h;⟨G',H',e.trans a,b⟩
theorem SP3.ext {D:Ends3} {f:Flow} (e:Ext H H1) (h:SP3 X pins H1 D f s):SP3 X pins H D f s:=by
 cases f with
 | next=>obtain⟨τ',G',H',a,b⟩:=h;exact⟨τ',G',H',e.trans a,b⟩
 | brk=>obtain⟨τ',G',H',a,b⟩:=h;exact⟨τ',G',H',e.trans a,b⟩
 | cont=>obtain⟨τ',G',H',a,b⟩:=h;exact⟨τ',G',H',e.trans a,b⟩
 | ret u=>obtain⟨t,τ',G',H',a,b⟩:=h;exact⟨t,τ',G',H',e.trans a,b⟩
theorem bin3 {a b:Expr} {ta tb:TE3} (ha:PE3 X a ta) (hb:PE3 X b tb) {R:T->T->Gp->Prop} (I:Inv3 X pins τ G H s) (h:ta τ G fun x G1=>tb τ G1 fun y G2=>R x y G2)
  {α:Type} {Q:α->Shared->Prop} {f:Value->Value->Sem α}
  (hf:∀v u s2 x y G2 H2,Ext H H2->Inv3 X pins τ G2 H2 s2->RU X.K H2 x v->RU X.K H2 y u->R x y G2->wpAny (model X.prog X.w) X.A (f v u) Q X.xe s2):
  wpAny (model X.prog X.w) X.A (eval a X.env) (fun v s₁=>wpAny (model X.prog X.w) X.A (eval b X.env) (fun u s₂=>wpAny (model X.prog X.w) X.A (f v u) Q X.xe s₂) X.xe s₁) X.xe s:=by
 refine thn (ha pins s τ G H _ I h) fun v s1 w_=>w_.el fun x G1 H1 e1 I1 r1 q1=> ?_
 refine thn (hb pins s1 τ G1 H1 _ I1 q1) fun u s2 w_=>w_.el fun y G2 H2 e2 I2 r2 q2=> ?_
 exact hf v u s2 x y G2 H2 (e1.trans e2) I2 (r1.mono e2) r2 q2
def up (K:PySem.W.Frag) (H:Hp) (Q:VK3):VK:=fun v H'=>∃t G',Ext H H'/\GRel K H' G'/\Rep K H' t v/\Q t G'
theorem jV0 {σ:L2.St} {Q:VK3} {u:Value} (hs:SRel X.K H σ τ) (h:EP X pins σ (up X.K H Q) u s):EP3 X pins τ H Q u s:=
 let ⟨v,H',I',r',t,G',e,g',rt,q⟩:=h
 ⟨t,G',H',e,⟨σ,I',hs.mono e,g'⟩,⟨v,rt,r'⟩,q⟩
end
section
variable {X:Cx} {pos:Pos}
def tVar (i:Nat):TE3:=fun τ G Q=>∃t,τ[i]? =some (some t)/\Q t G
def tC (t:T):TE3:=fun _ G Q=>Q t G
theorem jJb (i:Nat) {x:Str} (hN:X.N[i]? =some x:=by rfl) (hv:Vis X.env.scope x:=by first | exact Or.inl rfl | exact Or.inr (Or.inl rfl) | exact Or.inr (Or.inr rfl))
  (hd:(x == ("__debug__":Str))=false:=by decide) (hcd:(x == ("__classdict__":Str))=false:=by decide):PE3 X (.Name x pos) (tVar i):=by
 rintro pins s τ G H Q ⟨σ,I,hs,hg⟩ ⟨t,e,q⟩
 obtain⟨v,ev,rv⟩:=hs.2 i t e
 exact thn (pe_var hN hv hd hcd pins s σ H (up X.K H Q) I ⟨v,ev,t,G,.refl H,hg,rv,q⟩) fun u s' h=>jV0 hs h
theorem jJx {i j}:PE3 X (.Constant (.int i) j pos) (tC (.int i)):=fun pins s τ G H Q ⟨σ,I,hs,hg⟩ q=>
 thn (pe_int pins s σ H (up X.K H Q) I ⟨.int i,G,.refl H,hg,rfl,q⟩) fun u s' h=>jV0 hs h
theorem e_bl {b j}:PE3 X (.Constant (.bool b) j pos) (tC (.bl b)):=fun pins s τ G H Q ⟨σ,I,hs,hg⟩ q=>
 thn (pe_bl pins s σ H (up X.K H Q) I ⟨.bl b,G,.refl H,hg,rfl,q⟩) fun u s' h=>jV0 hs h
theorem e_non {j}:PE3 X (.Constant .none j pos) (tC .non):=fun pins s τ G H Q ⟨σ,I,hs,hg⟩ q=>
 thn (pe_non pins s σ H (up X.K H Q) I ⟨.non,G,.refl H,hg,rfl,q⟩) fun u s' h=>jV0 hs h
end
abbrev R3:=T->T->Gp->VK3->Prop
def Op3 (X:Cx) (f:Value->Value->Sem Value) (r:R3):Prop:=
 ∀(pins:List (Addr×Obj)) (s:Shared) (τ:St3) (G:Gp) (H:Hp) (x y:T) (v u:Value) (Q:VK3),Inv3 X pins τ G H s->RU X.K H x v->RU X.K H y u->r x y G Q->wpAny (model X.prog X.w) X.A (f v u) (EP3 X pins τ H Q) X.xe s
def Call3 (X:Cx) (f:Value) (r:List T->Gp->VK3->Prop):Prop:=
 ∀(pins:List (Addr×Obj)) (s:Shared) (τ:St3) (G:Gp) (H:Hp) (xs:List T) (us:List Value) (Q:VK3),Inv3 X pins τ G H s->RUs X.K H xs us->r xs G Q->wpAny (model X.prog X.w) X.A (call f us) (EP3 X pins τ H Q) X.xe s
def Mt3 (X:Cx) (id:String) (r:T->List T->Gp->VK3->Prop):Prop:=
 ∀(pins:List (Addr×Obj)) (s:Shared) (τ:St3) (G:Gp) (H:Hp) (x:T) (xs:List T) (v:Value) (us:List Value) (Q:VK3),Inv3 X pins τ G H s->RU X.K H x v->RUs X.K H xs us->r x xs G Q->
  wpAny (model X.prog X.w) X.A (call (.builtin id) (v::us)) (EP3 X pins τ H Q) X.xe s
def Ix3 (X:Cx) (r:R3):Prop:=
 ∀(value slice:Expr) (pins:List (Addr×Obj)) (s:Shared) (τ:St3) (G:Gp) (H:Hp) (x y:T) (v u:Value) (Q:VK3),Inv3 X pins τ G H s->RU X.K H x v->RU X.K H y u->r x y G Q->
  subscripted slice false v u=operate [v,u] (getItem v u)->wpAny (model X.prog X.w) X.A (subscriptTail value slice v u) (EP3 X pins τ H Q) X.xe s
def Set3 (X:Cx) (r:T->T->T->Gp->(Gp->Prop)->Prop):Prop:=
 ∀(pins:List (Addr×Obj)) (s:Shared) (τ:St3) (G:Gp) (H:Hp) (o i v:T) (ov iv u:Value) (Q:Gp->Prop),Inv3 X pins τ G H s->RU X.K H o ov->RU X.K H i iv->RU X.K H v u->r o i v G Q->
  wpAny (model X.prog X.w) X.A (setItem ov iv u) (fun _ s'=>∃G' H',Ext H H'/\Inv3 X pins τ G' H' s'/\Q G') X.xe s
def Tru3 (X:Cx) (r:T->Gp->(Bool->Gp->Prop)->Prop):Prop:=
 ∀(pins:List (Addr×Obj)) (s:Shared) (τ:St3) (G:Gp) (H:Hp) (x:T) (v:Value) (Q:Bool->Gp->Prop),Inv3 X pins τ G H s->RU X.K H x v->r x G Q->wpAny (model X.prog X.w) X.A (truthy v) (TP3 X pins τ H Q) X.xe s
section
variable {X:Cx}
theorem Op3.of {f:Value->Value->Sem Value} {r:R2} {r3:R3} (h:OpR X f r)
  (hr:∀H G x y a b Q,GRel X.K H G->Rep X.K H x a->Rep X.K H y b->r3 x y G Q->r a b H (up X.K H Q)):Op3 X f r3:=by
 rintro pins s τ G H x y v u Q ⟨σ,I,hs,hg⟩ ⟨a,ra,rv⟩ ⟨b,rb,ru⟩ q
 exact thn (h pins s σ H a b v u _ I rv ru (hr H G x y a b Q hg ra rb q)) fun u s' h=>jV0 hs h
theorem Call3.of {f:Value} {r:List V->Hp->VK->Prop} {r3:List T->Gp->VK3->Prop} (h:kX2 X f r)
  (hr:∀H G xs as Q,GRel X.K H G->Reps X.K H xs as->r3 xs G Q->r as H (up X.K H Q)):Call3 X f r3:=by
 rintro pins s τ G H xs us Q ⟨σ,I,hs,hg⟩ ⟨as,ra,rv⟩ q
 exact thn (h pins s σ H as us _ I rv (hr H G xs as Q hg ra q)) fun u s' h=>jV0 hs h
theorem Mt3.of {id:String} {r:V->List V->Hp->VK->Prop} {r3:T->List T->Gp->VK3->Prop} (h:MtR X id r)
  (hr:∀H G x xs a as Q,GRel X.K H G->Rep X.K H x a->Reps X.K H xs as->r3 x xs G Q->r a as H (up X.K H Q)):Mt3 X id r3:=by
 rintro pins s τ G H x xs v us Q ⟨σ,I,hs,hg⟩ ⟨a,ra,rv⟩ ⟨as,ras,rvs⟩ q
 exact thn (h pins s σ H a as v us _ I rv rvs (hr H G x xs a as Q hg ra ras q)) fun u s' h=>jV0 hs h
theorem Ix3.of {r:R2} {r3:R3} (h:IxR X r)
  (hr:∀H G x y a b Q,GRel X.K H G->Rep X.K H x a->Rep X.K H y b->r3 x y G Q->r a b H (up X.K H Q)):Ix3 X r3:=by
 rintro value slice pins s τ G H x y v u Q ⟨σ,I,hs,hg⟩ ⟨a,ra,rv⟩ ⟨b,rb,ru⟩ q hh
 exact thn (h value slice pins s σ H a b v u _ I rv ru (hr H G x y a b Q hg ra rb q) hh) fun u s' h=>jV0 hs h
theorem Set3.of {t:TSet} {r3:T->T->T->Gp->(Gp->Prop)->Prop} (h:PSet X t)
  (hr:∀H G o i v a b c Q,GRel X.K H G->Rep X.K H o a->Rep X.K H i b->Rep X.K H v c->r3 o i v G Q->t a b c H (fun H'=>∃G',Ext H H'/\GRel X.K H' G'/\Q G')):Set3 X r3:=by
 rintro pins s τ G H o i v ov iv u Q ⟨σ,I,hs,hg⟩ ⟨a,ra,rv⟩ ⟨b,rb,ru⟩ ⟨c,rc,rw'⟩ q
 exact thn (h pins s σ H a b c ov iv u _ I rv ru rw' (hr H G o i v a b c Q hg ra rb rc q)) fun _ s' ⟨H',I',G',e,g',q'⟩=>⟨G',H',e,⟨σ,I',hs.mono e,g'⟩,q'⟩
theorem Tru3.of {r:V->Hp->(Bool->Hp->Prop)->Prop} {r3:T->Gp->(Bool->Gp->Prop)->Prop} (h:TruR X r)
  (hr:∀H G x a Q,GRel X.K H G->Rep X.K H x a->r3 x G Q->r a H (fun b H'=>H'=H/\Q b G)):Tru3 X r3:=by
 rintro pins s τ G H x v Q ⟨σ,I,hs,hg⟩ ⟨a,ra,rv⟩ q
 exact thn (h pins s σ H a v _ I rv (hr H G x a Q hg ra q)) fun b s' ⟨H',I',e,q'⟩=>by
  subst e;exact⟨G,H',.refl _,⟨σ,I',hs,hg⟩,q'⟩
theorem Op3.or {f:Value->Value->Sem Value} {r r':R3} (h:Op3 X f r) (h':Op3 X f r'):Op3 X f (fun x y G Q=>r x y G Q\/r' x y G Q):=by
 intro pins s τ G H x y v u Q I rx ry q
 rcases q with q | q
 ·exact h pins s τ G H x y v u Q I rx ry q
 ·exact h' pins s τ G H x y v u Q I rx ry q
def rI (C:Int->Int->Prop) (g:Int->Int->T):R3:=fun x y G Q=>∃i j,x= .int i/\y= .int j/\C i j/\Q (g i j) G
def rI0 (g:Int->Int->T):R3:=fun x y G Q=>∃i j,x= .int i/\y= .int j/\Q (g i j) G
theorem o_I {f:Value->Value->Sem Value} {C:Int->Int->Prop} {g:Int->Int->V} {g':Int->Int->T} (h:OpR X f (L2.rI C g)) (hg':∀K H i j,Rep K H (g' i j) (g i j)):Op3 X f (rI C g'):=
 Op3.of h fun H G x y a b Q hg ra rb ⟨i,j,ex,ey,c,q⟩=>by
  subst ex;subst ey
  cases (show a= .int i from ra);cases (show b= .int j from rb)
  exact⟨i,j,rfl,rfl,c,g' i j,G,.refl H,hg,hg' _ _ i j,q⟩
theorem o_I0 {f:Value->Value->Sem Value} {g:Int->Int->V} {g':Int->Int->T} (h:OpR X f (L2.rI0 g)) (hg':∀K H i j,Rep K H (g' i j) (g i j)):Op3 X f (rI0 g'):=
 Op3.of h fun H G x y a b Q hg ra rb ⟨i,j,ex,ey,q⟩=>by
  subst ex;subst ey
  cases (show a= .int i from ra);cases (show b= .int j from rb)
  exact⟨i,j,rfl,rfl,g' i j,G,.refl H,hg,hg' _ _ i j,q⟩
theorem o_add:Op3 X (binaryOp .Add) (rI0 fun i j=> .int (i+j)):=o_I0 op_add fun _ _ _ _=>rfl
theorem o_mul:Op3 X (binaryOp .Mult) (rI CMul fun i j=> .int (i*j)):=o_I op_mul fun _ _ _ _=>rfl
theorem qU3:Op3 X (binaryOp .FloorDiv) (rI CDiv fun i j=> .int (i / j)):=o_I qV0 fun _ _ _ _=>rfl
theorem jY5:Op3 X (binaryOp .Mod) (rI (fun _ j=>0<j) fun i j=> .int (i%j)):=o_I op_mod fun _ _ _ _=>rfl
theorem o_pow:Op3 X (binaryOp .Pow) (rI CPow fun i j=> .int (i^j.toNat)):=o_I op_pow fun _ _ _ _=>rfl
theorem o_lt:Op3 X (compareOp .Lt) (rI0 fun i j=> .bl (decide (i<j))):=o_I0 op_lt fun _ _ _ _=>rfl
theorem o_le:Op3 X (compareOp .LtE) (rI0 fun i j=> .bl (decide (i<=j))):=o_I0 op_le fun _ _ _ _=>rfl
theorem o_gt:Op3 X (compareOp .Gt) (rI0 fun i j=> .bl (decide (j<i))):=o_I0 op_gt fun _ _ _ _=>rfl
theorem o_ge:Op3 X (compareOp .GtE) (rI0 fun i j=> .bl (decide (j<=i))):=o_I0 op_ge fun _ _ _ _=>rfl
def kXs:T->Bool
 | .non=>true
 | _=>false
theorem Rep.non_iff {K:PySem.W.Frag} {H:Hp} {x:T} {a:V} (r:Rep K H x a):decide (a= .non)=kXs x:=by
 cases x with
 | non=>cases (show a= .non from r);rfl
 | bl b=>cases (show a= .bl b from r);rfl
 | int b=>cases (show a= .int b from r);rfl
 | str b=>cases (show a= .str b from r);rfl
 | ref b=>cases (show a= .ref b from r);rfl
 | ty b=>cases (show a= .ty b from r);rfl
 | tup b=>obtain⟨_,_,e,_⟩:=(show ∃c vs,a= .ref c/\_ from r);subst e;rfl
 | scr b=>obtain⟨_,_,e,_⟩:=(show ∃c vs,a= .ref c/\_ from r);subst e;rfl
theorem o_isN:Op3 X (compareOp .Is) (fun x y G Q=>y= .non/\Q (.bl (kXs x)) G):=
 Op3.of op_isN fun H G x y a b Q hg ra rb ⟨ey,q⟩=>by
  subst ey;cases (show b= .non from rb)
  exact⟨rfl,.bl (kXs x),G,.refl H,hg,by rw[ra.non_iff];rfl,q⟩
end
def tOp (r:R3) (ta tb:TE3):TE3:=fun τ G Q=>ta τ G fun x G1=>tb τ G1 fun y G2=>r x y G2 Q
def tUn (r:T->Gp->VK3->Prop) (ta:TE3):TE3:=fun τ G Q=>ta τ G fun x G1=>r x G1 Q
def jKp (t:TE3):TT3:=fun τ G Q=>t τ G fun x G1=>∃c,x= .bl c/\Q c G1
def tAnd (t u:TT3):TT3:=fun τ G Q=>t τ G fun c G1=>if c=true then u τ G1 Q else Q false G1
def tOr (t u:TT3):TT3:=fun τ G Q=>t τ G fun c G1=>if c=true then Q true G1 else u τ G1 Q
def tNot (t:TT3):TT3:=fun τ G Q=>t τ G fun c G1=>Q (!c) G1
def kXa (ta tb:TE3):TE3:=fun τ G Q=>ta τ G fun x G1=>∃c,x= .bl c/\if c=true then tb τ G1 Q else Q (.bl false) G1
def tOrV (ta tb:TE3):TE3:=fun τ G Q=>ta τ G fun x G1=>∃c,x= .bl c/\if c=true then Q (.bl true) G1 else tb τ G1 Q
def qVm (ta:TE3):TE3:=fun τ G Q=>ta τ G fun x G1=>∃c,x= .bl c/\Q (.bl (!c)) G1
def tIf (t:TT3) (ta tb:TE3):TE3:=fun τ G Q=>t τ G fun c G1=>if c=true then ta τ G1 Q else tb τ G1 Q
def tNil:TA3:=fun _ G Q=>Q [] G
def jJc (ta:TE3) (tr:TA3):TA3:=fun τ G Q=>ta τ G fun x G1=>tr τ G1 fun xs G2=>Q (x::xs) G2
def tTup (t:TA3):TE3:=fun τ G Q=>t τ G fun xs G1=>xs.length<=sizeLine/\Q (.tup xs) G1
def tLst (t:TA3):TE3:=fun τ G Q=>t τ G fun xs G1=>xs.length<=sizeLine/\∀p,G1 p=none->Q (.ref p) (gup G1 p (.lst xs))
def tCB (r:List T->Gp->VK3->Prop) (t:TA3):TE3:=fun τ G Q=>t τ G fun xs G1=>r xs G1 Q
section
variable {X:Cx} {a b c:Expr} {ta tb tc:TE3} {tA tB:TT3} {pos:Pos} {rest es:List Expr} {t:TA3}
theorem e_op {op:Operator} {r:R3} (ho:Op3 X (binaryOp op) r) (ha:PE3 X a ta) (hb:PE3 X b tb):PE3 X (.BinOp a op b pos) (tOp r ta tb):=by
 intro pins s τ G H Q I h
 exact wpAny_BinOp (bin3 ha hb I h fun v u s2 x y G2 H2 e I2 rx ry q=>thn (ho pins s2 τ G2 H2 x y v u Q I2 rx ry q) fun _ _ z=>z.ext e)
theorem kXw {op:CmpOp} {r:R3} (ho:Op3 X (compareOp op) r) (ha:PE3 X a ta) (hb:PE3 X b tb) (hm:behindInMarks op b=false):PE3 X (.Compare a [op] [b] pos) (tOp r ta tb):=by
 intro pins s τ G H Q I h
 exact wpAny_Compare1 (bin3 ha hb I h fun v u s2 x y G2 H2 e I2 rx ry q=>thn (ho pins s2 τ G2 H2 x y v u Q I2 rx ry q) fun _ _ z=>z.ext e) hm
theorem jVg {op:CmpOp} {r:R3} (ho:Op3 X (compareOp op) r) (ha:PE3 X a ta) (hb:PE3 X b tb) (hm:behindInMarks op b=false):PT3 X (.Compare a [op] [b] pos) (jKp (tOp r ta tb)):=by
 intro pins s τ G H Q I h
 refine wpAny_isTrue_Compare1 (bin3 ha hb I h fun v u s2 x y G2 H2 e I2 rx ry q=>thn (ho pins s2 τ G2 H2 x y v u _ I2 rx ry q) fun w' s3 w_=>w_.el fun z G3 H3 e3 I3 r3 ⟨k,ez,q3⟩=> ?_) hm
 subst ez
 obtain⟨v',rv',ru'⟩:=r3
 cases (show v'= .bl k from rv');cases ru'
 exact lXv ⟨G3,H3,e.trans e3,I3,q3⟩
theorem kQv {e:Expr} {t:TE3} (h:PE3 X e t) (he:∀whole,isTrue e X.env whole=(do let v <-whole;standAt e.pos;holding [v] (truthy v)):=by intro _;rfl):PT3 X e (jKp t):=by
 intro pins s τ G H Q I hw
 refine isTrue_plain (thn (h pins s τ G H _ I hw) fun v s1 w_=>w_.el fun x G1 H1 e1 I1 r1 ⟨k,ez,q1⟩=> ?_) (he _)
 subst ez
 obtain⟨v',rv',ru'⟩:=r1
 cases (show v'= .bl k from rv');cases ru'
 exact lXv ⟨G1,H1,e1,I1,q1⟩
def tTru (r:T->Gp->(Bool->Gp->Prop)->Prop) (t:TE3):TT3:=fun τ G Q=>t τ G fun x G1=>r x G1 Q
theorem t_tru {e:Expr} {t:TE3} {r:T->Gp->(Bool->Gp->Prop)->Prop} (hr:Tru3 X r) (h:PE3 X e t) (he:∀whole,isTrue e X.env whole=(do let v <-whole;standAt e.pos;holding [v] (truthy v)):=by intro _;rfl):PT3 X e (tTru r t):=by
 intro pins s τ G H Q I hw
 exact isTrue_plain (thn (h pins s τ G H _ I hw) fun v s1 w_=>w_.el fun x G1 H1 e1 I1 r1 q1=>thn (hr pins s1 τ G1 H1 x v Q I1 r1 q1) fun _ _ z=>z.ext e1) (he _)
theorem qKk (ha:PT3 X a tA):PW3 X (.BoolOp .Or [a] pos) tA:=by
 intro wh pins s τ G H Q I h
 refine isTrue_or (thn (ha pins s τ G H Q I h) fun c s1 e=> ?_)
 cases c with
 | false=>exact isTrue_or_nil e
 | true=>exact e
theorem w_or (ha:PT3 X a tA) (hb:PW3 X (.BoolOp .Or (b::rest) pos) tB):PW3 X (.BoolOp .Or (a::b::rest) pos) (tOr tA tB):=by
 intro wh pins s τ G H Q I h
 refine isTrue_or (thn (ha pins s τ G H _ I h) fun c s1 w_=>w_.el fun G1 H1 e1 I1 q1=> ?_)
 cases c with
 | true=>exact⟨G1,H1,e1,I1,q1⟩
 | false=>exact thn (hb wh pins s1 τ G1 H1 Q I1 q1) fun _ _ z=>z.ext e1
theorem t_not (ha:PT3 X a tA):PT3 X (.UnaryOp .Not a pos) (tNot tA):=by
 intro pins s τ G H Q I h
 exact isTrue_not (thn (ha pins s τ G H (fun c G1=>Q (!c) G1) I h) fun c s1 w_=>w_.el fun G1 H1 e1 I1 q1=>⟨G1,H1,e1,I1,q1⟩)
theorem qX6 {op} {t:TE3} (h:PE3 X a t):PE3 X (.BoolOp op [a] pos) t:=fun pins s τ G H Q I hw=>BoolOp_one (h pins s τ G H Q I hw)
theorem qQ7 (ha:PE3 X a ta) (hb:PE3 X (.BoolOp .And (b::rest) pos) tb):PE3 X (.BoolOp .And (a::b::rest) pos) (kXa ta tb):=by
 intro pins s τ G H Q I h
 refine BoolOp_and (thn (ha pins s τ G H _ I h) fun v s1 w_=>w_.el fun x G1 H1 e1 I1 r1 ⟨k,ez,q1⟩=> ?_)
 subst ez
 obtain⟨v',rv',ru'⟩:=r1
 cases (show v'= .bl k from rv');cases ru'
 refine lXv ?_
 cases k with
 | true=>exact thn (hb pins s1 τ G1 H1 Q I1 q1) fun _ _ z=>z.ext e1
 | false=>exact⟨.bl false,G1,H1,e1,I1,⟨.bl false,rfl,rfl⟩,q1⟩
theorem e_not (ha:PE3 X a ta):PE3 X (.UnaryOp .Not a pos) (qVm ta):=by
 intro pins s τ G H Q I h
 refine UnaryOp_ (thn (ha pins s τ G H _ I h) fun v s1 w_=>w_.el fun x G1 H1 e1 I1 r1 ⟨k,ez,q1⟩=> ?_)
 subst ez
 obtain⟨v',rv',ru'⟩:=r1
 cases (show v'= .bl k from rv');cases ru'
 exact not_of (lXv ⟨.bl (!k),G1,H1,e1,I1,⟨.bl (!k),rfl,rfl⟩,q1⟩)
theorem qJp (hc:PT3 X c tA) (ha:PE3 X a ta) (hb:PE3 X b tb):PE3 X (.IfExp c a b pos) (tIf tA ta tb):=by
 intro pins s τ G H Q I h
 refine IfExp_ (thn (hc pins s τ G H _ I h) fun k s1 w_=>w_.el fun G1 H1 e1 I1 q1=> ?_)
 cases k with
 | true=>exact thn (ha pins s1 τ G1 H1 Q I1 q1) fun _ _ z=>z.ext e1
 | false=>exact thn (hb pins s1 τ G1 H1 Q I1 q1) fun _ _ z=>z.ext e1
theorem jJe:PA3 X [] tNil:=fun _ _ _ _ G H Q I h=>Calls.spliced_nil ⟨[],G,H,.refl H,I,⟨[],rfl,.nil⟩,h⟩
theorem jJa {e:Expr} {te:TE3} (ha:PE3 X e te) (hr:PA3 X es t) (hs:starEach (e::es) X.env=(false,eval e X.env)::starEach es X.env:=by rfl):PA3 X (e::es) (jJc te t):=by
 intro pos pins s τ G H Q I h
 rw[hs]
 show wpAny _ _ (spliced ((false,eval e X.env)::backTo pos (starEach es X.env))) _ _ s
 refine Calls.spliced_cons (thn (ha pins s τ G H _ I h) fun u s1 w_=>w_.el fun x G1 H1 e1 I1 r1 q1=> ?_)
 refine thn (hr pos pins s1 τ G1 H1 _ I1 q1) fun us s2 w_=>w_.el fun xs G2 H2 e2 I2 r_ q2=>r_.el fun vs rs rv=> ?_
 obtain⟨v,rr,rvv⟩:=r1.mono e2
 exact⟨x::xs,G2,H2,e1.trans e2,I2,⟨v::vs,⟨v,vs,rfl,rr,rs⟩,.cons rvv rv⟩,q2⟩
theorem jQ7 {x1} (h:PA3 X es t):PE3 X (.Tuple es x1 pos) (tTup t):=by
 intro pins s τ G H Q I hq
 refine wpAny_Tuple_spliced (thn (h pos pins s τ G H _ I hq) fun us s1 w_=>w_.el fun xs G1 H1 e1 i_ r_ ⟨z,q⟩=>i_.el fun σ I1 hs1 hg1=>r_.el fun vs rs rv=>⟨by rw[<-rv.length,<-rs.length];exact z,?_⟩)
 have hf:H1 s1.heap.objs.size=none:=I1.hok.fresh (lJg _)
 have e2:Ext H1 (upd H1 s1.heap.objs.size (.tup vs)):= .upd (.none hf)
 refine⟨.tup xs,G1,upd H1 s1.heap.objs.size (.tup vs),e1.trans e2,⟨σ,I1.laid (t':=s1.toks) (fun b u e=>lJl _ e) (lJg _) ?_,hs1.mono e2,hg1.tupNew hf⟩,⟨.ref s1.heap.objs.size,Rep.tupNew rs hf,rfl⟩,q⟩
 exact⟨by rw[<-rs.length];exact z,us,rv,⟨_,lJ8 _ rfl,rfl,_,rfl,rfl⟩⟩
theorem jVc (h:PA3 X es t):PE3 X (.List es pos) (tLst t):=by
 intro pins s τ G H Q I hq
 refine wpAny_List_spliced (thn (h pos pins s τ G H _ I hq) fun us s1 w_=>w_.el fun xs G1 H1 e1 i_ r_ ⟨z,q⟩=>i_.el fun σ I1 hs1 hg1=>r_.el fun vs rs rv=>⟨by rw[<-rv.length,<-rs.length];exact z,?_⟩)
 have hf:H1 s1.heap.objs.size=none:=I1.hok.fresh (lJg _)
 have e2:Ext H1 (upd H1 s1.heap.objs.size (.lst vs)):= .upd (.none hf)
 refine⟨.ref s1.heap.objs.size,gup G1 s1.heap.objs.size (.lst xs),upd H1 s1.heap.objs.size (.lst vs),e1.trans e2,⟨σ,I1.laid (t':=s1.toks) (fun b u e=>lJl _ e) (lJg _) ?_,hs1.mono e2,hg1.lstNew rs (.none hf)⟩,⟨.ref s1.heap.objs.size,rfl,rfl⟩,q _ (hg1.fresh hf)⟩
 exact⟨by rw[<-rs.length];exact z,us,0,rv,lJ8 _ rfl⟩
theorem e_ix {r:R3} (hr:Ix3 X r) (ha:PE3 X a ta) (hb:PE3 X b tb) (hs:qYq b):PE3 X (.Subscript a b pos) (tOp r ta tb):=by
 intro pins s τ G H Q I h
 exact Subscript_ (bin3 ha hb I h fun v u s2 x y G2 H2 e I2 rx ry q=>thn (hr a b pins s2 τ G2 H2 x y v u Q I2 rx ry q (hs _ _)) fun _ _ z=>z.ext e)
def rIx:R3:=fun x y G Q=>∃xs i t,seqT G x=some xs/\y= .int i/\atI xs i=some t/\Q t G
theorem jV6 {o:Option GO} {xs:List T} (h:asL o=some xs):o=some (.lst xs):=by
 cases o with
 | none=>cases h
 | some g=>cases g with
  | lst ys=>cases h;rfl
  | dct _=>cases h
  | dck _=>cases h
  | fdc _=>cases h
  | ins _ _=>cases h
  | exc _=>cases h
  | tbs _=>cases h
  | fn _ _=>cases h
  | cel _=>cases h
theorem jQ3 {K:PySem.W.Frag} {H:Hp} {G:Gp} {x:T} {a:V} {xs:List T} (hg:GRel K H G) (r:Rep K H x a) (h:seqT G x=some xs):
  ∃p vs,a= .ref p/\(SqL K H p vs\/SqT K H p vs)/\Reps K H xs vs:=by
 cases x with
 | tup ys=>cases h;obtain⟨p,vs,e,h1,h2⟩:=(show ∃p vs,a= .ref p/\H p=some (.tup vs)/\Reps K H xs vs from r);exact⟨p,vs,e,.inr (.of h1),h2⟩
 | scr ys=>cases h;obtain⟨p,vs,e,h1,h2⟩:=(show ∃p vs,a= .ref p/\FrL K H p vs/\Reps K H xs vs from r);exact⟨p,vs,e,.inl h1.sq,h2⟩
 | ref p=>
  obtain⟨vs,h1,h2⟩:=hg.lst (jV6 h)
  exact⟨p,vs,r,.inl (.of h1),h2⟩
 | non=>cases h
 | bl _=>cases h
 | int _=>cases h
 | str _=>cases h
 | ty _=>cases h
theorem ix_any:Ix3 X rIx:=
 Ix3.of (ix_list.or ix_tup) fun H G x y a b Q hg ra rb ⟨xs,i,t,hx,ey,ht,q⟩=>by
  subst ey;cases (show b= .int i from rb)
  obtain⟨p,vs,e,hq,r⟩:=jQ3 hg ra hx
  subst e
  obtain⟨v,hv,rv⟩:=r.atI ht
  rcases hq with hq | hq
  ·exact .inl ⟨p,vs,i,v,rfl,rfl,hq,hv,t,G,.refl H,hg,rv,q⟩
  ·exact .inr ⟨p,vs,i,v,rfl,rfl,hq,hv,t,G,.refl H,hg,rv,q⟩
theorem jJq {id:String} {r:List T->Gp->VK3->Prop} {x:Str} {p:Pos} {e:Expr} (hc:Call3 X (.builtin id) r) (hg:Gl X x) (hm:X.mg x=none) (hv:bootBuiltins x=some (.builtin id)) (ha:PA3 X (e::es) t) (hn:x≠"__name__":=by decide) (hdb:(x == ("__debug__":Str))=false:=by decide)
  (he:starEach (e::es) X.env=(false,eval e X.env)::starEach es X.env:=by rfl) (hpl:(backTo pos (starEach es X.env)).any (·.1)=false:=by rfl):PE3 X (.Call (.Name x p) (e::es) [] pos) (tCB r t):=by
 intro pins s τ G H Q I h
 obtain⟨σ,I0,hs0,hg0⟩:=_root_.id I
 refine lXx (jUv I0 hg hm hv ?_ hn hdb)
 exact PyProof.Rows.callWith_builtin1 (thn (ha pos pins s τ G H _ I h) fun us s1 w_=>w_.el fun xs G1 H1 e1 I1 r1 q1=>thn (hc pins s1 τ G1 H1 xs us Q I1 r1 q1) fun _ _ z=>z.ext e1) he hpl
theorem jKi {T0:String} {r:List T->Gp->VK3->Prop} {x:Str} {p:Pos} {e:Expr} (hc:Call3 X (.type T0) r) (hg:Gl X x) (hm:X.mg x=none) (hv:bootBuiltins x=some (.type T0)) (ha:PA3 X (e::es) t) (hn:x≠"__name__":=by decide) (hdb:(x == ("__debug__":Str))=false:=by decide)
  (he:starEach (e::es) X.env=(false,eval e X.env)::starEach es X.env:=by rfl) (hpl:(backTo pos (starEach es X.env)).any (·.1)=false:=by rfl):PE3 X (.Call (.Name x p) (e::es) [] pos) (tCB r t):=by
 intro pins s τ G H Q I h
 obtain⟨σ,I0,hs0,hg0⟩:=_root_.id I
 refine lXx (jUv I0 hg hm hv ?_ hn hdb)
 exact lVg (thn (ha pos pins s τ G H _ I h) fun us s1 w_=>w_.el fun xs G1 H1 e1 I1 r1 q1=>thn (hc pins s1 τ G1 H1 xs us Q I1 r1 q1) fun _ _ z=>z.ext e1) he hpl
theorem jUs {K:PySem.W.Frag} {H:Hp} {x:T} {vs:List V} (h:Reps K H [x] vs):∃v,vs=[v]/\Rep K H x v:=by
 obtain⟨v,ws,rfl,r,e⟩:=h;cases e;exact⟨v,rfl,r⟩
theorem kXf {K:PySem.W.Frag} {H:Hp} {x y:T} {vs:List V} (h:Reps K H [x,y] vs):∃v w,vs=[v,w]/\Rep K H x v/\Rep K H y w:=by
 obtain⟨v,ws,rfl,r,w,ws2,rfl,r2,e⟩:=h;cases e;exact⟨v,w,rfl,r,r2⟩
def rLen:List T->Gp->VK3->Prop:=fun xs G Q=>∃x ys,xs=[x]/\seqT G x=some ys/\Q (.int ys.length) G
theorem jVd:Call3 X (.builtin "len") rLen:=
 Call3.of kQh fun H G xs as Q hg ra ⟨x,ys,e,hx,q⟩=>by
  subst e
  obtain⟨v,rfl,rv⟩:=jUs ra
  obtain⟨p,vs,rfl,hq,r⟩:=jQ3 hg rv hx
  exact⟨p,vs,rfl,hq,.int ys.length,G,.refl H,hg,by rw[r.length];rfl,q⟩
def rAbs:List T->Gp->VK3->Prop:=fun xs G Q=>∃i,xs=[.int i]/\Q (.int (if i<0 then -i else i)) G
theorem c_abs:Call3 X (.builtin "abs") rAbs:=
 Call3.of qUd fun H G xs as Q hg ra ⟨i,e,q⟩=>by
  subst e
  obtain⟨v,rfl,rv⟩:=jUs ra
  cases (show v= .int i from rv)
  exact⟨i,rfl,.int _,G,.refl H,hg,rfl,q⟩
def rMax:List T->Gp->VK3->Prop:=fun xs G Q=>∃i j,xs=[.int i,.int j]/\Q (.int (if j>i then j else i)) G
theorem c_max (hc:X.calm=true):Call3 X (.builtin "max") rMax:=
 Call3.of (qJ0 hc) fun H G xs as Q hg ra ⟨i,j,e,q⟩=>by
  subst e
  obtain⟨v,w,rfl,rv,rw'⟩:=kXf ra
  cases (show v= .int i from rv);cases (show w= .int j from rw')
  exact⟨i,j,rfl,.int _,G,.refl H,hg,rfl,q⟩
def rIntOf:List T->Gp->VK3->Prop:=fun xs G Q=>∃k,xs=[.bl k]/\Q (.int (if k then 1 else 0)) G
def qVv:List T->Gp->VK3->Prop:=fun xs G Q=>∃i j,xs=[.int i,.int j]/\CDiv i j/\Q (.tup [.int (i / j),.int (i%j)]) G
def kQ8:List T->Gp->VK3->Prop:=fun xs G Q=>∃x ys,xs=[x]/\seqT G x=some ys/\∀p,G p=none->Q (.ref p) (gup G p (.lst ys))
theorem c_list:Call3 X (.type "list") kQ8:=
 Call3.of kQg fun H G xs as Q hg ra ⟨x,ys,e,hx,q⟩=>by
  subst e
  obtain⟨v,rfl,rv⟩:=jUs ra
  obtain⟨p,vs,rfl,hq,r⟩:=jQ3 hg rv hx
  exact⟨p,vs,rfl,hq,fun l hl=>⟨.ref l,_,.upd (.none hl),hg.lstNew r (.none hl),rfl,q l (hg.fresh hl)⟩⟩
def jKe:List T->Gp->VK3->Prop:=fun xs G Q=>∃x ys,xs=[x]/\seqT G x=some ys/\Q (.tup ys) G
theorem jUh:Call3 X (.type "tuple") jKe:=
 Call3.of kKe fun H G xs as Q hg ra ⟨x,ys,e,hx,q⟩=>by
  subst e
  obtain⟨v,rfl,rv⟩:=jUs ra
  obtain⟨p,vs,rfl,hq,r⟩:=jQ3 hg rv hx
  cases x with
  | tup zs=>
   cases hx
   obtain⟨p',vs',e',h1,h2⟩:=(show ∃p' vs',V.ref p= .ref p'/\H p'=some (.tup vs')/\Reps X.K H ys vs' from rv)
   cases e'
   exact⟨p,vs',rfl,.inr ⟨.of h1,.tup ys,G,.refl H,hg,⟨p,vs',rfl,h1,h2⟩,q⟩⟩
  | scr zs=>
   cases hx
   obtain⟨p',vs',e',h1,h2⟩:=(show ∃p' vs',V.ref p= .ref p'/\FrL X.K H p' vs'/\Reps X.K H ys vs' from rv)
   cases e'
   exact⟨p,vs',rfl,.inl ⟨h1.sq,fun l hl=>⟨.tup ys,G,.upd (.none hl),hg.tupNew hl,Rep.tupNew h2 hl,q⟩⟩⟩
  | ref p'=>
   cases (show V.ref p= .ref p' from rv)
   obtain⟨vs',h1,h2⟩:=hg.lst (jV6 hx)
   exact⟨p,vs',rfl,.inl ⟨.of h1,fun l hl=>⟨.tup ys,G,.upd (.none hl),hg.tupNew hl,Rep.tupNew h2 hl,q⟩⟩⟩
  | non=>cases hx
  | bl _=>cases hx
  | int _=>cases hx
  | str _=>cases hx
  | ty _=>cases hx
noncomputable def rCat:R3:=fun x y G Q=>∃p q xs ys,x= .ref p/\y= .ref q/\G p=some (.lst xs)/\G q=some (.lst ys)/\xs.length+ys.length<=sizeLine/\∀l,G l=none->Q (.ref l) (gup G l (.lst (xs++ys)))
noncomputable def rRep:R3:=fun x y G Q=>∃p xs n,x= .ref p/\y= .int n/\G p=some (.lst xs)/\n.toNat * xs.length<=sizeLine/\n<2^62/\ -(2^62)<n/\∀l,G l=none->Q (.ref l) (gup G l (.lst (List.replicate n.toNat xs).flatten))
def tyT (G:Gp) (T0:String) (x:T):Prop:=match x with
 | .str _=>T0="str"
 | .int _=>T0="int"
 | .ref p=>(T0="list"/\∃xs,G p=some (.lst xs))\/(T0="dict"/\((∃kvs,G p=some (.dck kvs))\/∃kvs,G p=some (.dct kvs)))
 | _=>False
theorem tyT.of {K:PySem.W.Frag} {H:Hp} {G:Gp} {T0:String} {x:T} {a:V} (hg:GRel K H G) (r:Rep K H x a) (h:tyT G T0 x):tyV K T0 a H:=by
 cases x with
 | str z=>cases (show a= .str z from r);exact h
 | int z=>cases (show a= .int z from r);exact h
 | ref p=>
  cases (show a= .ref p from r)
  rcases h with ⟨e,xs,h⟩ | ⟨e,h⟩
  ·obtain⟨vs,h1,_⟩:=hg.lst h;exact .inl ⟨e,vs,.of h1⟩
  ·refine .inr (.inr (.inl ⟨e,?_⟩))
   rcases h with ⟨kvs,h⟩ | ⟨kvs,h⟩
   ·obtain⟨ws,h1,_⟩:=hg p _ h;exact .inl ⟨ws,h1⟩
   ·obtain⟨ws,h1,_⟩:=hg p _ h;exact .inr ⟨ws,h1⟩
 | non=>exact False.elim h
 | bl _=>exact False.elim h
 | ty _=>exact False.elim h
 | tup _=>exact False.elim h
 | scr _=>exact False.elim h
def tBM (T0:String) (r:T->List T->Gp->VK3->Prop) (to:TE3) (t:TA3):TE3:=fun τ G Q=>to τ G fun x G1=>tyT G1 T0 x/\t τ G1 fun xs G2=>r x xs G2 Q
theorem e_bm {T0 id:String} {r:T->List T->Gp->VK3->Prop} {o e:Expr} {name:Str} {apos cpos:Pos} {to:TE3} (pa:PlainAttrs T0) (slot:Slot T0 name id) (hty:typeOf (.builtin id)=pure (.type "method_descriptor")) (hm:Mt3 X id r) (ho:PE3 X o to) (ha:PA3 X (e::es) t)
  (hbase:attributeBase o name X.env (eval o X.env)=eval o X.env:=by rfl)
  (hfew:((backTo cpos (starEach (e::es) X.env)).all (fun x=> !x.1)&&(backToKw cpos (keywordEach [] X.env)).all (fun x=>x.1.isSome)
   &&decide ((e::es).length+([]:List Keyword).length+(if ([]:List Keyword).isEmpty then 0 else 1)<30))=true:=by rfl)
  (hline:(apos.endLine == cpos.line)=true:=by rfl) (hs:starEach (e::es) X.env=(false,eval e X.env)::starEach es X.env:=by rfl) (hplain:(backTo cpos (starEach es X.env)).any (·.1)=false:=by rfl):
  PE3 X (.Call (.Attribute o name apos) (e::es) [] cpos) (tBM T0 r to t):=by
 intro pins s τ G H Q I h
 refine wpAny_Call_method_late hbase hfew hline rfl (thn (ho pins s τ G H _ I h) fun v s1 w_=>w_.el fun x G1 H1 e1 I1 r1 ⟨ty,q1⟩=> ?_)
 obtain⟨σ,I0,hs0,hg0⟩:=_root_.id I1
 obtain⟨a0,ra0,rv0⟩:=_root_.id r1
 obtain⟨h1,h2⟩:=tyV_is I0 rv0 (tyT.of hg0 ra0 ty)
 refine⟨T0,id,pa,slot,hty,h1,h2,?_⟩
 have hA:=ha cpos pins s1 τ G1 H1 _ I1 q1
 rw[hs] at hA ⊢
 refine Calls.callWith_builtin (by show (false||(backTo cpos (starEach es X.env)).any (·.1))=false;rw[hplain]<;>rfl) (Calls.evalArgs_plain ?_)
 exact thn hA fun us s2 w_=>w_.el fun vs G2 H2 e2 I2 r2 q2=>thn (hm pins s2 τ G2 H2 x vs v us Q I2 (r1.mono e2) r2 q2) fun _ _ z=>(z.ext e2).ext e1
def jQo:T->List T->Gp->VK3->Prop:=fun x xs G Q=>∃p ys y,x= .ref p/\xs=[y]/\G p=some (.lst ys)/\ys.length<sizeLine/\Q .non (gup G p (.lst (ys++[y])))
def qK7:T->T->T->Gp->(Gp->Prop)->Prop:=fun o i v G Q=>∃p xs k j,o= .ref p/\i= .int k/\G p=some (.lst xs)/\ixN xs.length k=some j/\Q (gup G p (.lst (xs.set j v)))
theorem s_list:Set3 X qK7:=
 Set3.of qKu fun H G o i v a b c Q hg ra rb rc ⟨p,xs,k,j,eo,ei,hp,hj,q⟩=>by
  subst eo;subst ei
  cases (show a= .ref p from ra);cases (show b= .int k from rb)
  obtain⟨vs,h1,h2⟩:=hg.lst hp
  exact⟨p,vs,k,j,rfl,rfl,h1,by rw[<-h2.length];exact hj,_,.upd (.lst h1),hg.lstNew (h2.set rc j) (.lst h1),q⟩
end
section
variable {X:Cx}
theorem o_cat:Op3 X (binaryOp .Add) rCat:=
 Op3.of op_cat fun H G x y a b Q hg ra rb ⟨p,q,xs,ys,ex,ey,hp,hq,hz,h⟩=>by
  subst ex;subst ey
  cases (show a= .ref p from ra);cases (show b= .ref q from rb)
  obtain⟨vs,h1,h2⟩:=hg.lst hp
  obtain⟨ws,h3,h4⟩:=hg.lst hq
  exact⟨p,q,vs,ws,rfl,rfl,h1,h3,by rw[<-h2.length,<-h4.length];exact hz,fun l hl=>⟨.ref l,_,.upd (.none hl),hg.lstNew (h2.append h4) (.none hl),rfl,h l (hg.fresh hl)⟩⟩
theorem o_rep:Op3 X (binaryOp .Mult) rRep:=
 Op3.of op_rep fun H G x y a b Q hg ra rb ⟨p,xs,n,ex,ey,hp,hz,h1,h2,h⟩=>by
  subst ex;subst ey
  cases (show a= .ref p from ra);cases (show b= .int n from rb)
  obtain⟨vs,h3,h4⟩:=hg.lst hp
  refine⟨p,n,vs,rfl,rfl,h3,by omega,by omega,by rw[<-h4.length,Nat.mul_comm];exact hz,fun l hl=>⟨.ref l,_,.upd (.none hl),hg.lstNew (h4.rep _) (.none hl),rfl,h l (hg.fresh hl)⟩⟩
theorem jUe:Mt3 X "list.append" jQo:=
 Mt3.of kZi fun H G x xs a as Q hg ra ras ⟨p,ys,y,ex,exs,hp,hz,q⟩=>by
  subst ex;subst exs
  cases (show a= .ref p from ra)
  obtain⟨v,rfl,rv⟩:=jUs ras
  obtain⟨vs,h1,h2⟩:=hg.lst hp
  exact⟨p,vs,v,rfl,rfl,h1,by rw[<-h2.length];exact hz,.non,_,.upd (.lst h1),hg.lstNew (h2.append (.one rv)) (.lst h1),rfl,q⟩
end
def jU9:TS3:=fun D τ G=>D.nx τ G
def tSeq (t u:TS3):TS3:=fun D τ G=>t {D with nx:=u D} τ G
def jXa (te:TE3):TS3:=fun D τ G=>te τ G fun _ G1=>D.nx τ G1
def tRet (te:TE3):TS3:=fun D τ G=>te τ G D.rt
def tRetN:TS3:=fun D _ G=>D.rt .non G
def tIfS (c:TT3) (t u:TS3):TS3:=fun D τ G=>c τ G fun b G1=>if b=true then t D τ G1 else u D τ G1
section
variable {X:Cx} {st:Stmt} {rest:List Stmt} {t u:TS3} {e:Expr} {te:TE3} {pos:Pos}
theorem jUp:PSs3 X [] jU9:=fun _ _ τ G H _ I h=>wpAny_execs_nil ⟨τ,G,H,.refl H,I,h⟩
theorem jJf (h1:PS3 X st t) (h2:PSs3 X rest u):PSs3 X (st::rest) (tSeq t u):=by
 intro pins s τ G H D I h
 refine wpAny_execs_cons (thn (h1 pins s τ G H {D with nx:=u D} I h) fun f s1 q=> ?_)
 cases f with
 | next=>
  obtain⟨τ',G',H',e',I',q⟩:=q
  exact thn (h2 pins s1 τ' G' H' D I' q) fun _ _ z=>z.ext e'
 | ret v=>exact q
 | brk=>exact q
 | cont=>exact q
theorem jJn (h1:PS3 X st t):PSs3 X [st] t:=by
 intro pins s τ G H D I h
 refine wpAny_execs_cons (thn (h1 pins s τ G H D I h) fun f s1 q=> ?_)
 cases f with
 | next=>exact wpAny_execs_nil q
 | ret v=>exact q
 | brk=>exact q
 | cont=>exact q
theorem jVx (he:PE3 X e te) (hs:swapsWith e none pos.line X.env=pure false:=by rfl):PS3 X (.Expr e pos) (jXa te):=by
 intro pins s τ G H D I h
 obtain⟨σ,I0,hs0,hg0⟩:=id I
 exact wpAny_Expr_any (thn (he pins s τ G H _ I h) fun v s1 w_=>w_.el fun x G1 H1 e1 I1 r1 q1=>⟨τ,G1,H1,e1,I1,q1⟩) I0.quiet hs
theorem jKv (he:PE3 X e te):PS3 X (.Return (some e) pos) (tRet te):=by
 intro pins s τ G H D I h
 exact wpAny_Return_some (thn (he pins s τ G H _ I h) fun v s1 w_=>w_.el fun x G1 H1 e1 I1 r1 q1=>⟨x,τ,G1,H1,e1,I1,r1,q1⟩)
theorem s_if {c:Expr} {a b:List Stmt} {tc:TT3} (hc:PT3 X c tc) (ha:PSs3 X a t) (hb:PSs3 X b u):PS3 X (.If c a b pos) (tIfS tc t u):=by
 intro pins s τ G H D I h
 refine wpAny_If (thn (hc pins s τ G H _ I h) fun d s1 w_=>w_.el fun G1 H1 e1 I1 q1=> ?_)
 cases d with
 | true=>exact thn (ha pins s1 τ G1 H1 D I1 q1) fun _ _ z=>z.ext e1
 | false=>exact thn (hb pins s1 τ G1 H1 D I1 q1) fun _ _ z=>z.ext e1
end
abbrev TG3:=T->St3->Gp->(St3->Gp->Prop)->Prop
abbrev TGs3:=List T->St3->Gp->(St3->Gp->Prop)->Prop
def GP3 (X:Cx) (pins:List (Addr×Obj)) (H:Hp) (Q:St3->Gp->Prop) (s':Shared):Prop:=∃ τ' G' H',Ext H H'/\Inv3 X pins τ' G' H' s'/\Q τ' G'
def PG3 (X:Cx) (target:Expr) (t:TG3):Prop:=
 ∀(pins:List (Addr×Obj)) (s:Shared) (τ:St3) (G:Gp) (H:Hp) (v:T) (u:Value) (Q:St3->Gp->Prop),Inv3 X pins τ G H s->RU X.K H v u->t v τ G Q->
  wpAny (model X.prog X.w) X.A (assign target X.env u) (fun _ s'=>GP3 X pins H Q s') X.xe s
def PGs3 (X:Cx) (ts:List Expr) (t:TGs3):Prop:=
 ∀(pins:List (Addr×Obj)) (s:Shared) (τ:St3) (G:Gp) (H:Hp) (vs:List T) (us:List Value) (Q:St3->Gp->Prop),Inv3 X pins τ G H s->RUs X.K H vs us->t vs τ G Q->
  wpAny (model X.prog X.w) X.A (assignInOrder ((assignEach ts X.env).map (·.2)) us) (fun _ s'=>GP3 X pins H Q s') X.xe s
def jJg (i:Nat):TG3:=fun v τ G Q=>Q (τ.set i (some v)) G
def gNil:TGs3:=fun vs τ G Q=>vs=[]/\Q τ G
def jJ8 (t:TG3) (u:TGs3):TGs3:=fun vs τ G Q=>∃v r,vs=v::r/\t v τ G fun τ' G'=>u r τ' G' Q
def gTup (n:Nat) (t:TGs3):TG3:=fun v τ G Q=>∃xs,v= .tup xs/\xs.length=n/\t xs τ G Q
def gSub (to ti:TE3) (t:T->T->T->Gp->(Gp->Prop)->Prop):TG3:=fun v τ G Q=>to τ G fun o G1=>ti τ G1 fun i G2=>t o i v G2 fun G3=>Q τ G3
def tAsg (te:TE3) (g:TG3):TS3:=fun D τ G=>te τ G fun x G1=>g x τ G1 D.nx
section
variable {X:Cx} {pos:Pos}
theorem jJj {i:Nat} {x:Str} (hN:X.N.Nodup) (hi:X.N[i]? =some x:=by rfl) (hx:Loc X.env.scope x:=by first | exact Or.inl rfl | exact Or.inr rfl) (hf:X.fn x=true\/X.env.scope.names.lookup x=some .local:=by first | exact .inl rfl | exact .inr rfl):PG3 X (.Name x pos) (jJg i):=by
 rintro pins s τ G H v u Q ⟨σ,I,hs,hg⟩ ⟨a,ra,rv⟩ h
 exact wpAny_assign_Name (kJp I hN hi hx rv (fun s' I'=>⟨_,G,H,.refl H,⟨_,I',hs.set i ra,hg⟩,h⟩) hf)
theorem jQw:PGs3 X [] gNil:=by
 rintro pins s τ G H vs us Q I ⟨as,r,rv⟩ ⟨e,h⟩
 subst e
 cases (show as=[] from r)
 cases rv
 exact assignInOrder_nil ⟨τ,G,H,.refl H,I,h⟩
theorem jJw {e:Expr} {es:List Expr} {t:TG3} {u:TGs3} (h1:PG3 X e t) (h2:PGs3 X es u)
  (hs:(assignEach (e::es) X.env).map (·.2)=assign e X.env::(assignEach es X.env).map (·.2):=by rfl):PGs3 X (e::es) (jJ8 t u):=by
 rintro pins s τ G H vs us Q I ⟨as,r,rv⟩ ⟨v,vr,e1,h⟩
 subst e1
 obtain⟨a,ar,rfl,ra,rar⟩:=r
 cases rv with
 | cons q qq=>
  rw[hs]
  refine assignInOrder_cons (thn (h1 pins s τ G H v _ _ I ⟨a,ra,q⟩ h) fun _ s1 ⟨τ1,G1,H1,e1,I1,q1⟩=> ?_)
  exact thn (h2 pins s1 τ1 G1 H1 vr _ Q I1 ⟨ar,Reps.mono e1 _ rar,qq⟩ q1) fun _ s2 ⟨τ2,G2,H2,e2,z⟩=>⟨τ2,G2,H2,e1.trans e2,z⟩
theorem jV3 {es:List Expr} {k:Nat} {t:TGs3} {n:Nat} (hc:X.calm=true) (h:PGs3 X es t)
  (hn:(assignEach es X.env).length=n:=by rfl) (hst:(assignEach es X.env).findIdx? (·.1)=none:=by rfl):PG3 X (.Tuple es k pos) (gTup n t):=by
 rintro pins s τ G H v u Q ⟨σ,I,hs,hg⟩ ⟨a,ra,rv⟩ ⟨xs,ev,hl,hw⟩
 subst ev
 obtain⟨p,vs,e1,h1,r1⟩:=(show ∃p vs,a= .ref p/\H p=some (.tup vs)/\Reps X.K H xs vs from ra)
 subst e1
 cases rv
 obtain⟨its,rv,ht,hz⟩:=I.tuple (.of h1)
 refine assign_Tuple_tuple (I.ok.hd hc) ht (by simp[hn,<-hl,r1.length,rv.length]) hst fun h' hx=> ?_
 have I1:Inv X pins σ H {s with heap:=h'}:=I.kept (t':=s.toks) fun b o e=>hx b o (lJm (lJi e)) e
 exact h pins _ τ G H xs _ Q ⟨σ,I1,hs,hg⟩ ⟨vs,r1,by simpa using rv⟩ hw
theorem kZ8 {o i:Expr} {to ti:TE3} {t:T->T->T->Gp->(Gp->Prop)->Prop} (ho:PE3 X o to) (hi:PE3 X i ti) (hs:Set3 X t)
  (ha:∀v,assign (.Subscript o i pos) X.env v=(do
   let ov <-holding [v] (eval o X.env)
   let iv <-holding [v,ov] (eval i X.env)
   standAt pos
   holding [v,ov,iv] (setItem ov iv v)
   release [v,ov,iv] []):=by intro _;rfl):PG3 X (.Subscript o i pos) (gSub to ti t):=by
 intro pins s τ G H v u Q I r h
 rw[ha]
 refine lJa (lKy (thn (ho pins s τ G H _ I h) fun ov s1 w_=>w_.el fun x G1 H1 e1 I1 r1 q1=> ?_))
 refine lJa (lKy (thn (hi pins s1 τ G1 H1 _ I1 q1) fun iv s2 w_=>w_.el fun y G2 H2 e2 I2 r2 q2=> ?_))
 refine lJa (wpAny_standAt (lJa (lKy (thn (hs pins s2 τ G2 H2 x y v ov iv u _ I2 (r1.mono e2) r2 (r.mono (e1.trans e2)) q2) fun _ s3 ⟨G3,H3,e3,I3,q3⟩=> ?_))))
 exact wpAny_release ⟨τ,G3,H3,(e1.trans e2).trans e3,I3,q3⟩
theorem kQ0 {tg e:Expr} {te:TE3} {g:TG3} (he:PE3 X e te) (hg:PG3 X tg g) (hs:swapsWithSole [tg] e pos.line X.env=pure false:=by rfl) (hw:swappedStores [tg] e X.env=pure none:=by rfl)
  (h1:(assignEach [tg] X.env).map (·.2)=[assign tg X.env]:=by rfl):PS3 X (.Assign [tg] e pos) (tAsg te g):=by
 intro pins s τ G H D I h
 refine wpAny_Assign_stores (thn (he pins s τ G H _ I h) fun v s1 w_=>w_.el fun x G1 H1 e1 I1 r1 q1=> ?_) hs hw
 rw[h1]
 exact thn (hg pins s1 τ G1 H1 x v _ I1 r1 q1) fun _ s2 ⟨τ2,G2,H2,e2,q⟩=>⟨τ2,G2,H2,e1.trans e2,q⟩
theorem jKg {i:Nat} {x:Str} {e:Expr} {te:TE3} {pos':Pos} (hN:X.N.Nodup) (he:PE3 X e te) (hi:X.N[i]? =some x:=by rfl) (hx:Loc X.env.scope x:=by first | exact Or.inl rfl | exact Or.inr rfl)
  (hs:swapsWith e (some (.Name x pos')) pos.line X.env=pure false:=by rfl) (hf:X.fn x=true\/X.env.scope.names.lookup x=some .local:=by first | exact .inl rfl | exact .inr rfl):
  PS3 X (.Assign [.Name x pos'] e pos) (tAsg te (jJg i)):=by
 intro pins s τ G H D I h
 refine wpAny_Assign_Name (thn (he pins s τ G H _ I h) fun v s1 w_=>w_.el fun y G1 H1 e1 i_ r_ q1=>i_.el fun σ I1 hs1 hg1=>r_.el fun a ra rv=> ?_) hs
 exact kJp I1 hN hi hx rv (fun s2 I2=>⟨_,G1,H1,e1,⟨_,I2,hs1.set i ra,hg1⟩,q1⟩) hf
def tPar (i j:Nat) (ta:TA3):TS3:=fun D τ G=>ta τ G fun vs G1=>∃v w,vs=[v,w]/\D.nx ((τ.set i (some v)).set j (some w)) G1
noncomputable def jVr (c:TT3) (tb:TS3):TS3:=fun D τ G=>∃W:Nat->St3->Gp->Prop,(∃m,W m τ G)/\∀m τ G,W m τ G->
 c τ G fun b G1=>if b=true then ∃N:St3->Gp->Prop,(∀ τ' G',N τ' G'->∃m',m'<m/\W m' τ' G')/\tb {D with nx:=N,ct:=N,bk:=D.nx} τ G1 else D.nx τ G1
theorem kQz {c:Expr} {body:List Stmt} {tc:TT3} {tb:TS3} (hp:PassesOwn (model X.prog X.w) X.A X.env X.xe) (hc:PT3 X c tc) (hb:PSs3 X body tb):PS3 X (.While c body [] pos) (jVr tc tb):=by
 intro pins s τ G H D I h
 obtain⟨W,⟨m0,w0⟩,turn⟩:=h
 refine wpAny_While (codeAny_whileLoop (fun n s'=>∃ τ' G' H',Ext H H'/\Inv3 X pins τ' G' H' s'/\W n τ' G') ?_ m0 ⟨τ,G,H,.refl H,I,w0⟩)
 rintro n s1 ⟨τ1,G1,H1,e1,I1,w1⟩
 refine lV8 hp (thn (hc pins s1 τ1 G1 H1 _ I1 (turn n τ1 G1 w1)) fun b s2 w_=>w_.el fun G2 H2 e2 I2 q2=> ?_)
 cases b with
 | true=>
  obtain⟨N,hN,q2⟩:=q2
  rw[lJc rfl]
  refine lV8 hp (thn (hb pins s2 τ1 G2 H2 _ I2 q2) fun f s3 q3=> ?_)
  cases f with
  | next=>
   obtain⟨τ3,G3,H3,e3,I3,n3⟩:=q3
   obtain⟨m',hm,w3⟩:=hN τ3 G3 n3
   exact⟨m',hm,τ3,G3,H3,(e1.trans e2).trans e3,I3,w3⟩
  | cont=>
   obtain⟨τ3,G3,H3,e3,I3,n3⟩:=q3
   obtain⟨m',hm,w3⟩:=hN τ3 G3 n3
   exact⟨m',hm,τ3,G3,H3,(e1.trans e2).trans e3,I3,w3⟩
  | brk=>exact SP3.ext (f:= .next) (e1.trans e2) q3
  | ret v=>exact SP3.ext (f:= .ret v) (e1.trans e2) q3
 | false=>
  rw[lJb lJv]
  exact wpAny_execs_nil ⟨τ1,G2,H2,e1.trans e2,I2,q2⟩
end
def Items (K:PySem.W.Frag) (H0:Hp) (J:It) (xs:List T) (stay:Gp->Prop):Prop:=
 ∀i H G,Ext H0 H->GRel K H G->stay G->(i<xs.length->J.go i H)/\(xs.length<=i->J.stop i H)/\(i<xs.length->∀x H',J.yld i H x H'->Ext H H'/\GRel K H' G/\∃t,xs[i]? =some t/\Rep K H' t x)
abbrev TI3:=St3->Gp->(List T->(Gp->Prop)->Gp->Prop)->Prop
def PIE3 (X:Cx) (pins:List (Addr×Obj)) (τ:St3) (H:Hp) (tg:Expr) (R:List T->(Gp->Prop)->Gp->Prop) (itv:Value) (s2:Shared):Prop:=
 ∃(it:Addr) (fp:List Addr) (tn:Nat->Heap->Prop) (J:It) (xs:List T) (stay:Gp->Prop) (G':Gp) (H':Hp),itv= .ref it/\Ext H H'/\Inv3 X pins τ G' H' s2/\Turn X.prog X.w X.K tg J fp it tn/\tn 0 s2.heap/\(∀b∈fp,FpOk X pins H' b)/\
  Items X.K H' J xs stay/\R xs stay G'
def PI3 (X:Cx) (tg iter:Expr) (wi:TI3):Prop:=
 ∀(pins:List (Addr×Obj)) (s:Shared) (τ:St3) (G:Gp) (H:Hp) (R:List T->(Gp->Prop)->Gp->Prop),Inv3 X pins τ G H s->wi τ G R->
  wpAny (model X.prog X.w) X.A (eval iter X.env) (fun v s1=>wpAny (model X.prog X.w) X.A (pyIter v) (PIE3 X pins τ H tg R) X.xe s1) X.xe s
noncomputable def tFor (wi:TI3) (g:TG3) (tb:TS3):TS3:=fun D τ G=>wi τ G fun xs stay G1=>∃P:Nat->St3->Gp->Prop,P 0 τ G1/\(∀i τ G,i<=xs.length->P i τ G->stay G)/\
 (∀i x τ G,xs[i]? =some x->P i τ G->g x τ G fun τ2 G2=>tb {D with nx:=P (i+1),ct:=P (i+1),bk:=D.nx} τ2 G2)/\∀ τ G,P xs.length τ G->D.nx τ G
section
variable {X:Cx} {tg:Expr} {pos:Pos}
theorem jXe {iter:Expr} {body:List Stmt} {wi:TI3} {g:TG3} {tb:TS3} (hp:PassesOwn (model X.prog X.w) X.A X.env X.xe) (hc:X.calm=true) (hi:PI3 X tg iter wi) (hg:PG3 X tg g) (hb:PSs3 X body tb)
  (hs:∀x,foldedSetIterable iter X.env x=pure x:=by intro _;rfl):PS3 X (.For tg iter body [] pos) (tFor wi g tb):=by
 intro pins s τ G H D I h
 refine wpAny_For (thn (hi pins s τ G H _ I h) fun v s1 h1=>thn h1 fun itv s2 h2=> ?_) hs
 obtain⟨it,fp,tn,J,xs,stay,G2,H2,e,eH,I2,T0,st2,f2,IT,P,p0,hstay,turn,fin⟩:=h2
 subst e
 have stat:∀ {H':Hp},(∀b∈fp,H' b=none)->∀b∈fp,FpOk X pins H' b:=fun hn b hb=>⟨hn b hb,(f2 b hb).2⟩
 refine codeAny_forLoop_any (fun n s'=>∃i τ' G' H',n=xs.length-i/\i<=xs.length/\Ext H2 H'/\Inv3 X pins τ' G' H' s'/\tn i s'.heap/\(∀b∈fp,H' b=none)/\P i τ' G') ?_ xs.length ⟨0,τ,G2,H2,rfl,lJ6 _,.refl _,I2,st2,fun b hb=>(f2 b hb).1,p0⟩
 rintro n s3 ⟨i,τ3,G3,H3,en,hi3,e3,⟨σ3,I3,hs3,hg3⟩,st3,fr3,p3⟩
 obtain⟨go,stop,yl⟩:=IT i H3 G3 e3 hg3 (hstay i τ3 G3 hi3 p3)
 by_cases hlt:i<xs.length
 ·refine lV8 hp (thn (T0.item X rfl rfl rfl hc i pins s3 σ3 H3 X.xe I3 (stat fr3) st3 (go hlt)) fun r s4 ⟨u,hr,h4⟩=> ?_)
  subst hr
  refine lV8 hp (thn h4 fun _ s5 ⟨x,H5,I5,r5,y5,st5,fr5⟩=> ?_)
  obtain⟨e5,g5,t,ht,rt⟩:=yl hlt x H5 y5
  have I5':=I5.pinned (stat fr5) (T0.obj _ _ st5)
  refine lV8 hp (thn (hg _ s5 τ3 G3 H5 t u _ ⟨σ3,I5',hs3.mono e5,g5⟩ ⟨x,rt,r5⟩ (turn i t τ3 G3 ht p3)) fun _ s6 ⟨τ6,G6,H6,e6,I6,q6⟩=> ?_)
  refine lV8 hp (thn (hb _ s6 τ6 G6 H6 _ I6 q6) fun f s7 q7=> ?_)
  have e36:Ext H2 H6:=(e3.trans e5).trans e6
  have again:∀ {τ7:St3} {G7:Gp} {H7:Hp},Ext H6 H7->Inv3 X (pins++jQp fp s5.heap) τ7 G7 H7 s7->P (i+1) τ7 G7->
    ∃m,m<n/\∃i τ' G' H',m=xs.length-i/\i<=xs.length/\Ext H2 H'/\Inv3 X pins τ' G' H' s7/\tn i s7.heap/\(∀b∈fp,H' b=none)/\P i τ' G':=fun {τ7 G7 H7} e7 ⟨σ7,I7,hs7,hg7⟩ p7=>by
   refine⟨xs.length-(i+1),by omega,i+1,τ7,G7,H7,rfl,hlt,e36.trans e7,⟨σ7,I7.unpinned,hs7,hg7⟩,T0.keep _ _ _ st5 fun b hb o e=>(I7.pin (b,o) (lJy _ (lJy _ (jQf hb e)))).1,fun b hb=> ?_,p7⟩
   obtain⟨o,e,d⟩:=T0.obj _ _ st5 b hb
   exact (I7.pin (b,o) (lJy _ (lJy _ (jQf hb e)))).2.1
  have un:∀ {τ7:St3} {G7:Gp} {H7:Hp},Inv3 X (pins++jQp fp s5.heap) τ7 G7 H7 s7->Inv3 X pins τ7 G7 H7 s7:=fun ⟨σ7,I7,a,b⟩=>⟨σ7,I7.unpinned,a,b⟩
  cases f with
  | next=>obtain⟨τ7,G7,H7,e7,I7,n7⟩:=q7;exact again e7 I7 n7
  | cont=>obtain⟨τ7,G7,H7,e7,I7,n7⟩:=q7;exact again e7 I7 n7
  | brk=>obtain⟨τ7,G7,H7,e7,I7,q7⟩:=q7;exact⟨τ7,G7,H7,(eH.trans e36).trans e7,un I7,q7⟩
  | ret v=>obtain⟨x7,τ7,G7,H7,e7,I7,r7,q7⟩:=q7;exact⟨x7,τ7,G7,H7,(eH.trans e36).trans e7,un I7,r7,q7⟩
 ·have ei:i=xs.length:=by omega
  refine lV8 hp (thn (T0.done X rfl rfl rfl hc i pins s3 σ3 H3 X.xe I3 (stat fr3) st3 (stop (by omega))) fun r s4 ⟨hr,I4⟩=> ?_)
  subst hr;subst ei
  exact wpAny_execs_nil ⟨τ3,G3,H3,eH.trans e3,⟨σ3,I4,hs3,hg3⟩,fin τ3 G3 p3⟩
def iSeq (tl:TE3):TI3:=fun τ G R=>tl τ G fun x G1=>∃xs,seqT G1 x=some xs/\R xs (fun G'=>seqT G' x=some xs) G1
theorem jQ5 {l:Expr} {tl:TE3} (hl:PE3 X l tl):PI3 X tg l (iSeq tl):=by
 intro pins s τ G H R I h
 refine thn (hl pins s τ G H _ I h) fun v s1 w_=>w_.el fun x G1 H1 e1 i_ r_ ⟨xs,hx,q⟩=>i_.el fun σ I1 hs1 hg1=>r_.el fun a ra rv=> ?_
 obtain⟨p,vs,e,hq,r⟩:=jQ3 hg1 ra hx
 subst e
 cases rv
 have fpk:∀b∈[s1.heap.objs.size],FpOk X pins H1 b:=fun b hb=>by
  have e:b=s1.heap.objs.size:=by simpa using hb
  subst e
  exact I1.fpOk (lJg _) (I1.hok.fresh (lJg _))
 rcases hq with hq | hq
 ·obtain⟨its,rv,pl,hz⟩:=I1.list hq
  refine lXy pl.isList ?_
  refine⟨s1.heap.objs.size,[s1.heap.objs.size],_,_,xs,fun G'=>seqT G' x=some xs,G1,H1,rfl,e1,⟨σ,I1.kept (t':=s1.toks) fun b o e=>lJl _ e,hs1,hg1⟩,kX8 p _,⟨_,lJ8 _ rfl,rfl,rfl⟩,fpk,?_,q⟩
  intro i H2 G2 e2 g2 st
  have ra2:=Rep.mono e2 _ ra
  have now:∃ws,SqL X.K H2 p ws/\Reps X.K H2 xs ws:=by
   cases x with
   | scr ys=>cases hx;obtain⟨p',ws,ep,h1,h2⟩:=(show ∃p' ws,V.ref p= .ref p'/\FrL X.K H2 p' ws/\Reps X.K H2 xs ws from ra2);cases ep;exact⟨ws,h1.sq,h2⟩
   | ref p'=>cases (show V.ref p= .ref p' from ra);obtain⟨ws,h1,h2⟩:=g2.lst (jV6 st);exact⟨ws,.of h1,h2⟩
   | tup ys=>
    obtain⟨p',ws,ep,h1,h2⟩:=(show ∃p' ws,V.ref p= .ref p'/\H1 p'=some (.tup ws)/\Reps X.K H1 ys ws from ra)
    cases ep
    exfalso
    obtain⟨its',_,pl',_⟩:=I1.tuple (.of h1)
    obtain⟨o,n,ho,hc,_⟩:=pl
    obtain⟨o',ho',hc',_⟩:=pl'
    rw[ho] at ho';cases ho'
    rw[hc] at hc';exact absurd hc' (by decide)
   | non=>cases hx
   | bl _=>cases hx
   | int _=>cases hx
   | str _=>cases hx
   | ty _=>cases hx
  obtain⟨ws,h1,h2⟩:=now
  have hlen:=h2.length
  refine⟨fun hi=> ?_,fun hi=>⟨ws,h1,by omega⟩,fun _ y H' ⟨eH,hy⟩=> ?_⟩
  ·exact⟨ws,ws[i]'(by omega),h1,by simp[hlen▸hi]⟩
  ·subst eH
   obtain⟨t,ht,rt⟩:=h2.get' (hy ws h1)
   exact⟨.refl _,g2,t,ht,rt⟩
 ·obtain⟨its,rv,pl,hz⟩:=I1.tuple hq
  refine wpAny_pyIter_tuple (show s1.heap.IsTuple p its.toArray from pl) ?_
  refine⟨s1.heap.objs.size,[s1.heap.objs.size],_,_,xs,fun G'=>seqT G' x=some xs,G1,H1,rfl,e1,⟨σ,I1.kept (t':=s1.toks) fun b o e=>lJl _ e,hs1,hg1⟩,kV8 p _,⟨_,lJ8 _ rfl,rfl,rfl⟩,fpk,?_,q⟩
  intro i H2 G2 e2 g2 st
  have ra2:=Rep.mono e2 _ ra
  have now:∃ws,H2 p=some (.tup ws)/\Reps X.K H2 xs ws:=by
   cases x with
   | tup ys=>cases hx;obtain⟨p',ws,ep,h1,h2⟩:=(show ∃p' ws,V.ref p= .ref p'/\H2 p'=some (.tup ws)/\Reps X.K H2 xs ws from ra2);cases ep;exact⟨ws,h1,h2⟩
   | scr ys=>
    obtain⟨p',ws,ep,h1,h2⟩:=(show ∃p' ws,V.ref p= .ref p'/\FrL X.K H1 p' ws/\Reps X.K H1 ys ws from ra)
    cases ep
    exfalso
    obtain⟨its',_,pl',_⟩:=I1.list h1.sq
    obtain⟨o,n,ho,hc,_⟩:=pl'
    obtain⟨o',ho',hc',_⟩:=pl
    rw[ho] at ho';cases ho'
    rw[hc] at hc';exact absurd hc' (by decide)
   | ref p'=>
    cases (show V.ref p= .ref p' from ra)
    obtain⟨ws,h1,h2⟩:=hg1.lst (jV6 hx)
    exfalso
    obtain⟨its',_,pl',_⟩:=I1.list (.of h1)
    obtain⟨o,n,ho,hc,_⟩:=pl'
    obtain⟨o',ho',hc',_⟩:=pl
    rw[ho] at ho';cases ho'
    rw[hc] at hc';exact absurd hc' (by decide)
   | non=>cases hx
   | bl _=>cases hx
   | int _=>cases hx
   | str _=>cases hx
   | ty _=>cases hx
  obtain⟨ws,h1,h2⟩:=now
  have hlen:=h2.length
  refine⟨fun hi=> ?_,fun hi=>⟨ws,.of h1,by omega⟩,fun _ y H' ⟨eH,hy⟩=> ?_⟩
  ·exact⟨ws,ws[i]'(by omega),.of h1,by simp[hlen▸hi]⟩
  ·subst eH
   obtain⟨t,ht,rt⟩:=h2.get' (hy ws (.of h1))
   exact⟨.refl _,g2,t,ht,rt⟩
def rngT (lo:Int) (n:Nat):List T:=(List.range n).map fun (k:Nat)=>T.int (lo+k)
def jUf (ta:TA3):TI3:=fun τ G R=>ta τ G fun vs G1=>∃j:Int,vs=[.int j]/\ -(2^62)<=j/\j<2^62/\R (rngT 0 j.toNat) (fun _=>True) G1
def kZ3 (ta:TA3):TI3:=fun τ G R=>ta τ G fun vs G1=>∃i j:Int,vs=[.int i,.int j]/\(-(2^62)<=i/\i<2^62/\ -(2^62)<=j/\j<2^62)/\R (rngT i (j-i).toNat) (fun _=>True) G1
theorem kK6 {K:PySem.W.Frag} {H:Hp} (lo:Int) (n:Nat):Items K H (Itr lo n) (rngT lo n) fun _=>True:=by
 intro i H' G e g _
 have hl:(rngT lo n).length=n:=by simp[rngT]
 refine⟨fun h=>by rw[hl] at h;exact h,fun h=>by rw[hl] at h;exact h,fun hi x H2 ⟨eH,ex⟩=> ?_⟩
 rw[hl] at hi
 subst eH;subst ex
 exact⟨.refl _,g,.int (lo+i),by simp[rngT,hi],rfl⟩
theorem jQa {a:Expr} {ta:TA3} {p:Pos} (hg:Gl X "range") (hm:X.mg "range"=none) (ha:PA3 X [a] ta) (hs:starEach [a] X.env=[(false,eval a X.env)]:=by rfl):PI3 X tg (.Call (.Name "range" p) [a] [] pos) (jUf ta):=by
 intro pins s τ G H R I h
 obtain⟨σ,I0,hs0,hg0⟩:=id I
 refine Call_ (jUv I0 hg hm boot_range (lVg (thn (ha pos pins s τ G H _ I h) fun us s1 w_=>w_.el fun xs G1 H1 e1 i_ r_ q1=>i_.el fun σ I1 hs1 hg1=>r_.el fun as ras rvs=> ?_) hs rfl))
 obtain⟨j,e,q1,q2,q⟩:=q1
 subst e
 obtain⟨v,rfl,rv⟩:=jUs ras
 cases (show v= .int j from rv)
 obtain⟨u,rfl,ru⟩:=rvs.one
 obtain⟨t,rfl⟩:=ru
 refine call_range_1 (thn (kU6 (tg:=tg) (R:=fun J H'=>J=Itr 0 j.toNat/\H'=H1) I1 (by omega) (by omega) q1 q2 ⟨by simp,rfl⟩) fun itv s2 z=> ?_)
 obtain⟨it,fp,tn,J,H',ei,I2,T0,st,fk,eJ,eH⟩:=z
 subst eJ;subst eH
 exact⟨it,fp,tn,_,rngT 0 j.toNat,fun _=>True,G1,H',ei,e1,⟨σ,I2,hs1,hg1⟩,T0,st,fk,kK6 0 j.toNat,q⟩
theorem kVp {a b:Expr} {ta:TA3} {p:Pos} (hg:Gl X "range") (hm:X.mg "range"=none) (ha:PA3 X [a,b] ta) (hs:starEach [a,b] X.env=[(false,eval a X.env),(false,eval b X.env)]:=by rfl) (hs2:starEach [b] X.env=[(false,eval b X.env)]:=by rfl):
  PI3 X tg (.Call (.Name "range" p) [a,b] [] pos) (kZ3 ta):=by
 intro pins s τ G H R I h
 obtain⟨σ,I0,hs0,hg0⟩:=id I
 refine Call_ (jUv I0 hg hm boot_range (lVg (thn (ha pos pins s τ G H _ I h) fun us s1 w_=>w_.el fun xs G1 H1 e1 i_ r_ q1=>i_.el fun σ I1 hs1 hg1=>r_.el fun as ras rvs=> ?_) (by rw[hs,hs2]) (by rw[hs2];rfl)))
 obtain⟨i,j,e,⟨q1,q2,q3,q4⟩,q⟩:=q1
 subst e
 obtain⟨v,w,rfl,rv,rw'⟩:=kXf ras
 cases (show v= .int i from rv);cases (show w= .int j from rw')
 obtain⟨u,u',rfl,ru,ru'⟩:=rvs.two
 obtain⟨t,rfl⟩:=ru
 obtain⟨t',rfl⟩:=ru'
 refine call_range_2 (thn (kU6 (tg:=tg) (R:=fun J H'=>J=Itr i (j-i).toNat/\H'=H1) I1 q1 q2 q3 q4 ⟨rfl,rfl⟩) fun itv s2 z=> ?_)
 obtain⟨it,fp,tn,J,H',ei,I2,T0,st,fk,eJ,eH⟩:=z
 subst eJ;subst eH
 exact⟨it,fp,tn,_,rngT i (j-i).toNat,fun _=>True,G1,H',ei,e1,⟨σ,I2,hs1,hg1⟩,T0,st,fk,kK6 i (j-i).toNat,q⟩
end
abbrev Sp3:=List T->Gp->VK3->Prop
def dn (K:PySem.W.Frag) (n:Nat) (sp:Sp3):Sp:=fun vs H Q _=>vs.length=n/\∃xs G,Reps K H xs vs/\GRel K H G/\sp xs G fun t G'=>∀v H',Ext H H'->GRel K H' G'->Rep K H' t v->Q v H'
def Fn3 (P:Program) (w:World) (K:PySem.W.Frag) (mg:Str->Option Value) (base:Heap) (k:Nat) (f:Addr) (fd:FuncData) (ps:List Str) (sp:Sp3):Prop:=FnOk P w K mg base CX0 k f fd ps (dn K ps.length sp)
def jK0 (sp:Sp3) (t:TA3):TE3:=fun τ G Q=>t τ G fun xs G1=>sp xs G1 Q
def Mono (sp:Sp3):Prop:=∀xs G Q Q',(∀t G',Q t G'->Q' t G')->sp xs G Q->sp xs G Q'
def jKc (N:List Str) (xs:List T):St3:=xs.map some++List.replicate (N.length-xs.length) none
theorem jVs {K:PySem.W.Frag} {H:Hp} {N:List Str} {xs:List T} {vs:List V} (r:Reps K H xs vs):SRel K H (start N vs) (jKc N xs):=by
 have hl:=r.length
 refine⟨by simp[L2.start,jKc,hl],fun i t h=> ?_⟩
 unfold jKc at h
 unfold L2.start
 by_cases hi:i<xs.length
 ·rw[lK9 (by simpa using hi),lJz] at h
  cases e:xs[i]? with
  | none=>rw[e] at h;cases h
  | some x=>
   rw[e] at h;cases h
   obtain⟨v,hv,rv⟩:=r.get e
   exact⟨v,by rw[lK9 (by simp;omega),lJz,hv];rfl,rv⟩
 ·rw[lK8 (by simpa using hi),List.getElem?_replicate] at h
  split at h<;>cases h
theorem fn3 {P:Program} {w:World} {K:PySem.W.Frag} {mg:Str->Option Value} {base:Heap} {x qual:Str} {st:Stmt} {f:Addr} {fd:FuncData} {N ps:List Str} {k:Nat} {sp:Sp3} (F:Fun K x qual st f fd) (S:FnScope N ps (jJk st))
  (hbody:∀(cdv:Value) (A:Around) (outer:List Env) (s:Shared) (H:Hp) (E:XK),Room k (A.deeper (envOfC qual (jJk st) s.heap.objs.size f cdv))->
   ∃t,PSs3 (cxOf CX0 P w K mg base N qual (jJk st) f cdv A outer s H E).nox (defBody st) t/\∀xs G Q,sp xs G Q->t {nx:=fun _ G'=>Q .non G',rt:=Q} (jKc N xs) G):Fn3 P w K mg base (k+1) f fd ps sp:=by
 refine Fun.ok (sp:=dn K ps.length sp) F S (fun vs H Q E h=>h.1) fun cdv A outer s H vs Q E hr hsp=> ?_
 obtain⟨t,ht,hq⟩:=hbody cdv A outer s H E hr
 obtain⟨hl,xs,G,rs,hg,hsp⟩:=hsp
 refine⟨fun D σ H1=>D.nx=(fun _ H'=>Q .non H')/\D.rt=Q/\σ=L2.start N vs/\H1=H,?_,rfl,rfl,rfl,rfl⟩
 rintro pins s1 σ1 H1 D I ⟨e1,e2,e3,e4⟩
 subst e3;subst e4
 have I3:Inv3 (cxOf CX0 P w K mg base N qual (jJk st) f cdv A outer s H1 E).nox pins (jKc N xs) G H1 s1:=⟨_,I,jVs rs,hg⟩
 refine thn (ht pins s1 _ G H1 _ I3 (hq xs G _ hsp)) fun fl s2 z=> ?_
 cases fl with
 | next=>obtain⟨τ',G',H',e',⟨σ',I',a,b⟩,q⟩:=z;exact⟨σ',H',I',by rw[e1];exact q .non H' e' b rfl⟩
 | brk=>obtain⟨τ',G',H',e',_,q⟩:=z;exact q.elim
 | cont=>obtain⟨τ',G',H',e',_,q⟩:=z;exact q.elim
 | ret u=>obtain⟨x',τ',G',H',e',⟨σ',I',a,b⟩,⟨v,rv,ru⟩,q⟩:=z;exact⟨v,σ',H',I',ru,by rw[e2];exact q v H' e' b rv⟩
mutual
noncomputable def dep:T->Nat
 | .tup xs=>deps xs+1
 | _=>0
noncomputable def deps:List T->Nat
 | []=>0
 | x::xs=>max (dep x) (deps xs)
end
mutual
noncomputable def tree:T->Bool
 | .tup xs=>jK3 xs
 | .ref _=>false
 | .scr _=>false
 | .ty _=>false
 | .non=>true
 | .bl _=>true
 | .int _=>true
 | .str _=>true
noncomputable def jK3:List T->Bool
 | []=>true
 | x::xs=>tree x&&jK3 xs
end
mutual
noncomputable def eqT:T->T->Bool
 | .non,.non=>true
 | .bl a,.bl b=>a == b
 | .bl a,.int b=>(if a then 1 else 0) == b
 | .int a,.bl b=>a == (if b then 1 else 0)
 | .int a,.int b=>a == b
 | .str a,.str b=>a == b
 | .tup xs,.tup ys=>eqTs xs ys
 | _,_=>false
noncomputable def eqTs:List T->List T->Bool
 | [],[]=>true
 | x::xs,y::ys=>eqT x y&&eqTs xs ys
 | [],_::_=>false
 | _::_,[]=>false
end
mutual
theorem qQ2 {K:PySem.W.Frag} {H:Hp}:∀(x y:T) {a:V},tree x=true->tree y=true->Rep K H x a->Rep K H y a->eqT x y=true
 | .non,y,a,hx,hy,r,q=>by
  cases (show a= .non from r)
  cases y<;>first | rfl | (exact absurd (show false=true from hy) lJv) | (cases (show V.non=_ from q)) | (obtain⟨_,_,e,_⟩:=(show ∃c vs,V.non= .ref c/\_ from q);cases e)
 | .bl b,y,a,hx,hy,r,q=>by
  cases (show a= .bl b from r)
  cases y with
  | bl c=>cases (show V.bl b=V.bl c from q);simp[eqT]
  | tup ys=>obtain⟨_,_,e,_⟩:=(show ∃c vs,V.bl b= .ref c/\_ from q);cases e
  | non=>cases (show V.bl b= .non from q)
  | int c=>cases (show V.bl b= .int c from q)
  | str c=>cases (show V.bl b= .str c from q)
  | _=>exact absurd (show false=true from hy) lJv
 | .int b,y,a,hx,hy,r,q=>by
  cases (show a= .int b from r)
  cases y with
  | int c=>cases (show V.int b=V.int c from q);simp[eqT]
  | tup ys=>obtain⟨_,_,e,_⟩:=(show ∃c vs,V.int b= .ref c/\_ from q);cases e
  | non=>cases (show V.int b= .non from q)
  | bl c=>cases (show V.int b= .bl c from q)
  | str c=>cases (show V.int b= .str c from q)
  | _=>exact absurd (show false=true from hy) lJv
 | .str b,y,a,hx,hy,r,q=>by
  cases (show a= .str b from r)
  cases y with
  | str c=>cases (show V.str b=V.str c from q);simp[eqT]
  | tup ys=>obtain⟨_,_,e,_⟩:=(show ∃c vs,V.str b= .ref c/\_ from q);cases e
  | non=>cases (show V.str b= .non from q)
  | bl c=>cases (show V.str b= .bl c from q)
  | int c=>cases (show V.str b= .int c from q)
  | _=>exact absurd (show false=true from hy) lJv
 | .tup xs,y,a,hx,hy,r,q=>by
  obtain⟨p,vs,e,h1,h2⟩:=(show ∃p vs,a= .ref p/\H p=some (.tup vs)/\Reps K H xs vs from r)
  subst e
  cases y with
  | tup ys=>
   obtain⟨p',vs',e',h1',h2'⟩:=(show ∃p' vs',V.ref p= .ref p'/\H p'=some (.tup vs')/\Reps K H ys vs' from q)
   cases e'
   rw[h1] at h1';cases h1'
   exact kQa xs ys (show jK3 xs=true from hx) (show jK3 ys=true from hy) h2 h2'
  | non=>cases (show V.ref p= .non from q)
  | bl c=>cases (show V.ref p= .bl c from q)
  | int c=>cases (show V.ref p= .int c from q)
  | str c=>cases (show V.ref p= .str c from q)
  | _=>exact absurd (show false=true from hy) lJv
 | .ref _,_,_,hx,_,_,_=>absurd (show false=true from hx) lJv
 | .scr _,_,_,hx,_,_,_=>absurd (show false=true from hx) lJv
 | .ty _,_,_,hx,_,_,_=>absurd (show false=true from hx) lJv
theorem kQa {K:PySem.W.Frag} {H:Hp}:∀(xs ys:List T) {vs:List V},jK3 xs=true->jK3 ys=true->Reps K H xs vs->Reps K H ys vs->eqTs xs ys=true
 | [],ys,_,_,_,r,q=>by
  cases r
  cases ys with
  | nil=>rfl
  | cons y ys=>obtain⟨_,_,e,_⟩:=q;cases e
 | x::xs,ys,_,hx,hy,⟨v,ws,e,r1,r2⟩,q=>by
  subst e
  cases ys with
  | nil=>cases q
  | cons y ys=>
   obtain⟨v',ws',e',q1,q2⟩:=q
   cases e'
   have hx':tree x=true/\jK3 xs=true:=by simpa[jK3] using hx
   have hy':tree y=true/\jK3 ys=true:=by simpa[jK3] using hy
   show (eqT x y&&eqTs xs ys)=true
   rw[qQ2 x y hx'.1 hy'.1 r1 q1,kQa xs ys hx'.2 hy'.2 r2 q2]
   rfl
end
section
variable {X:Cx}
def rSub:R3:=rI0 fun i j=> .int (i-j)
def rMod:R3:=rI (fun _ j=>0<j) fun i j=> .int (i%j)
def qVu:R3:=rI CDiv fun i j=> .int (i / j)
def rPow:R3:=rI CPow fun i j=> .int (i^j.toNat)
def rLt:R3:=rI0 fun i j=> .bl (decide (i<j))
def rGt:R3:=rI0 fun i j=> .bl (decide (j<i))
def rGe:R3:=rI0 fun i j=> .bl (decide (j<=i))
def rIsN:R3:=fun x y G Q=>y= .non/\Q (.bl (kXs x)) G
def rNotN:R3:=fun x y G Q=>y= .non/\Q (.bl (!kXs x)) G
def qK8:R3:=fun x y G Q=>∃xs ys,x= .tup xs/\y= .tup ys/\xs≠[]/\xs.length+ys.length<=sizeLine/\Q (.tup (xs++ys)) G
theorem o_catT:Op3 X (binaryOp .Add) qK8:=
 Op3.of qV1 fun H G x y a b Q hg ra rb ⟨xs,ys,ex,ey,hx,hz,q⟩=>by
  subst ex;subst ey
  obtain⟨p,vs,e1,h1,h2⟩:=(show ∃p vs,a= .ref p/\H p=some (.tup vs)/\Reps X.K H xs vs from ra)
  obtain⟨p',ws,e2,h3,h4⟩:=(show ∃p vs,b= .ref p/\H p=some (.tup vs)/\Reps X.K H ys vs from rb)
  subst e1;subst e2
  have l1:=h2.length
  have l2:=h4.length
  refine⟨p,p',vs,ws,rfl,rfl,.of h1,.of h3,fun z=>hx ?_,by omega,fun z=> ?_,fun z l hl=> ?_⟩
  ·rw[z] at l1;exact lQx.mp l1
  ·rw[z] at l2
   have:ys=[]:=lQx.mp l2
   subst this
   exact⟨.tup (xs++[]),G,.refl H,hg,by rw[lKz];exact ra,q⟩
  ·exact⟨.tup (xs++ys),G,.upd (.none hl),hg.tupNew hl,Rep.tupNew (h2.append h4) hl,q⟩
def rAddI:R3:=rI0 fun i j=> .int (i+j)
def rAddA:R3:=fun x y G Q=>rAddI x y G Q\/rCat x y G Q\/qK8 x y G Q
theorem o_addA:Op3 X (binaryOp .Add) rAddA:=o_add.or (o_cat.or o_catT)
def rMulI:R3:=rI CMul fun i j=> .int (i*j)
def rMulA:R3:=fun x y G Q=>rMulI x y G Q\/rRep x y G Q
theorem o_mulA:Op3 X (binaryOp .Mult) rMulA:=o_mul.or o_rep
def rNeg:T->Gp->VK3->Prop:=fun x G Q=>∃i,x= .int i/\Q (.int (-i)) G
theorem jJ6 (b:Expr) {op:CmpOp} (h:behindInMarks op b=false:=by first | exact nomark _ | with_unfolding_all rfl):behindInMarks op b=false:=h
variable {a b c:Expr} {ta tb tc:TE3} {pos:Pos}
mutual
noncomputable def td:T->PyData
 | .tup xs=> .tuple (tds xs)
 | .int i=> .int i
 | .bl b=> .bool b
 | .str x=> .str x
 | .non=> .none
 | .ref _=> .none
 | .scr _=> .none
 | .ty _=> .none
noncomputable def tds:List T->List PyData
 | []=>[]
 | x::xs=>td x::tds xs
end
def eqOk (x:T):Bool:=tree x&&(td x).canLay0&&decide ((td x).depth<=50)
def kKb (xs:List T):Bool:=jK3 xs&&PyData.canLayAll0 (tds xs)&&decide ((PyData.list (tds xs)).depth<=50)
noncomputable def eqG (G:Gp) (x y:T):Option Bool:=match x,y with
 | .ref p,.ref q=>match G p,G q with
  | some (.lst xs),some (.lst ys)=>if kKb xs=true/\kKb ys=true then some (eqTs xs ys) else none
  | _,_=>none
 | _,_=>if eqOk x=true/\eqOk y=true then some (eqT x y) else none
def rEqA:R3:=fun x y G Q=>∃b,eqG G x y=some b/\Q (.bl b) G
def rNeA:R3:=fun x y G Q=>∃b,eqG G x y=some b/\Q (.bl (!b)) G
noncomputable def truT (G:Gp):T->Option Bool
 | .non=>some false
 | .bl b=>some b
 | .int i=>some (i != 0)
 | .tup xs=>some (!xs.isEmpty)
 | .ref p=>match G p with
  | some (.lst xs)=>some (!xs.isEmpty)
  | some (.dck kvs)=>some (!kvs.isEmpty)
  | _=>none
 | _=>none
def rTru:T->Gp->(Bool->Gp->Prop)->Prop:=fun x G Q=>∃b,truT G x=some b/\Q b G
theorem jUw {K:PySem.W.Frag} {H:Hp} {xs:List T} {vs:List V} (r:Reps K H xs vs):xs.isEmpty=vs.isEmpty:=by
 have:=r.length
 cases xs<;>cases vs<;>simp_all
theorem qVl:Tru3 X rTru:=
 Tru3.of tru_ok fun H G x a Q hg ra ⟨b,hb,q⟩=>by
  refine⟨b,?_,rfl,q⟩
  cases x with
  | non=>cases (show a= .non from ra);cases hb;rfl
  | bl k=>cases (show a= .bl k from ra);cases hb;rfl
  | int k=>cases (show a= .int k from ra);cases hb;rfl
  | tup xs=>
   obtain⟨p,vs,e1,h1,h2⟩:=(show ∃p vs,a= .ref p/\H p=some (.tup vs)/\Reps X.K H xs vs from ra)
   subst e1;cases hb
   exact .inr (.inl ⟨vs,.of h1,by rw[jUw h2]⟩)
  | ref p=>
   cases (show a= .ref p from ra)
   cases hG:G p with
   | none=>simp only[truT,hG] at hb;cases hb
   | some o=>
    simp only[truT,hG] at hb
    cases o with
    | lst xs=>cases hb;obtain⟨vs,h1,h2⟩:=hg.lst hG;exact .inl ⟨vs,.of h1,by rw[jUw h2]⟩
    | dct _=>cases hb
    | fdc _=>cases hb
    | ins _ _=>cases hb
    | exc _=>cases hb
    | tbs _=>cases hb
    | fn _ _=>cases hb
    | cel _=>cases hb
    | dck kvs=>
     cases hb
     obtain⟨ws,h1,h2⟩:=hg p _ hG
     refine .inr (.inr ⟨ws,h1,?_⟩)
     cases h2<;>rfl
  | str _=>cases hb
  | scr _=>cases hb
  | ty _=>cases hb
end
section
variable {X:Cx} {pins:List (Addr×Obj)} {σ:L2.St} {H:Hp} {s:Shared} {h':Heap}
theorem kQt {t':Nat} {fp:List Addr} (I:Inv X pins σ H s) (k:∀b o,b∉fp->s.heap.get? b=some o->h'.get? b=some o) (hf:∀b∈fp,FpOk X pins H b):Inv X pins σ H {s with heap:=h',toks:=t'}:=by
 have nit:∀b u,H b=some u->b∉fp:=fun b u e z=>by rw[(hf b z).1] at e;cases e
 refine I.step (g':=s.gens) (d':=s.drawn) (ch:=fp) (fun b hb=>⟨(hf b hb).2.2.2.1,(hf b hb).2.1,(hf b hb).2.2.2.2.1,(hf b hb).2.2.2.2.2⟩) (fun b o _ _ hc e _=>k b o hc e) (fun b o _ _ hc e _=>⟨o.slots,k b o hc e⟩) (fun _ _ _ _ n=>n)
  (fun b o hc e=>⟨o,k b o hc e⟩) (fun _ _ e=>e) (fun _ _ _ e=>e) (fun b ps e=>⟨#[],by rw[e];simp⟩) (fun m hm=> ?_) (fun b u e=> ?_) I.bare
 ·obtain⟨o,es,ep,ho,r⟩:=hm
  exact⟨o,es,ep,k _ o (fun z=>(hf _ z).2.1 rfl) ho,r⟩
 ·refine (I.hok b u e).stay (fun c v hc q=>k c v ?_ q) (fun _ q=>q) fun _ _ q=>q
  rcases hc with z | z
  ·rw[z];exact nit b u e
  ·exact nit c _ z
theorem jYl {t':Nat} {fp:List Addr} {p:Addr} {vs:List V} {us:List Value} (I:Inv X pins σ H s) (k:∀b o,b∉fp->s.heap.get? b=some o->h'.get? b=some o) (hf:∀b∈fp,FpOk X pins H b)
  (hp:s.heap.objs.size<=p) (ht:TupD h' p us.toArray) (r:Vals vs us) (hz:vs.length<=sizeLine):Inv X pins σ (upd H p (.tup vs)) {s with heap:=h',toks:=t'}:=by
 have hn:H p=none:=I.hok.fresh hp
 have nit:∀b u,H b=some u->b∉fp:=fun b u e z=>by rw[(hf b z).1] at e;cases e
 have old:∀b o,s.heap.get? b=some o->b≠p:=fun b o e=>lJm (lJ7 (lJi e) hp)
 have tr:∀b u,H b=some u->b≠p:=fun b u e z=>by rw[z,hn] at e;cases e
 refine I.step (g':=s.gens) (d':=s.drawn) (ch:=fp) (fun b hb=>⟨(hf b hb).2.2.2.1,(hf b hb).2.1,(hf b hb).2.2.2.2.1,(hf b hb).2.2.2.2.2⟩) (fun b o _ _ hc e _=>k b o hc e) (fun b o _ _ hc e _=>⟨o.slots,k b o hc e⟩) (fun b o _ e n=>by rw[jJr (old b o e)];exact n)
  (fun b o hc e=>⟨o,k b o hc e⟩) (fun b _ e=>by rw[jJr (tr b _ e)];exact e) (fun b _ _ e=>by rw[jJr (tr b _ e)];exact e) (fun b ps e=>⟨#[],by rw[jJr (tr b _ e),e];simp⟩) (fun m hm=> ?_) (fun b u e=> ?_) I.bare
 ·obtain⟨o,es,ep,ho,r⟩:=hm
  exact⟨o,es,ep,k _ o (fun z=>(hf _ z).2.1 rfl) ho,r⟩
 ·by_cases hb:b=p
  ·subst hb
   rw[jJ3] at e
   cases e
   exact⟨hz,us,r,ht⟩
  ·rw[jJr hb] at e
   refine (I.hok b u e).stay (fun c v hc q=>k c v ?_ q) (fun c q=>by rw[jJr (tr c _ q)];exact q) fun c _ q=>by rw[jJr (tr c _ q)];exact q
   rcases hc with z | z
   ·rw[z];exact nit b u e
   ·exact nit c _ z
end
noncomputable def Ite (K:PySem.W.Frag) (a:Addr):It:=
 ⟨fun i H=>∃xs x,SqL K H a xs/\xs[i]? =some x,fun i H x H'=>∃p y,H p=none/\x= .ref p/\(∀xs,SqL K H a xs->xs[i]? =some y)/\H'=upd H p (.tup [.int i,y]),fun i H=>∃xs,SqL K H a xs/\xs.length<=i⟩
theorem kX9 {P:Program} {w:World} {K:PySem.W.Frag} {elts:List Expr} {k:Nat} {pos:Pos} (a e it:Addr) (hei:e≠it):
  Turn P w K (.Tuple elts k pos) (Ite K a) [e,it] e (fun i h=>(∃old,IsEnum h e it i old)/\h.IsListIter it a i) where
 mem:=by simp
 obj:=fun i h ⟨⟨old,h1⟩,h2⟩ b hb=>by
  have hb':b=e\/b=it:=by simpa using hb
  rcases hb' with z | z
  ·subst z;exact⟨_,h1,fun v z=>nomatch (show Data.fields _=Data.cell v from z)⟩
  ·subst z
   obtain⟨o,e2,c,d⟩:=h2
   exact⟨o,e2,fun v z=>by rw[d] at z;cases z⟩
 keep:=fun i h h' ⟨⟨old,h1⟩,h2⟩ kp=>⟨⟨old,kp e (by simp) _ h1⟩,h2.at fun o q=>kp it (by simp) o q⟩
 item:=by
  rintro X hP hw hK hc i pins s σ H E I hf ⟨⟨old,he⟩,hit⟩ hg
  subst hP hw hK
  obtain⟨xs,x,hq,hx⟩:=hg
  obtain⟨its,rv,p,hz⟩:=I.list hq
  obtain⟨u,hu,ru⟩:=rv.get hx
  refine wpAny_pyNext_enum_item he hit p.isList (x:=u) (by simpa using hu) hei fun h1 ho hit1 hT hsz hk=> ?_
  refine⟨_,rfl,wpAny_letOwnedTupleGo_enum ho fun h2 he2 hs2=> ?_⟩
  have hel:e<s.heap.objs.size:=lJi he
  have hp2:∀b o,b∉[e,it]->s.heap.get? b=some o->h2.get? b=some o:=fun b o hb q=>by
   have hb1:b≠e:=fun z=>hb (by simp[z])
   have hb2:b≠it:=fun z=>hb (by simp[z])
   exact (hs2.2 b hb1).trans (hk b o hb1 hb2 q)
  have hT2:h2.get? s.heap.objs.size=some {cls:= .type "tuple",data:= .seq #[.int i s.toks,u]}:=(hs2.2 _ (lK0 hel)).trans hT
  have I2:=jYl (t':=s.toks+1) (h':=h2) (p:=s.heap.objs.size) (vs:=[.int i,x]) (us:=[.int i s.toks,u]) I hp2 hf (lJg _) ⟨_,hT2,rfl,_,rfl,rfl⟩ (.cons ⟨_,rfl⟩ (.cons ru .nil)) (by show 2<=sizeLine;decide)
  refine⟨.ref s.heap.objs.size,_,I2,rfl,⟨_,x,I.hok.fresh (lJg _),rfl,fun ys hy=>by rw[I.list_inj hy hq];exact hx,rfl⟩,⟨⟨u,by simpa using he2⟩,hit1.at fun o q=>(hs2.2 it hei.symm).trans q⟩,fun b hb=> ?_⟩
  have hbs:∃o,s.heap.get? b=some o:=by
   have hb':b=e\/b=it:=by simpa using hb
   rcases hb' with z | z
   ·subst z;exact⟨_,he⟩
   ·subst z;obtain⟨o,q,_⟩:=hit;exact⟨o,q⟩
  obtain⟨o,q⟩:=hbs
  rw[jJr (lJm (lJi q))]
  exact (hf b hb).1
 done:=by
  rintro X hP hw hK hc i pins s σ H E I hf ⟨⟨old,he⟩,hit⟩ hg
  subst hP hw hK
  obtain⟨xs,hq,hx⟩:=hg
  obtain⟨its,rv,p,hz⟩:=I.list hq
  have hl:=rv.length
  exact wpAny_pyNext_enum_end (I.ok.hd hc) he hit p.isList (by simp;omega) fun h1 hx1=>⟨rfl,kQt (t':=s.toks) I (fun b o hb q=>hx1 b o (fun z=>hb (by simp[z])) q) hf⟩
 self:=fun _ _ _ _ _ ⟨⟨old,he⟩,_⟩ h=>wpAny_pyIter_enum he h
def numT (xs:List T):List T:=(List.range xs.length).map fun (i:Nat)=>T.tup [.int i,xs.getD i .non]
theorem jX6 {xs:List T} {i:Nat} {x:T} (h:xs[i]? =some x):(numT xs)[i]? =some (.tup [.int i,x]):=by
 have hi:i<xs.length:=by
  rcases lXa i xs.length with z | z
  ·exact z
  ·rw[lK7 z] at h;cases h
 have hx:xs[i]=x:=(lJq.mp h).2
 simp[numT,hi,List.getD,hx]
theorem jKx {xs:List T}:(numT xs).length=xs.length:=by simp[numT]
def jKt (G:Gp):T->Option (List T)
 | .ref p=>asL (G p)
 | .scr xs=>some xs
 | _=>none
theorem jK7 {K:PySem.W.Frag} {H:Hp} {G:Gp} {x:T} {a:V} {xs:List T} (hg:GRel K H G) (r:Rep K H x a) (h:jKt G x=some xs):∃p vs,a= .ref p/\SqL K H p vs/\Reps K H xs vs:=by
 cases x with
 | scr ys=>cases h;obtain⟨p,vs,e,h1,h2⟩:=(show ∃p vs,a= .ref p/\FrL K H p vs/\Reps K H xs vs from r);exact⟨p,vs,e,h1.sq,h2⟩
 | ref p=>
  obtain⟨vs,h1,h2⟩:=hg.lst (jV6 h)
  exact⟨p,vs,r,.of h1,h2⟩
 | tup _=>cases h
 | non=>cases h
 | bl _=>cases h
 | int _=>cases h
 | str _=>cases h
 | ty _=>cases h
def jZd (ta:TA3):TI3:=fun τ G R=>ta τ G fun vs G1=>∃x xs,vs=[x]/\jKt G1 x=some xs/\R (numT xs) (fun G'=>jKt G' x=some xs) G1
theorem kVq {X:Cx} {elts:List Expr} {k:Nat} {tpos pos p:Pos} {a:Expr} {ta:TA3} (hg:Gl X "enumerate") (hm:X.mg "enumerate"=none) (hv:bootBuiltins "enumerate"=some (.type "enumerate")) (ha:PA3 X [a] ta) (hs:starEach [a] X.env=[(false,eval a X.env)]:=by rfl):
  PI3 X (.Tuple elts k tpos) (.Call (.Name "enumerate" p) [a] [] pos) (jZd ta):=by
 intro pins s τ G H R I h
 obtain⟨σ0,I0,hs0,hg0⟩:=id I
 refine Call_ (jUv I0 hg hm hv (lVg (thn (ha pos pins s τ G H _ I h) fun us s1 w_=>w_.el fun xs' G1 H1 e1 i_ r_ q1=>i_.el fun σ I1 hs1 hg1=>r_.el fun as ras rvs=> ?_) hs rfl))
 obtain⟨x,xs,e,hx,q⟩:=q1
 subst e
 obtain⟨v,rfl,rv⟩:=jUs ras
 obtain⟨u,rfl,ru⟩:=rvs.one
 obtain⟨pa,vs,rfl,hq,r⟩:=jK7 hg1 rv hx
 cases ru
 obtain⟨its,rvv,pl,hz⟩:=I1.list hq
 refine call_enumerate_list pl.isList fun h1 he hit hsz hk=> ?_
 have I2:Inv X pins σ H1 {s1 with heap:=h1}:=I1.kept (t':=s1.toks) hk
 refine wpAny_pyIter_enum (Q:=PIE3 X pins τ H (.Tuple elts k tpos) R) he ?_
 have fr:∀b∈[s1.heap.objs.size+1,s1.heap.objs.size],FpOk X pins H1 b:=fun b hb=>by
  have hb':b=s1.heap.objs.size+1\/b=s1.heap.objs.size:=by simpa using hb
  have hle:s1.heap.objs.size<=b:=by omega
  exact I1.fpOk hle (I1.hok.fresh hle)
 refine⟨s1.heap.objs.size+1,[s1.heap.objs.size+1,s1.heap.objs.size],_,_,numT xs,fun G'=>jKt G' x=some xs,G1,H1,rfl,e1,⟨σ,I2,hs1,hg1⟩,kX9 pa _ _ (Nat.succ_ne_self _),⟨⟨.none,he⟩,hit⟩,fr,?_,q⟩
 intro i H2 G2 e2 g2 st
 obtain⟨pb,ws,eb,h1,h2⟩:=jK7 g2 (Rep.mono e2 _ rv) st
 cases eb
 have hlen:=h2.length
 refine⟨fun hi=> ?_,fun hi=>⟨ws,h1,by rw[jKx] at hi;omega⟩,fun hi y H' ⟨pp,z,hn,ey,hy,eH⟩=> ?_⟩
 ·rw[jKx] at hi
  exact⟨ws,ws[i]'(by omega),h1,by simp[hlen▸hi]⟩
 ·subst ey;subst eH
  obtain⟨t,ht,rt⟩:=h2.get' (hy ws h1)
  exact⟨.upd (.none hn),g2.tupNew hn,_,jX6 ht,Rep.tupNew ⟨_,_,rfl,rfl,_,_,rfl,rt,rfl⟩ hn⟩
noncomputable def clGo (env:Env):List (Str×NameKind)->List (Str×Addr)->Option (List (Str×Addr))
 | [],cs=>some cs
 | (n,k)::r,cs=>if (k == .free)=true then (match env.cells.lookup n with | some c=>clGo env r ((n,c)::cs) | none=>none) else clGo env r cs
theorem jXs {scope:Scope} {env:Env} {cl:List (Str×Addr)} (h:clGo env scope.names []=some cl):closureFor scope env=pure cl:=by
 unfold closureFor
 have go:∀(names:List (Str×NameKind)) (cs:List (Str×Addr)),clGo env names cs=some cl->
   (forIn names cs fun (x:Str×NameKind) (r:List (Str×Addr))=>(match x with | (nm,kd)=>if (kd == .free)=true then cellOf env nm >>= fun a=>pure (ForInStep.yield ((nm,a)::r)) else pure (ForInStep.yield r):Sem (ForInStep (List (Str×Addr)))))=pure cl:=by
  intro names
  induction names with
  | nil=>intro cs e;cases e;rfl
  | cons x r ih=>
   obtain⟨n,k⟩:=x
   intro cs e
   unfold clGo at e
   rw[List.forIn_cons]
   by_cases hk:(k == NameKind.free)=true
   ·rw[lJc hk] at e
    cases hc:env.cells.lookup n with
    | none=>rw[hc] at e;cases e
    | some c=>
     rw[hc] at e
     have hco:cellOf env n=pure c:=by unfold cellOf;rw[hc]
     simp only[hk,lKl,hco,pure_bind]
     exact ih _ e
   ·rw[lJb hk] at e
    simp only[hk,pure_bind,lKj,lKn]
    exact ih _ e
 have:=go scope.names [] h
 simpa using this
theorem jU5 {env:Env} {cl:List (Str×Addr)}:∀ {names:List (Str×NameKind)} {cs:List (Str×Addr)},clGo env names cs=some cl->(∀n c,cs.lookup n=some c->env.cells.lookup n=some c)->∀n c,cl.lookup n=some c->env.cells.lookup n=some c
 | [],cs,e,h=>by cases e;exact h
 | (n,k)::r,cs,e,h=>by
  unfold clGo at e
  by_cases hk:(k == NameKind.free)=true
  ·rw[lJc hk] at e
   cases hc:env.cells.lookup n with
   | none=>rw[hc] at e;cases e
   | some c=>
    rw[hc] at e
    refine jU5 e fun m d q=> ?_
    rw[lKg] at q
    by_cases hm:(m == n)=true
    ·rw[hm] at q;cases q;rw[eq_of_beq hm];exact hc
    ·simp only[hm] at q;exact h m d q
  ·rw[lJb hk] at e
   exact jU5 e h
theorem jZj {env:Env} {cl:List (Str×Addr)} {m:Str}:∀ {names:List (Str×NameKind)} {cs:List (Str×Addr)},clGo env names cs=some cl->(∃c,cs.lookup m=some c)->∃c,cl.lookup m=some c
 | [],cs,e,h=>by cases e;exact h
 | (n,k)::r,cs,e,h=>by
  unfold clGo at e
  by_cases hk:(k == NameKind.free)=true
  ·rw[lJc hk] at e
   cases hc:env.cells.lookup n with
   | none=>rw[hc] at e;cases e
   | some c=>
    rw[hc] at e
    refine jZj e ?_
    rw[lKg]
    by_cases hm:(m == n)=true
    ·rw[hm];exact⟨_,rfl⟩
    ·simp only[hm];exact h
  ·rw[lJb hk] at e
   exact jZj e h
theorem jU6 {env:Env} {cl:List (Str×Addr)} {m:Str}:∀ {names:List (Str×NameKind)} {cs:List (Str×Addr)},clGo env names cs=some cl->names.lookup m=some .free->∃c,cl.lookup m=some c
 | [],cs,e,h=>by simp at h
 | (n,k)::r,cs,e,h=>by
  unfold clGo at e
  rw[lKg] at h
  by_cases hm:(m == n)=true
  ·rw[hm] at h
   cases h
   rw[lJc (show (NameKind.free == NameKind.free)=true from rfl)] at e
   cases hc:env.cells.lookup n with
   | none=>rw[hc] at e;cases e
   | some c=>
    rw[hc] at e
    refine jZj e ?_
    rw[lKg,hm];exact⟨_,rfl⟩
  ·simp only[hm] at h
   by_cases hk:(k == NameKind.free)=true
   ·rw[lJc hk] at e
    cases hc:env.cells.lookup n with
    | none=>rw[hc] at e;cases e
    | some c=>rw[hc] at e;exact jU6 e h
   ·rw[lJb hk] at e
    exact jU6 e h
theorem jQs {env:Env} {x:Str}:∀ {names:List (Str×NameKind)},(∀y∈names,y.2≠ .cell)->
  ((names.map fun (n,k)=>if (k == NameKind.free&&env.scope.kind == .function&&env.kindOf n == some .cell) then (n,NameKind.cell) else (n,k)).lookup x=some .cell\/
    (names.map fun (n,k)=>if (k == NameKind.free&&env.scope.kind == .function&&env.kindOf n == some .cell) then (n,NameKind.cell) else (n,k)).lookup x=some .free)->names.lookup x=some .free
 | [],_,h=>by simp at h
 | (n,k)::r,hc,h=>by
  have ih:= @jQs env x r (fun y hy=>hc y (lJ2 _ hy))
  have hk:=hc (n,k) lJ1
  rw[lJo] at h
  rw[lKg]
  by_cases hx:(x == n)=true
  ·rw[hx]
   by_cases hf:(k == NameKind.free&&env.scope.kind == .function&&env.kindOf n == some .cell)=true
   ·have:(k == NameKind.free)=true:=by
     rw[lK2,lK2] at hf;exact hf.1.1
    rw[eq_of_beq this]
   ·simp only[hf,lKj,lKn,lKg,hx] at h
    rcases h with h | h
    ·cases h;exact absurd rfl hk
    ·cases h;rfl
  ·simp only[hx]
   refine ih ?_
   by_cases hf:(k == NameKind.free&&env.scope.kind == .function&&env.kindOf n == some .cell)=true
   ·simpa only[hf,lKl,lKg,hx] using h
   ·simpa only[hf,lKj,lKn,lKg,hx] using h
theorem jKr {env:Env} {x:Str}:∀ {names:List (Str×NameKind)},
  (names.map fun (n,k)=>if (k == NameKind.free&&env.scope.kind == .function&&env.kindOf n == some .cell) then (n,NameKind.cell) else (n,k)).lookup x=some .local->names.lookup x=some .local
 | [],h=>by simp at h
 | (n,k)::r,h=>by
  have ih:= @jKr env x r
  rw[lJo] at h
  rw[lKg]
  by_cases hx:(x == n)=true
  ·rw[hx]
   by_cases hf:(k == NameKind.free&&env.scope.kind == .function&&env.kindOf n == some .cell)=true
   ·simp only[hf,lKl,lKg,hx] at h;cases h
   ·simp only[hf,lKj,lKn,lKg,hx] at h;exact h
  ·simp only[hx]
   refine ih ?_
   by_cases hf:(k == NameKind.free&&env.scope.kind == .function&&env.kindOf n == some .cell)=true
   ·simpa only[hf,lKl,lKg,hx] using h
   ·simpa only[hf,lKj,lKn,lKg,hx] using h
noncomputable def jQ8 (X:Cx) (scope:Scope) (cl:List (Str×Addr)) (C:Addr) (fp:List Addr) (s:Shared) (H:Hp):Cx:=
 {X with env:=compEnvC scope cl C X.env,s₀:=s,H₀:=H,outer:=X.stack,stack:=X.stack,ex:=fp,fn:=fun _=>false,pn:=[],xe:=fun _ _=>False}
structure CmpOk (X:Cx) (scope:Scope) (cl:List (Str×Addr)) (mask:List Bool):Prop where
 cl:clGo X.env scope.names []=some cl
 kind:scope.kind= .function
 nocell:(scope.names.all fun y=>y.2 != .cell)=true
 names:(scope.names.all fun y=>y.2 != .local||scope.names.lookup y.1 == some .local)=true
 vis:(scope.names.all fun y=>y.2 != .free||X.env.kindOf y.1 == some .cell||X.env.kindOf y.1 == some .free)=true
 len:mask.length=X.N.length
 mask:((X.N.zip mask).all fun p=>p.2||scope.names.lookup p.1 != some .local)=true
def msk {α:Type} (mask:List Bool) (τ:List (Option α)):List (Option α):=List.zipWith (fun b o=>if b=true then none else o) mask τ
theorem jY6 {α:Type} {mask:List Bool} {τ:List (Option α)} {i:Nat} {t:α} (h:(msk mask τ)[i]? =some (some t)):mask[i]? =some false/\τ[i]? =some (some t):=by
 unfold msk at h
 rw[lX3] at h
 cases hm:mask[i]? with
 | none=>exact absurd (hm▸h) (by simp)
 | some b=>
  cases ht:τ[i]? with
  | none=>rw[hm,ht] at h;cases h
  | some o=>
   rw[hm,ht] at h
   cases b with
   | true=>simp at h
   | false=>simp at h;exact⟨rfl,by rw[h]⟩
theorem jUd {α:Type} {mask:List Bool} {τ:List (Option α)} (h:mask.length=τ.length):(msk mask τ).length=τ.length:=by
 unfold msk;rw[List.length_zipWith,h,Nat.min_self]
theorem kJ3 {K:PySem.W.Frag} {H:Hp} {σ:L2.St} {τ:St3} {mask:List Bool} (h:SRel K H σ τ) (hl:mask.length=τ.length):SRel K H (msk mask σ) (msk mask τ):=by
 refine⟨by rw[jUd hl,jUd (hl.trans h.1.symm),h.1],fun i t q=> ?_⟩
 obtain⟨h1,h2⟩:=jY6 q
 obtain⟨v,h3,h4⟩:=h.2 i t h2
 refine⟨v,?_,h4⟩
 unfold msk
 rw[lX3,h1,h3]
 simp
section
variable {X:Cx} {scope:Scope} {cl:List (Str×Addr)} {mask:List Bool}
theorem CmpOk.local (c:CmpOk X scope cl mask) {i:Nat} {x:Str} (h1:X.N[i]? =some x) (h2:mask[i]? =some false):scope.names.lookup x≠some .local:=by
 have h:=c.mask
 rw[lKk] at h
 have hz:(X.N.zip mask)[i]? =some (x,false):=by rw[lXe];exact⟨h1,h2⟩
 have:=h _ (lJx hz)
 simpa using this
theorem CmpOk.free (c:CmpOk X scope cl mask) {x:Str} (h:scope.names.lookup x=some .free):X.env.kindOf x=some .cell\/X.env.kindOf x=some .free:=by
 have hv:=c.vis
 rw[lKk] at hv
 have:=hv (x,.free) (lJ3 h)
 simpa using this
theorem CmpOk.nc (c:CmpOk X scope cl mask):∀y∈scope.names,y.2≠ .cell:=by
 have hv:=c.nocell
 rw[lKk] at hv
 intro y hy
 simpa using hv y hy
theorem CmpOk.nm (c:CmpOk X scope cl mask):∀y∈scope.names,y.2= .local->scope.names.lookup y.1=some .local:=by
 have hv:=c.names
 rw[lKk] at hv
 intro y hy e
 have:=hv y hy
 rw[e] at this
 simpa using this
theorem qJx (c:CmpOk X scope cl mask) {pins:List (Addr×Obj)} {σ:L2.St} {H:Hp} {s:Shared} {fp:List Addr} {h4:Heap} {tk:Nat} (I:Inv X pins σ H s) (hf:∀b∈fp,FpOk X pins H b) (ho:∀b∈fp,∃o,s.heap.get? b=some o)
  (hns:h4.Ns s.heap.objs.size fun _=>none) (hk:∀b o,s.heap.get? b=some o->h4.get? b=some o):
  Inv (jQ8 X scope cl s.heap.objs.size fp s H) [] (msk mask σ) H {s with heap:=h4,toks:=tk}:=by
 have sub:=jU5 c.cl (by simp)
 have ok:(jQ8 X scope cl s.heap.objs.size fp s H).Ok:=by
  refine⟨I.ok.mod,c.kind,I.ok.glob,I.ok.blt,lJg _,fun x y d h1 h2=>I.ok.inj x y d (sub _ _ h1) (sub _ _ h2),fun x hx=>jU6 c.cl (jQs (env:=X.env) c.nc hx),fun x d hx=>absurd (show false=true from hx) lJv,I.ok.hd,I.ok.gd,I.ok.frames,.inl rfl,
   fun b hb=> ?_,I.bs,lKd I.ok.bsz I.sz,fun b o e hb=> ?_,fun b hb hz=> ?_,I.stack,I.stkFree⟩
  ·obtain⟨o,e⟩:=ho b hb
   exact⟨lJm (lJi e),fun x d hd=>(hf b hb).2.2.2.2.1 x d (sub _ _ hd)⟩
  ·rcases (hf b hb).2.2.2.1 with z | z
   ·exact I.ok.noex b o e z
   ·exact absurd (lJ7 (lJi e) I.ok.bsz) (Nat.not_lt.mpr z)
  ·rcases lJk.mp (I.stkSub b hz) with z | z
   ·exact (hf b hb).2.1 z
   ·exact (hf b hb).2.2.1 z
 refine⟨ok,rfl,I.bare,Un.kept hk,⟨_,hns,fun i x v h1 h2 h3=> ?_⟩,fun x d hd=> ?_,I.hok.fresh (lJg _),fun x d hd=>(I.freeC x d (sub _ _ hd)).imp id fun z=>⟨rfl,z.2⟩,fun p hp=>absurd (show p∈([]:List (Addr×Obj)) from hp) (by simp),I.hok.kept hk,?_⟩
 ·obtain⟨m1,m2⟩:=jY6 h2
  have nl:=c.local h1 m1
  have fr:scope.names.lookup x=some .free:=by
   rcases h3 with z | z | z
   ·exact absurd (jKr (env:=X.env) z) nl
   ·exact jQs (env:=X.env) c.nc (.inl z)
   ·exact jQs (env:=X.env) c.nc (.inr z)
  have hkk:=c.free fr
  obtain⟨m,hn,hl⟩:=I.loc
  have vis:Vis X.env.scope x:=by rcases hkk with z | z;exact .inr (.inl z);exact .inr (.inr z)
  obtain⟨u,ru,lk⟩:=hl i x v h1 m2 vis
  refine⟨u,ru,?_⟩
  rcases lk with ⟨z,_⟩ | ⟨_,d,hd,cd⟩
  ·exfalso;rcases hkk with q | q<;>(rw[z] at q;cases q)
  ·obtain⟨d',hd'⟩:=jU6 c.cl fr
   have:d'=d:=by have:=sub _ _ hd';rw[hd] at this;exact (lJ0 this).symm
   subst this
   refine .inr ⟨?_,d',hd',cd.keeps hk⟩
   rcases h3 with z | z | z
   ·exact absurd (jKr (env:=X.env) z) nl
   ·exact .inl z
   ·exact .inr z
 ·obtain⟨v,hv⟩:=I.cell x d (sub _ _ hd)
  exact⟨v,hv.keeps hk⟩
 ·exact (jUd (c.len.trans I.len.symm)).trans I.len
theorem qYh {pins:List (Addr×Obj)} {σ σ':L2.St} {H H':Hp} {s s':Shared} {fp:List Addr} {pl:List (Addr×Obj)} {C:Addr} (I:Inv X pins σ H s) (hf:∀b∈fp,FpOk X pins H b) (hC:s.heap.objs.size<=C)
  (J:Inv (jQ8 X scope cl C fp s H) pl σ' H' s') {h':Heap} (hb:Heap.SameBut C s'.heap h'):Inv X pins σ H' {s' with heap:=h'}:=by
 have ne:∀b o,s.heap.get? b=some o->b≠C:=fun b o e=>lJm (lJ7 (lJi e) hC)
 have u:=J.base
 have hfree:H' C=none:=J.free
 have u':Un (frs X.stack) fp H H' s.heap h':=⟨fun b o e n hb' hx=>(hb.2 b (ne b o e)).trans (u.keep b o e n hb' hx),fun b o e n hb' hx=>let ⟨sl,z⟩:=u.slot b o e n hb' hx;⟨sl,(hb.2 b (ne b o e)).trans z⟩,
  u.free,fun b o e hx=>let ⟨o',z⟩:=u.there b o e hx;⟨o',(hb.2 b (ne b o e)).trans z⟩,u.tups,u.frzs,u.tbls⟩
 have hok:HOk X.prog X.w H' h':=fun b ob e=>(J.hok b ob e).stay (fun c w' hc q=>(hb.2 c (by
  rintro rfl
  rcases hc with rfl | hc
  ·rw[hfree] at e;cases e
  ·rw[hfree] at hc;cases hc)).trans q) (fun _ q=>q) fun _ _ q=>q
 exact I.call' (s':={s' with heap:=h'}) J.os u' hok J.bare fun b hb=>⟨(hf b hb).2.2.2.1,(hf b hb).2.1,(hf b hb).2.2.2.2.1,(hf b hb).2.2.2.2.2⟩
end
abbrev qJw (ifs:List Expr) (env:Env):Sem Bool:=forIn ifs true fun c b=>if b=true then isTrue c env (eval c env) >>= fun d=>pure (ForInStep.yield d) else pure (ForInStep.yield b)
noncomputable def qUl (M:Model) (A:Around) (elt tg:Expr) (ifs:List Expr) (it acc:Value) (env:Env) (stop more:Shared->Prop):Option Value->Shared->Prop
 | none=>stop
 | some v=>fun z=>wpAny M A (letOwnedTupleGo tg it v) (fun _ z1=>wpAny M A (assign tg env v) (fun _ z2=>wpAny M A (qJw ifs env) (fun ok z3=>if ok=true then wpAny M A (eval elt env) (fun x z4=>wpAny M A (call (.builtin "list.append") [acc,x]) (fun _=>more) (fun _ _=>False) z4) (fun _ _=>False) z3 else more z3) (fun _ _=>False) z2) (fun _ _=>False) z1) (fun _ _=>False) z
theorem kQd {P:Program} {w:World} {A:Around} {R:Result->Shared->Prop} {s:Shared} {elt tg iter:Expr} {ifs:List Expr} {scope:Scope} {pos:Pos} {it acc:Value} {env:Env} (I:Nat->Shared->Prop)
  (turn:∀k z,I k z->wpAny (model P w) A (pyNext it) (qUl (model P w) A elt tg ifs it acc env (R (.ok .next)) fun z'=>∃m,m<k/\I m z') (fun _ _=>False) z) (n:Nat) (h:I n s):codeAny (model P w) A (.compLoop (.ListComp elt [⟨tg,iter,ifs,0⟩] scope pos) 0 it acc env) R s:=by
 refine codeAny_loop rfl I (fun k z hz=>(show wpAny _ A ((compTurn (.ListComp elt [⟨tg,iter,ifs,0⟩] scope pos) 0 it acc env).onRaise _) _ _ z from wpAny_noted ?_)) n h
 rw[compTurn_list]
 refine lJa (wpAny_standAt (lJa (lQf (turn k z hz) (fun r z1 h1=> ?_) fun _ _ e=>e.elim)))
 cases r with
 | none=>exact lJd h1
 | some v=>
  refine lJa (lQf h1 (fun _ z2 h2=>lJa (lQf h2 (fun _ z3 h3=>lJa (lQf h3 (fun ok z4 h4=> ?_) fun _ _ e=>e.elim)) fun _ _ e=>e.elim)) fun _ _ e=>e.elim)
  by_cases hok:ok=true
  ·subst hok
   exact lJa (lJa (lQf h4 (fun x z5 h5=>lJa (lQf h5 (fun _ z6 h6=>lJd (lJd ⟨rfl,h6⟩)) fun _ _ e=>e.elim)) fun _ _ e=>e.elim))
  ·obtain rfl:ok=false:=by simpa using hok
   exact lJd ⟨rfl,h4⟩
def PIf3 (X:Cx) (ifs:List Expr) (t:TT3):Prop:=∀(pins:List (Addr×Obj)) (s:Shared) (τ:St3) (G:Gp) (H:Hp) (Q:Bool->Gp->Prop),Inv3 X pins τ G H s->t τ G Q->
 wpAny (model X.prog X.w) X.A (forIn ifs true fun c r=>if r=true then do let ok <-isTrue c X.env (eval c X.env);pure (ForInStep.yield ok) else pure (ForInStep.yield r)) (TP3 X pins τ H Q) X.xe s
def jK4:TT3:=fun _ G Q=>Q true G
theorem jKl {X:Cx}:PIf3 X [] jK4:=fun _ _ _ G H _ I q=>wpAny_tests_nil ⟨G,H,.refl H,I,q⟩
theorem kZ2 {X:Cx} {c:Expr} {t:TT3} (h:PT3 X c t):PIf3 X [c] t:=fun pins s τ G H Q I q=>wpAny_tests_one (h pins s τ G H Q I q)
def kQr (mask:List Bool) (g:TG3):Prop:=∀v τ G Q,g v τ G Q->g v τ G fun τ2 G2=>Q τ2 G2/\τ2.length=τ.length/\∀i:Nat,mask[i]? ≠some true->τ2[i]? =τ[i]?
def kV5 (mask:List Bool) (g:TGs3):Prop:=∀v τ G Q,g v τ G Q->g v τ G fun τ2 G2=>Q τ2 G2/\τ2.length=τ.length/\∀i:Nat,mask[i]? ≠some true->τ2[i]? =τ[i]?
theorem jJv {mask:List Bool} {i:Nat} (h:mask[i]? =some true:=by rfl):kQr mask (jJg i):=fun v τ G Q q=>
 ⟨q,List.length_set ..,fun j hj=>lYj (by rintro rfl;exact hj h)⟩
theorem kJc {mask:List Bool}:kV5 mask gNil:=fun v τ G Q ⟨e,q⟩=>⟨e,q,rfl,fun _ _=>rfl⟩
theorem jK5 {mask:List Bool} {t:TG3} {u:TGs3} (h1:kQr mask t) (mono:∀v τ G Q Q',(∀a b,Q a b->Q' a b)->t v τ G Q->t v τ G Q') (h2:kV5 mask u) (mono2:∀v τ G Q Q',(∀a b,Q a b->Q' a b)->u v τ G Q->u v τ G Q'):kV5 mask (jJ8 t u):=fun vs τ G Q ⟨v,r,e,q⟩=>by
 refine⟨v,r,e,mono _ _ _ _ _ (fun τ2 G2 ⟨z,l1,k1⟩=> ?_) (h1 _ _ _ _ q)⟩
 exact mono2 _ _ _ _ _ (fun τ3 G3 ⟨z3,l3,k3⟩=>⟨z3,l3.trans l1,fun i hi=>(k3 i hi).trans (k1 i hi)⟩) (h2 _ _ _ _ z)
theorem jKd {i:Nat}:∀v τ G (Q Q':St3->Gp->Prop),(∀a b,Q a b->Q' a b)->jJg i v τ G Q->jJg i v τ G Q':=fun _ _ _ _ _ h q=>h _ _ q
theorem jUk:∀v τ G (Q Q':St3->Gp->Prop),(∀a b,Q a b->Q' a b)->gNil v τ G Q->gNil v τ G Q':=fun _ _ _ _ _ h q=>⟨q.1,h _ _ q.2⟩
theorem jXp {t:TG3} {u:TGs3} (m1:∀v τ G (Q Q':St3->Gp->Prop),(∀a b,Q a b->Q' a b)->t v τ G Q->t v τ G Q') (m2:∀v τ G (Q Q':St3->Gp->Prop),(∀a b,Q a b->Q' a b)->u v τ G Q->u v τ G Q'):
  ∀v τ G (Q Q':St3->Gp->Prop),(∀a b,Q a b->Q' a b)->jJ8 t u v τ G Q->jJ8 t u v τ G Q':=fun _ _ _ _ _ h ⟨v,r,e,q⟩=>⟨v,r,e,m1 _ _ _ _ _ (fun _ _ z=>m2 _ _ _ _ _ h z) q⟩
theorem kJb {mask:List Bool} {n:Nat} {u:TGs3} (h:kV5 mask u):kQr mask (gTup n u):=fun v τ G Q ⟨xs,e,l,q⟩=>⟨xs,e,l,h _ _ _ _ q⟩
theorem kVe {mask:List Bool} {τ τ2:St3} (hl:mask.length=τ.length) (l:τ2.length=(msk mask τ).length) (h:∀i:Nat,mask[i]? ≠some true->τ2[i]? =(msk mask τ)[i]?):msk mask τ2=msk mask τ:=by
 have ll:=jUd hl
 apply lVu
 intro i
 unfold msk at h ⊢
 rw[lX3,lX3]
 cases hm:mask[i]? with
 | none=>rfl
 | some b=>
  cases b with
  | true=>
   have h1:i<mask.length:=by
    rcases lXa i mask.length with z | z
    ·exact z
    ·rw[lK7 z] at hm;cases hm
   have h2:i<τ2.length:=by omega
   have h3:i<τ.length:=by omega
   rw[lJp h2,lJp h3]
   simp
  | false=>
   have:=h i (by rw[hm];simp)
   rw[lX3,hm] at this
   rw[this]
   cases τ[i]? with
   | none=>rfl
   | some o=>simp
def kJo (mask:List Bool) (g:TG3) (tif:TT3) (te:TE3) (τ:St3) (xs:List T) (stay:Gp->Prop) (G:Gp) (Q:VK3):Prop:=
 ∀D,G D=none->∃P:Nat->List T->Gp->Prop,P 0 [] (gup G D (.lst []))/\(∀i acc G,i<=xs.length->P i acc G->stay G/\G D=some (.lst acc))/\
  (∀i x acc G,xs[i]? =some x->P i acc G->g x (msk mask τ) G fun τ2 G2=>tif τ2 G2 fun b G3=>if b=true then te τ2 G3 fun y G4=>G4 D=some (.lst acc)/\acc.length<sizeLine/\P (i+1) (acc++[y]) (gup G4 D (.lst (acc++[y]))) else P (i+1) acc G3)/\
  ∀acc G,P xs.length acc G->Q (.ref D) G
def jKn (mask:List Bool) (wi:TI3) (g:TG3) (tif:TT3) (te:TE3):TE3:=fun τ G Q=>wi τ G fun xs stay G1=>kJo mask g tif te τ xs stay G1 Q
section
variable {X:Cx} {scope:Scope} {cl:List (Str×Addr)} {mask:List Bool} {elt iter tg:Expr} {ifs:List Expr} {pos:Pos} {wi:TI3} {g:TG3} {tif:TT3} {te:TE3}
theorem kJe (hc:X.calm=true) (ok:CmpOk X scope cl mask)
  (hgk:kQr mask g) (hg:∀C fp s H,PG3 (jQ8 X scope cl C fp s H) tg g) (hif:∀C fp s H,PIf3 (jQ8 X scope cl C fp s H) ifs tif) (he:∀C fp s H,PE3 (jQ8 X scope cl C fp s H) elt te)
  {pins:List (Addr×Obj)} {τ:St3} {H:Hp} {Q:VK3} {itv:Value} {s2:Shared} {E:Value->Shared->Prop} {RR:Value->Addr->Result->Shared->Prop}
  (h2:PIE3 X pins τ H tg (fun xs stay G=>kJo mask g tif te τ xs stay G Q) itv s2)
  (hRR:∀D C s' m,s'.heap.Ns C m->(∃G1 H1,Ext H H1/\H1 C=none/\Q (.ref D) G1/\∀h',Heap.SameBut C s'.heap h'->Inv3 X pins τ G1 H1 {s' with heap:=h'})->(∃oC,s'.heap.get? C=some oC/\C≠X.env.locals/\C∉X.fs/\∀v,oC.data≠ .cell v)->(∀x c,X.env.cells.lookup x=some c->c≠C)->(∀p∈X.pn++pins,p.1≠C)->X.s₀.heap.objs.size<=C->RR (.ref D) C (.ok .next) s'):
  wpAny (model X.prog X.w) X.A (newList []) (fun acc s₃=>wpAny (model X.prog X.w) X.A (newFunctionEnv scope X.env.globals cl [] X.env.qual none .none (some X.env)) (fun cenv s₄=>
   codeAny (model X.prog X.w) X.A (.compStart (.ListComp elt [⟨tg,iter,ifs,0⟩] scope pos) 0 itv acc {cenv with scope:=relabel scope X.env}) (RR acc cenv.locals) s₄) E s₃) E s2:=by
 obtain⟨it,fp,tn,J,xs,stay,G2,H2,e,eH,⟨σ,I2,hs2,hg2⟩,T0,st2,f2,IT,hq⟩:=h2
 subst e
 refine lQl (wpAny_newFunctionEnv ok.nc (by intro y hy;simp at hy) (fun h4 hns hsb=> ?_) ok.kind)
 dsimp only at hns hsb ⊢
 have hD:H2 s2.heap.objs.size=none:=I2.hok.fresh (lJg _)
 generalize hs3:({s2 with heap:=s2.heap.push {cls:= .type "list",dict:=none,data:= .seq ([]:List Value).toArray} }:Shared)=s3
 have eh3:s2.heap.push {cls:= .type "list",dict:=none,data:= .seq ([]:List Value).toArray}=s3.heap:=by rw[<-hs3]
 have I3:Inv X pins σ (upd H2 s2.heap.objs.size (.lst [])) s3:=by
  rw[<-hs3]
  exact I2.laid (t':=s2.toks) (fun b u e=>lJl _ e) (lJg _) ⟨lJ6 _,[],0,.nil,lJ8 _ rfl⟩
 rw[eh3] at hns hsb ⊢
 generalize hDd:s2.heap.objs.size=D at *
 have e3:Ext H2 (upd H2 D (.lst [])):= .upd (.none hD)
 have hg3:GRel X.K (upd H2 D (.lst [])) (gup G2 D (.lst [])):=hg2.lstNew (show Reps X.K H2 [] [] from rfl) (.none hD)
 have obj2:∀b∈fp,∃o,s2.heap.get? b=some o:=fun b hb=>let ⟨o,e,_⟩:=T0.obj 0 _ st2 b hb;⟨o,e⟩
 have fD:∀b∈fp,b≠D:=fun b hb=>by obtain⟨o,e⟩:=obj2 b hb;rw[<-hDd];exact lJm (lJi e)
 have f3:∀b∈fp,FpOk X pins (upd H2 D (.lst [])) b:=fun b hb=>⟨by rw[jJr (fD b hb)];exact (f2 b hb).1,(f2 b hb).2⟩
 have k3:∀b o,s2.heap.get? b=some o->s3.heap.get? b=some o:=fun b o e=>by rw[<-eh3];exact lJl _ e
 have obj3:∀b∈fp,∃o,s3.heap.get? b=some o:=fun b hb=>let ⟨o,e⟩:=obj2 b hb;⟨o,k3 b o e⟩
 have k4:∀b o,s3.heap.get? b=some o->h4.get? b=some o:=fun b o e=>hsb.extBut b o (lJm (lJi e)) (lJl _ e)
 have Ic:Inv (jQ8 X scope cl s3.heap.objs.size fp s3 (upd H2 D (.lst []))) [] (msk mask σ) (upd H2 D (.lst [])) {s3 with heap:=h4,toks:=s3.toks+([]:List (Str×Value)).length}:=qJx ok I3 f3 obj3 hns k4
 have st4:tn 0 h4:=T0.keep _ _ _ st2 fun b _ o e=>k4 b o (k3 b o e)
 have hl3:mask.length=τ.length:=ok.len.trans (I3.len.symm.trans hs2.1)
 obtain⟨P,p0,hst,turn,fin⟩:=hq D (hg2.fresh hD)
 have fpc:∀ {H':Hp} {pl:List (Addr×Obj)},(∀b∈fp,H' b=none)->(∀p∈pl,p.1∉fp)->∀b∈fp,FpOk (jQ8 X scope cl s3.heap.objs.size fp s3 (upd H2 D (.lst []))) pl H' b:=fun {H' pl} hn hp b hb=>by
  obtain⟨o,e⟩:=obj3 b hb
  refine⟨hn b hb,lJm (lJi e),?_,.inl hb,fun x d hd=>(f3 b hb).2.2.2.2.1 x d (jU5 ok.cl (by simp) _ _ hd),fun p hpp z=> ?_⟩
  ·intro z
   rcases lJk.mp (I3.stkSub b z) with q | q
   ·exact (f3 b hb).2.1 q
   ·exact (f3 b hb).2.2.1 q
  ·have hpp':p∈pl:=by simpa[jQ8] using hpp
   exact hp p hpp' (z▸hb)
 have loop:∀s4:Shared,s4={s3 with heap:=h4,toks:=s3.toks+([]:List (Str×Value)).length}->
   codeAny (model X.prog X.w) X.A (.compLoop (.ListComp elt [⟨tg,iter,ifs,0⟩] scope pos) 0 (.ref it) (.ref D) (compEnvC scope cl s3.heap.objs.size X.env)) (RR (.ref D) s3.heap.objs.size) s4:=by
  rintro s4 rfl
  refine kQd (fun n s'=>∃i acc G' H',n=xs.length-i/\i<=xs.length/\Ext H2 H'/\Inv3 (jQ8 X scope cl s3.heap.objs.size fp s3 (upd H2 D (.lst []))) [] (msk mask τ) G' H' s'/\tn i s'.heap/\(∀b∈fp,H' b=none)/\P i acc G') ?_ xs.length
   ⟨0,[],_,_,rfl,lJ6 _,e3,⟨_,Ic,kJ3 (hs2.mono e3) hl3,hg3⟩,st4,fun b hb=>(f3 b hb).1,p0⟩
  rintro n s5 ⟨i,acc,G5,H5,en,hi5,e5,⟨σ5,I5,hs5,hg5⟩,st5,fr5,p5⟩
  obtain⟨hstay,hacc⟩:=hst i acc G5 hi5 p5
  obtain⟨go,stop,yl⟩:=IT i H5 G5 e5 hg5 hstay
  by_cases hlt:i<xs.length
  ·refine thn (T0.item (jQ8 X scope cl s3.heap.objs.size fp s3 (upd H2 D (.lst []))) rfl rfl rfl hc i [] s5 σ5 H5 (fun _ _=>False) I5 (fpc fr5 (by simp)) st5 (go hlt)) fun r s6 ⟨u,hr,h6⟩=> ?_
   subst hr
   refine thn h6 fun _ s7 ⟨x,H7,I7,r7,y7,st7,fr7⟩=> ?_
   obtain⟨e7,g7,t,ht,rt⟩:=yl hlt x H7 y7
   have I7':=I7.pinned (fpc fr7 (by simp)) (T0.obj _ _ st7)
   refine thn (hg _ _ _ _ ([]++jQp fp s7.heap) s7 (msk mask τ) G5 H7 t u _ ⟨σ5,I7',hs5.mono e7,g7⟩ ⟨x,rt,r7⟩ (hgk _ _ _ _ (turn i t acc G5 ht p5))) fun _ s8 ⟨τ8,G8,H8,e8,I8,q8,ql8,qk8⟩=> ?_
   refine thn (hif _ _ _ _ ([]++jQp fp s7.heap) s8 τ8 G8 H8 _ I8 q8) fun b s9 ⟨G9,H9,e9,I9,q9⟩=> ?_
   have back:∀ {Ga:Gp} {Ha:Hp} {sa:Shared} {acc':List T},Ext H7 Ha->Inv3 (jQ8 X scope cl s3.heap.objs.size fp s3 (upd H2 D (.lst []))) ([]++jQp fp s7.heap) τ8 Ga Ha sa->P (i+1) acc' Ga->
     ∃m,m<n/\∃i acc G' H',m=xs.length-i/\i<=xs.length/\Ext H2 H'/\Inv3 (jQ8 X scope cl s3.heap.objs.size fp s3 (upd H2 D (.lst []))) [] (msk mask τ) G' H' sa/\tn i sa.heap/\(∀b∈fp,H' b=none)/\P i acc G':=by
    rintro Ga Ha sa acc' ea ⟨σa,Ia,hsa,hga⟩ pa
    have e2a:Ext H5 Ha:=e7.trans ea
    have hla:mask.length=τ8.length:=by rw[ql8,jUd hl3];exact hl3
    have hsm:=kJ3 (mask:=mask) hsa hla
    rw[kVe hl3 ql8 qk8] at hsm
    refine⟨xs.length-(i+1),by omega,i+1,acc',Ga,Ha,rfl,hlt,e5.trans e2a,⟨msk mask σa,(Ia.weak (jUd (hla.trans hsa.1.symm)) fun j v hv=>(jY6 hv).2).pins_of (fun p hp=>absurd hp (by simp)),hsm,hga⟩,?_,fun b hb=> ?_,pa⟩
    ·exact T0.keep _ _ _ st7 fun b hb o e=>(Ia.pin (b,o) (lJy _ (lJy _ (jQf hb e)))).1
    ·obtain⟨o,e,d⟩:=T0.obj _ _ st7 b hb
     exact (Ia.pin (b,o) (lJy _ (lJy _ (jQf hb e)))).2.1
   cases b with
   | false=>
    rw[lJb lJv] at q9 ⊢
    exact back (e8.trans e9) I9 q9
   | true=>
    rw[lJc rfl] at q9 ⊢
    refine thn (he _ _ _ _ ([]++jQp fp s7.heap) s9 τ8 G9 H9 _ I9 q9) fun y s10 w_=>w_.el fun ty G10 H10 e10 I10 r10 ⟨hD10,hz10,q10⟩=> ?_
    obtain⟨vy,rvy,ruy⟩:=r10
    refine thn (jUe ([]++jQp fp s7.heap) s10 τ8 G10 H10 (.ref D) [ty] (.ref D) [y] (fun _ G'=>P (i+1) (acc++[ty]) G') I10 ⟨.ref D,rfl,rfl⟩ ⟨[vy],.one rvy,.cons ruy .nil⟩ ⟨D,acc,ty,rfl,rfl,hD10,hz10,q10⟩) fun _ s11 w_=>w_.el fun _ G11 H11 e11 I11 _ q11=> ?_
    exact back (((e8.trans e9).trans e10).trans e11) I11 q11
  ·have ei:i=xs.length:=by omega
   refine thn (T0.done (jQ8 X scope cl s3.heap.objs.size fp s3 (upd H2 D (.lst []))) rfl rfl rfl hc i [] s5 σ5 H5 (fun _ _=>False) I5 (fpc fr5 (by simp)) st5 (stop (by omega))) fun r s6 ⟨hr,I6⟩=> ?_
   subst hr;subst ei
   obtain⟨m,hn,_⟩:=I6.loc
   obtain⟨oC,es,ep,hoC,hdC,_⟩:=id hn
   refine hRR D s3.heap.objs.size s6 m hn ⟨G5,H5,eH.trans e5,I6.free,fin acc G5 p5,fun h' hb=>⟨σ,qYh I3 f3 (lJg _) I6 hb,hs2.mono e5,hg5⟩⟩
    ⟨oC,hoC,lK0 I3.lt,I3.nofs (lJg _),fun v z=>by rw[hdC] at z;cases z⟩ (fun x d hd=> ?_) (fun p hp=> ?_) I3.sz
   ·obtain⟨v,q⟩:=I3.cell x d hd
    exact lJm q.lt
   ·exact lJm (lJi (I3.pin p hp).1)
 exact codeAny_compStart_list (loop _ (by rw[<-hs3])) (T0.self _ 0 _ _ _ st4 (loop _ (by rw[<-hs3])))
theorem jKm (hc:X.calm=true) (ok:CmpOk X scope cl mask) (hi:PI3 X tg iter wi) (hgk:kQr mask g) (hg:∀C fp s H,PG3 (jQ8 X scope cl C fp s H) tg g) (hif:∀C fp s H,PIf3 (jQ8 X scope cl C fp s H) ifs tif) (he:∀C fp s H,PE3 (jQ8 X scope cl C fp s H) elt te)
  (hs:∀x,foldedSetIterable iter X.env x=pure x:=by intro _;rfl):PE3 X (.ListComp elt [⟨tg,iter,ifs,0⟩] scope pos) (jKn mask wi g tif te):=by
 intro pins s τ G H Q I h
 rw[eval_ListComp]
 refine lZa (use:=none) rfl hs (jXs ok.cl) ok.kind ok.nm (thn (hi pins s τ G H _ I h) fun xv s1 h1=>thn h1 fun itv s2 h2=> ?_)
 refine kJe (RR:=fun acc C=>compPost (model X.prog X.w) X.A X.xe none (EP3 X pins τ H Q) acc C) hc ok hgk hg hif he h2 ?_
 rintro D C s' m hn ⟨G1,H1,e1,_,q1,hI⟩ _ _ _ _
 exact⟨m,hn,fun h' hb=>⟨.ref D,G1,H1,e1,hI h' hb,⟨.ref D,rfl,rfl⟩,q1⟩⟩
theorem qUt {i:Nat} {y:Str} {py spos:Pos} (hc:X.calm=true) (hN:X.N.Nodup) (ok:CmpOk X scope cl mask) (hi:PI3 X tg iter wi) (hgk:kQr mask g) (hg:∀C fp s H,PG3 (jQ8 X scope cl C fp s H) tg g) (hif:∀C fp s H,PIf3 (jQ8 X scope cl C fp s H) ifs tif) (he:∀C fp s H,PE3 (jQ8 X scope cl C fp s H) elt te)
  (hy:X.N[i]? =some y:=by rfl) (hx:X.env.scope.names.lookup y=some .local:=by rfl)
  (hsw:swapsWith (.ListComp elt [⟨tg,iter,ifs,0⟩] scope pos) (some (.Name y py)) spos.line X.env=pure true:=by rfl)
  (hs:∀x,foldedSetIterable iter X.env x=pure x:=by intro _;rfl):PS3 X (.Assign [.Name y py] (.ListComp elt [⟨tg,iter,ifs,0⟩] scope pos) spos) (tAsg (jKn mask wi g tif te) (jJg i)):=by
 intro pins s τ G H D I h
 rw[exec_Assign_Name_used _ _ _ _ hsw];refine lJa (wpAny_standAt (lJa ?_))
 show wpAny _ X.A (do let _ <-comprehension (.ListComp elt [⟨tg,iter,ifs,0⟩] scope pos) scope X.env _ (newList []) false (eval iter X.env) (some (assign (.Name y py) X.env))) _ _ s
 refine lJa (lQf (lZa (use:=some (assign (.Name y py) X.env)) (Q:=fun _ s'=>SP3 X pins H D .next s') rfl hs (jXs ok.cl) ok.kind ok.nm
  (thn (hi pins s τ G H _ I h) fun xv s1 h1=>thn h1 fun itv s2 h2=> ?_)) (fun _ s' hq=>lJd (lJd hq)) fun _ _ e=>e)
 refine kJe (RR:=fun acc C=>compPost (model X.prog X.w) X.A X.xe (some (assign (.Name y py) X.env)) (fun _ s'=>SP3 X pins H D .next s') acc C) hc ok hgk hg hif he h2 ?_
 rintro Dd C s' m hn ⟨G1,H1,e1,hH1C,q1,hI⟩ ⟨oC,hoC,c1,c2,c3⟩ c4 c5 c6
 show wpAny _ X.A (assign (.Name y py) X.env (.ref Dd)) _ _ _
 obtain⟨σ1,I1,hs1,hg1⟩:=hI s'.heap (.refl ..)
 have I1':Inv X (pins++[(C,oC)]) σ1 H1 s':=I1.pins_of fun p hp=>(lJr.mp hp).elim (fun z=>I1.pin p (lJy _ z)) fun z=>by
  obtain rfl:p=(C,oC):=by simpa using z
  exact⟨hoC,hH1C,c1,c2,c3⟩
 refine wpAny_assign_Name (kJp I1' hN hy (.inl hx) (v:= .ref Dd) rfl (fun s2 I2=> ?_) (.inr hx))
 have hC2:s2.heap.get? C=some oC:=(I2.pin (C,oC) (lJy _ (lJy _ (by simp)))).1
 obtain⟨oC',es,ep,hoC',r⟩:=hn
 have eo:oC'=oC:=by rw[hoC] at hoC';exact (lJ0 hoC').symm
 subst eo
 refine⟨m,⟨oC',es,ep,hC2,r⟩,fun h' hb=>⟨_,G1,H1,e1,⟨_,?_,hs1.set i (show Rep X.K H1 (.ref Dd) (.ref Dd) from rfl),hg1⟩,q1⟩⟩
 exact I2.unpinned.turned (t':=s2.toks) (fun b o hb' e=>(hb.2 b hb').trans e) hH1C c1 (.inr c6) c4 c5
end
end L3
namespace HT
open PySem PyProof.Rows
def lexLe:(xs ys:List Int)->Bool
 | [],_=>true
 | _::_,[]=>false
 | x::xs,y::ys=>if x=y then lexLe xs ys else decide (x<=y)
theorem kXp (x y:Int) (xs ys:List Int):lexLe (x::xs) (y::ys)=if x=y then lexLe xs ys else decide (x<=y):=rfl
theorem kZn (ys:List Int):lexLe [] ys=true:=by cases ys<;>rfl
theorem jZt (x:Int) (xs:List Int):lexLe (x::xs) []=false:=rfl
theorem qK6 (A:Around) (s:Shared) (a:Int) (t:Tok) (c:Int) (u:Tok) (prog:Program) (w:World) (E:Value->Shared->Prop) (Q:Value->Shared->Prop) (h:Q (.bool (decide (a<=c))) s):
  wpAny (model prog w) A (richCompare .LtE (.int a t) (.int c u)) Q E s:=
 (PyProof.Rows.le_int h:wpAny (model prog w) A (compareOp .LtE (.int a t) (.int c u)) Q E s)
section
open PySem.SeqAt
open PySem.AutoSeq1 (wpAny_loadPart')
open PySem.MeetsSeq PySem.MeetsSeq2 PySem.MeetsSeq3
theorem kJk (l b:Addr) (items items2:Array Value) (n n2:Nat) (dd dd2:Option Addr) (sl sl2:Array (Option Value)) (ns ms:List Int) (hi:IntsAre items.toList ns) (hj:IntsAre items2.toList ms):
  Meets (Builtin.«tuple.__le__» ⟨[.ref l,.ref b],[]⟩)
   (fun _ R s=>s.heap.get? l=some {cls:= .type "tuple",dict:=dd,data:= .seq items n,slots:=sl}/\s.heap.get? b=some {cls:= .type "tuple",dict:=dd2,data:= .seq items2 n2,slots:=sl2}/\
    R (.ok (.ret (.bool (lexLe ns ms)))) s):=
 .of_wp fun prog w A R s h=>by
  obtain⟨hp,g,d,tk,os⟩:=s;obtain⟨hl,hb,h⟩:=h
  have f2:=AutoSeq1.sub_tuple_tuple
  have z1:items.size=ns.length:=by rw[<-hi.length];simp
  have z2:items2.size=ms.length:=by rw[<-hj.length];simp
  wp_walk using wpAny_loadPart' hl,wpAny_loadPart' hb,wpAny_forIn_list _ (fun rest b s'=>b.1=none/\s'=⟨hp,g,d,tk,os⟩/\∃(vs ws:List Value) (ns' ms':List Int),rest=vs.zip ws/\
   IntsAre vs ns'/\IntsAre ws ms'/\ns'.length+items2.size=ms'.length+items.size/\R (.ok (.ret (.bool (lexLe ns' ms')))) ⟨hp,g,d,tk,os⟩) _
  case turn=>
   rintro⟨y,x⟩ rest b s' ⟨hb',rfl,vs,ws,ns',ms',hz,hvi,hwi,hlen,hR⟩
   cases hvi with
   | nil=>rw[List.zip_nil_left] at hz;cases hz
   | cons a t hvi'=>
    cases hwi with
    | nil=>rw[List.zip_nil_right] at hz;cases hz
    | cons c u hwi'=>
     rw[lXf] at hz
     injection hz with hyx hrest
     injection hyx with hy hx
     subst hy hx
     rw[kXp] at hR
     simp only[lJ9] at hlen
     obtain⟨e,he,hiff⟩:=qQ3 A.in1 ⟨hp,g,d,tk,os⟩ a t c u
     refine lJa (he prog w _ _ ?_)
     cases e with
     | true=>
      rw[lJc (hiff.mp rfl)] at hR
      wp_walk
      exact⟨rfl,rfl,_,_,_,_,hrest,hvi',hwi',by omega,hR⟩
     | false=>
      rw[lJb (fun q=>absurd (hiff.mpr q) lJv)] at hR
      have hri:=qK6 A.in1 ⟨hp,g,d,tk,os⟩ a t c u prog w
      wp_walk using hri
      exact⟨_,rfl,by simpa using hR⟩
  case fin=>
   rintro⟨b1,b2⟩ s' ⟨hb',rfl,vs,ws,ns',ms',hz,hvi,hwi,hlen,hR⟩
   simp only at hb'
   subst hb'
   have hv:lexLe ns' ms'=decide (items.size<=items2.size):=by
    cases hvi with
    | nil=>
     simp only[lQa] at hlen
     rw[kZn]
     exact (lJ5 (by omega)).symm
    | cons a t hv=>
     cases hwi with
     | nil=>
      simp only[lQa,lJ9] at hlen
      rw[jZt]
      exact (lJw (by omega)).symm
     | cons c u hw=>
      rw[lXf] at hz
      cases hz
   rw[hv] at hR
   wp_walk
   exact⟨_,rfl,by simpa[Builtin.Tuple.tupleCompareSizes] using hR⟩
  case h=>
   exact⟨rfl,rfl,items.toList,items2.toList,ns,ms,rfl,hi,hj,by omega,h⟩
end
theorem le_tupInts {prog:Program} {w:World} {A:Around} {E:Value->Shared->Prop} {s:Shared} {l b:Addr} {items items2:Array Value} {ns ms:List Int} {Q:Value->Shared->Prop} (hl:IsTup s.heap l items) (hb:IsTup s.heap b items2) (hi:IntsAre items.toList ns) (hj:IntsAre items2.toList ms)
  (hu:A.units<cLine) (h:Q (.bool (lexLe ns ms)) s):wpAny (model prog w) A (compareOp .LtE (.ref l) (.ref b)) Q E s:=by
 obtain⟨⟨cls,dd,data,sl⟩,ho,hc,n,hd⟩:=id hl
 obtain⟨⟨cls2,dd2,data2,sl2⟩,ho2,hc2,n2,hd2⟩:=id hb
 simp only at hc hd hc2 hd2
 subst hc hd hc2 hd2
 exact richCompare_meets_room (op:= .LtE) ⟨_,ho,rfl⟩ ⟨_,ho2,rfl⟩ PySem.F.slot_tuple_le PySem.F.entry_tuple_le (PySem.F.args_tuple_le_2 _ _) (kJk l b items items2 n n2 dd dd2 sl sl2 ns ms hi hj)
  ⟨ho,ho2,show Value.bool (lexLe ns ms)≠Value.notImplemented/\Q (.bool (lexLe ns ms)) s from⟨(fun x=>nomatch x),h⟩⟩ hu
end HT
namespace L3
open PySem PySem.Spec PyProof.Rows L2
section
variable {X:Cx}
theorem jQk {K:PySem.W.Frag} {H:Hp}:∀ {ns:List Int} {vs:List V},Reps K H (ns.map T.int) vs->vs=ns.map V.int
 | [],_,h=>h
 | n::ns,_,⟨v,ws,e,r,rs⟩=>by
  subst e;cases (show v= .int n from r)
  rw[jQk rs];rfl
def rLeT:R3:=fun x y G Q=>∃ns ms,x= .tup (ns.map T.int)/\y= .tup (ms.map T.int)/\Q (.bl (HT.lexLe ns ms)) G
theorem o_leT (hu:X.A.units<cLine):Op3 X (compareOp .LtE) rLeT:=by
 rintro pins s τ G H x y v u Q ⟨σ,I,hs,hg⟩ ⟨a,ra,rv⟩ ⟨b,rb,ru⟩ ⟨ns,ms,ex,ey,q⟩
 subst ex;subst ey
 obtain⟨p,vs,e1,h1,h2⟩:=(show ∃p vs,a= .ref p/\H p=some (.tup vs)/\Reps X.K H (ns.map T.int) vs from ra)
 obtain⟨p',ws,e2,h3,h4⟩:=(show ∃p vs,b= .ref p/\H p=some (.tup vs)/\Reps X.K H (ms.map T.int) vs from rb)
 subst e1;subst e2
 cases rv;cases ru
 rw[jQk h2] at h1
 rw[jQk h4] at h3
 obtain⟨its,r1,p1,_⟩:=I.tuple (.of h1)
 obtain⟨its2,r2,p2,_⟩:=I.tuple (.of h3)
 exact HT.le_tupInts p1 p2 (show IntsAre its.toArray.toList ns from kJa r1) (show IntsAre its2.toArray.toList ms from kJa r2) hu ⟨.bl _,G,H,.refl H,⟨σ,I,hs,hg⟩,⟨.bl _,rfl,rfl⟩,q⟩
def rLeI:R3:=rI0 fun i j=> .bl (decide (i<=j))
def rLeA:R3:=fun x y G Q=>rLeI x y G Q\/rLeT x y G Q
theorem o_leA (hu:X.A.units+20<cLine):Op3 X (compareOp .LtE) rLeA:=o_le.or (o_leT (by omega))
theorem qJl {G:Gp} {x y:T} {b:Bool} (h:eqG G x y=some b):
  (∃p q xs ys,x= .ref p/\y= .ref q/\G p=some (.lst xs)/\G q=some (.lst ys)/\kKb xs=true/\kKb ys=true/\b=eqTs xs ys)\/(eqOk x=true/\eqOk y=true/\b=eqT x y):=by
 by_cases hr:∃p q,x= .ref p/\y= .ref q
 ·obtain⟨p,q,ex,ey⟩:=hr
  subst ex;subst ey
  refine .inl ?_
  simp only[eqG] at h
  split at h
  ·rename_i xs ys h1 h2
   split at h
   ·rename_i hc
    cases h
    exact⟨p,q,xs,ys,rfl,rfl,h1,h2,hc.1,hc.2,rfl⟩
   ·cases h
  ·cases h
 ·refine .inr ?_
  have e:eqG G x y=if eqOk x=true/\eqOk y=true then some (eqT x y) else none:=by
   cases x with
   | ref p=>cases y with
    | ref q=>exact absurd ⟨p,q,rfl,rfl⟩ hr
    | _=>rfl
   | _=>rfl
  rw[e] at h
  split at h
  ·rename_i hc
   cases h
   exact⟨hc.1,hc.2,rfl⟩
  ·cases h
mutual
theorem kQ2 {X:Cx} {pins:List (Addr×Obj)} {σ:L2.St} {H:Hp} {s:Shared} (I:Inv X pins σ H s):∀(x:T) {a:V} {u:Value},tree x=true->Rep X.K H x a->RelV a u->∃as,Reads s.heap u (td x) as
 | .non,a,u,_,r,q=>by cases (show a= .non from r);cases q;exact⟨_,.none⟩
 | .bl b,a,u,_,r,q=>by cases (show a= .bl b from r);cases q;exact⟨_,.bool b⟩
 | .int b,a,u,_,r,q=>by cases (show a= .int b from r);obtain⟨t,rfl⟩:=q;exact⟨_,.int b t⟩
 | .str b,a,u,_,r,q=>by cases (show a= .str b from r);obtain⟨t,rfl⟩:=q;exact⟨_,.str b t⟩
 | .tup xs,a,u,ht,r,q=>by
  obtain⟨p,vs,e1,h1,h2⟩:=(show ∃p vs,a= .ref p/\H p=some (.tup vs)/\Reps X.K H xs vs from r)
  subst e1;cases q
  obtain⟨its,rv,⟨o,ho,hc,n,hd⟩,_⟩:=I.tuple (.of h1)
  obtain⟨as,ra⟩:=jX5 I xs (show jK3 xs=true from ht) h2 rv
  exact⟨_,.tuple ho hc hd (by simpa using ra)⟩
 | .ref _,_,_,ht,_,_=>absurd (show false=true from ht) lJv
 | .scr _,_,_,ht,_,_=>absurd (show false=true from ht) lJv
 | .ty _,_,_,ht,_,_=>absurd (show false=true from ht) lJv
theorem jX5 {X:Cx} {pins:List (Addr×Obj)} {σ:L2.St} {H:Hp} {s:Shared} (I:Inv X pins σ H s):∀(xs:List T) {vs:List V} {us:List Value},jK3 xs=true->Reps X.K H xs vs->Vals vs us->∃as,ReadsAll s.heap us (tds xs) as
 | [],_,_,_,r,q=>by cases r;cases q;exact⟨_,.nil⟩
 | x::xs,_,_,ht,⟨v,ws,e,r1,r2⟩,q=>by
  subst e
  cases q with
  | cons q1 q2=>
   have hx:tree x=true/\jK3 xs=true:=by simpa[jK3] using ht
   obtain⟨as,ra⟩:=kQ2 I x hx.1 r1 q1
   obtain⟨bs,rb⟩:=jX5 I xs hx.2 r2 q2
   exact⟨_,.cons ra rb⟩
end
mutual
theorem eqv_T:∀(x y:T),tree x=true->tree y=true->PyData.eqv (td x) (td y)=eqT x y
 | .non,y,_,hy=>by cases y<;>first | rfl | exact absurd (show false=true from hy) lJv
 | .bl b,y,_,hy=>by cases y<;>first | rfl | exact absurd (show false=true from hy) lJv
 | .int b,y,_,hy=>by cases y<;>first | rfl | exact absurd (show false=true from hy) lJv
 | .str b,y,_,hy=>by cases y<;>first | rfl | exact absurd (show false=true from hy) lJv
 | .tup xs,y,hx,hy=>by
  cases y with
  | tup ys=>exact qJh xs ys (show jK3 xs=true from hx) (show jK3 ys=true from hy)
  | _=>first | rfl | exact absurd (show false=true from hy) lJv
 | .ref _,_,ht,_=>absurd (show false=true from ht) lJv
 | .scr _,_,ht,_=>absurd (show false=true from ht) lJv
 | .ty _,_,ht,_=>absurd (show false=true from ht) lJv
theorem qJh:∀(xs ys:List T),jK3 xs=true->jK3 ys=true->PyData.eqvAll (tds xs) (tds ys)=eqTs xs ys
 | [],[],_,_=>rfl
 | [],_::_,_,_=>rfl
 | _::_,[],_,_=>rfl
 | x::xs,y::ys,hx,hy=>by
  have hx':tree x=true/\jK3 xs=true:=by simpa[jK3] using hx
  have hy':tree y=true/\jK3 ys=true:=by simpa[jK3] using hy
  show (PyData.eqv (td x) (td y)&&PyData.eqvAll (tds xs) (tds ys))=(eqT x y&&eqTs xs ys)
  rw[eqv_T x y hx'.1 hy'.1,qJh xs ys hx'.2 hy'.2]
end
theorem kVx {pins:List (Addr×Obj)} {σ:L2.St} {H:Hp} {s:Shared} {G:Gp} {x y:T} {a b:V} {u v:Value} {k:Bool} (I:Inv X pins σ H s) (hg:GRel X.K H G) (ra:Rep X.K H x a) (rb:Rep X.K H y b) (ru:RelV a u) (rv:RelV b v) (h:eqG G x y=some k):
  ∃da db as bs,Reads s.heap u da as/\Reads s.heap v db bs/\da.canLay0=true/\db.canLay0=true/\da.depth<=50/\PyData.eqv da db=k:=by
 rcases qJl h with ⟨p,q,xs,ys,ex,ey,hp,hq,ox,oy,e⟩ | ⟨ox,oy,e⟩
 ·subst ex;subst ey
  cases (show a= .ref p from ra);cases (show b= .ref q from rb)
  cases ru;cases rv
  obtain⟨vs,h1,h2⟩:=hg.lst hp
  obtain⟨ws,h3,h4⟩:=hg.lst hq
  obtain⟨its,r1,⟨o,n,ho,hc,_,hd⟩,_⟩:=I.list (.of h1)
  obtain⟨its',r2,⟨o',n',ho',hc',_,hd'⟩,_⟩:=I.list (.of h3)
  simp only[kKb,lK2,lQg] at ox oy
  obtain⟨as,r3⟩:=jX5 I xs ox.1.1 h2 r1
  obtain⟨bs,r4⟩:=jX5 I ys oy.1.1 h4 r2
  exact⟨.list (tds xs),.list (tds ys),_,_,.list ho hc hd (by simpa using r3),.list ho' hc' hd' (by simpa using r4),ox.1.2,oy.1.2,ox.2,by rw[e];exact qJh xs ys ox.1.1 oy.1.1⟩
 ·simp only[eqOk,lK2,lQg] at ox oy
  obtain⟨as,r3⟩:=kQ2 I x ox.1.1 ra ru
  obtain⟨bs,r4⟩:=kQ2 I y oy.1.1 rb rv
  exact⟨td x,td y,_,_,r3,r4,ox.1.2,oy.1.2,ox.2,by rw[e];exact eqv_T x y ox.1.1 oy.1.1⟩
theorem kKx (hu:X.A.units+64<cLine):Op3 X (compareOp .Eq) rEqA:=by
 rintro pins s τ G H x y v u Q ⟨σ,I,hs,hg⟩ ⟨a,ra,rv⟩ ⟨b,rb,ru⟩ ⟨k,hk,q⟩
 obtain⟨da,db,as,bs,r1,r2,c1,c2,d,e⟩:=kVx I hg ra rb rv ru hk
 exact SeqAt.compareEq_reads r1 r2 c1 c2 (by omega) ⟨.bl k,G,H,.refl H,⟨σ,I,hs,hg⟩,⟨.bl k,rfl,by rw[e];rfl⟩,q⟩
theorem qV6 (hu:X.A.units+64<cLine):Op3 X (compareOp .NotEq) rNeA:=by
 rintro pins s τ G H x y v u Q ⟨σ,I,hs,hg⟩ ⟨a,ra,rv⟩ ⟨b,rb,ru⟩ ⟨k,hk,q⟩
 obtain⟨da,db,as,bs,r1,r2,c1,c2,d,e⟩:=kVx I hg ra rb rv ru hk
 exact SeqAt.compareNe_reads r1 r2 c1 c2 (by omega) ⟨.bl (!k),G,H,.refl H,⟨σ,I,hs,hg⟩,⟨.bl (!k),rfl,by rw[e];rfl⟩,q⟩
end
section
variable {X:Cx}
def jVp:T->Bool
 | .non=>true
 | .bl _=>true
 | .int _=>true
 | .str _=>true
 | _=>false
theorem jYc {K:PySem.W.Frag} {H:Hp} {x:T} {a:V} (r:Rep K H x a) (f:jVp x=true):jZu a=true:=by
 cases x with
 | non=>cases (show a= .non from r);rfl
 | bl _=>cases (show a= .bl _ from r);rfl
 | int _=>cases (show a= .int _ from r);rfl
 | str _=>cases (show a= .str _ from r);rfl
 | _=>exact absurd (show false=true from f) lJv
theorem qJd {K:PySem.W.Frag} {H:Hp} {x y:T} {a b:V} (r:Rep K H x a) (q:Rep K H y b) (f:jVp x=true) (g:jVp y=true):eqV a b=eqT x y:=by
 cases x with
 | non=>cases (show a= .non from r);cases y with
  | non=>cases (show b= .non from q);rfl
  | bl _=>cases (show b= .bl _ from q);rfl
  | int _=>cases (show b= .int _ from q);rfl
  | str _=>cases (show b= .str _ from q);rfl
  | _=>exact absurd (show false=true from g) lJv
 | bl _=>cases (show a= .bl _ from r);cases y with
  | non=>cases (show b= .non from q);rfl
  | bl _=>cases (show b= .bl _ from q);rfl
  | int _=>cases (show b= .int _ from q);rfl
  | str _=>cases (show b= .str _ from q);rfl
  | _=>exact absurd (show false=true from g) lJv
 | int _=>cases (show a= .int _ from r);cases y with
  | non=>cases (show b= .non from q);rfl
  | bl _=>cases (show b= .bl _ from q);rfl
  | int _=>cases (show b= .int _ from q);rfl
  | str _=>cases (show b= .str _ from q);rfl
  | _=>exact absurd (show false=true from g) lJv
 | str _=>cases (show a= .str _ from r);cases y with
  | non=>cases (show b= .non from q);rfl
  | bl _=>cases (show b= .bl _ from q);rfl
  | int _=>cases (show b= .int _ from q);rfl
  | str _=>cases (show b= .str _ from q);rfl
  | _=>exact absurd (show false=true from g) lJv
 | _=>exact absurd (show false=true from f) lJv
def inT (x:T) (xs:List T):Bool:=xs.any fun y=>eqT y x
theorem kJ8 {K:PySem.W.Frag} {H:Hp} {x:T} {a:V} (r:Rep K H x a) (f:jVp x=true):∀ {xs:List T} {vs:List V},Reps K H xs vs->xs.all jVp=true->vs.all jZu=true/\inV a vs=inT x xs
 | [],_,h,_=>by cases h;exact⟨rfl,rfl⟩
 | y::ys,_,⟨v,ws,e,r1,r2⟩,g=>by
  subst e
  rw[lQv,lK2] at g
  obtain⟨h1,h2⟩:=kJ8 r f r2 g.2
  refine⟨by rw[lQv,jYc r1 g.1,h1];rfl,?_⟩
  unfold inV inT at h2 ⊢
  rw[lKv,lKv,qJd r1 r g.1 f,h2]
def rInF (neg:Bool):R3:=fun x y G Q=>∃xs,seqT G y=some xs/\jVp x=true/\xs.all jVp=true/\Q (.bl (if neg then !inT x xs else inT x xs)) G
theorem qXt {neg:Bool} {op:CmpOp} (h:OpR X (compareOp op) (L2.rIn X.K neg)):Op3 X (compareOp op) (rInF neg):=
 Op3.of h fun H G x y a b Q hg ra rb ⟨xs,hx,fx,fs,q⟩=>by
  obtain⟨p,vs,e,hq,r⟩:=jQ3 hg rb hx
  obtain⟨h1,h2⟩:=kJ8 ra fx r fs
  exact⟨p,vs,e,hq,jYc ra fx,h1,.bl _,G,.refl H,hg,by rw[h2];rfl,q⟩
theorem o_notInF:Op3 X (compareOp .NotIn) (rInF true):=qXt kKt
def jXz:T->Option Key
 | .int i=>some (.inl i)
 | .str x=>some (.inr x)
 | _=>none
def allK {K:Type} (f:T->Option K):List T->Option (List K)
 | []=>some []
 | x::xs=>match f x,allK f xs with
  | some k,some ks=>some (k::ks)
  | _,_=>none
def key1:T->Option K1
 | .tup ts=>(allK jXz ts).map .inr
 | x=>(jXz x).map .inl
def key2:T->Option K2
 | .tup ts=>(allK key1 ts).map .inr
 | x=>(jXz x).map .inl
def jUj:List T->Option TKey:=allK key2
theorem jZb {K:PySem.W.Frag} {H:Hp} {x:T} {a:V} {k:Key} (h:jXz x=some k) (r:Rep K H x a):a=kV k:=by
 cases x with
 | int i=>cases h;exact r
 | str i=>cases h;exact r
 | non=>cases h
 | bl _=>cases h
 | tup _=>cases h
 | scr _=>cases h
 | ref _=>cases h
 | ty _=>cases h
theorem jYh {K:PySem.W.Frag} {H:Hp} {κ:Type} {f:T->Option κ} {R:κ->V->Prop} (hf:∀x k a,f x=some k->Rep K H x a->R k a):∀ {xs:List T} {vs:List V} {ks:List κ},allK f xs=some ks->Reps K H xs vs->Paired R ks vs
 | [],_,_,h,r=>by cases h;cases (show _=[] from r);exact .nil
 | x::xs,_,ks,h,⟨v,ws,e,r1,r2⟩=>by
  subst e
  unfold allK at h
  cases e1:f x with
  | none=>rw[e1] at h;cases h
  | some k=>
   cases e2:allK f xs with
   | none=>rw[e1,e2] at h;cases h
   | some ks'=>
    rw[e1,e2] at h;cases h
    exact .cons (hf _ _ _ e1 r1) (jYh hf e2 r2)
theorem qQs {K:PySem.W.Frag} {H:Hp} (x:T) (k:K1) (a:V) (h:key1 x=some k) (r:Rep K H x a):Rk1 H k a:=by
 cases x with
 | tup ts=>
  obtain⟨ks,h1,rfl⟩:=lVf.mp (show (allK jXz ts).map Sum.inr=some k from h)
  obtain⟨p,vs,e,h3,h4⟩:=(show ∃p vs,a= .ref p/\H p=some (.tup vs)/\Reps K H ts vs from r)
  exact⟨p,vs,e,h3,jYh (fun x k a h r=>jZb h r) h1 h4⟩
 | int i=>cases h;exact r
 | str i=>cases h;exact r
 | non=>cases h
 | bl _=>cases h
 | scr _=>cases h
 | ref _=>cases h
 | ty _=>cases h
theorem qQr {K:PySem.W.Frag} {H:Hp} (x:T) (k:K2) (a:V) (h:key2 x=some k) (r:Rep K H x a):Rk2 H k a:=by
 cases x with
 | tup ts=>
  obtain⟨ks,h1,rfl⟩:=lVf.mp (show (allK key1 ts).map Sum.inr=some k from h)
  obtain⟨p,vs,e,h3,h4⟩:=(show ∃p vs,a= .ref p/\H p=some (.tup vs)/\Reps K H ts vs from r)
  exact⟨p,vs,e,h3,jYh qQs h1 h4⟩
 | int i=>cases h;exact r
 | str i=>cases h;exact r
 | non=>cases h
 | bl _=>cases h
 | scr _=>cases h
 | ref _=>cases h
 | ty _=>cases h
theorem jQg {K:PySem.W.Frag} {H:Hp} {xs:List T} {vs:List V} {ks:TKey} {p:Addr} (h:jUj xs=some ks) (e:H p=some (.tup vs)) (r:Reps K H xs vs):TKeyAt H ks p:=⟨vs,e,jYh qQr h r⟩
def valT {κ:Type} [DecidableEq κ] (kvs:List (κ×T)) (k:κ):Option T:=(kvs.find? fun kv=>decide (kv.1=k)).map (·.2)
noncomputable def putT {κ:Type} [DecidableEq κ] (kvs:List (κ×T)) (k:κ) (v:T):List (κ×T):=
 if (kvs.any fun kv=>decide (kv.1=k))=true then kvs.map (fun kv=>if kv.1=k then (kv.1,v) else kv) else kvs++[(k,v)]
theorem PKV.val {κ:Type} [DecidableEq κ] {K:PySem.W.Frag} {H:Hp} {kvs:List (κ×T)} {ws:List (κ×V)} (r:PKV K H kvs ws) (k:κ):(∀t,valT kvs k=some t->∃v,valV ws k=some v/\Rep K H t v)/\(valT kvs k).isSome=(valV ws k).isSome:=by
 unfold PKV at r
 induction r with
 | nil=>exact⟨fun t h=>by simp[valT] at h,rfl⟩
 | @cons p q ps qs h t ih=>
  by_cases e:p.1=k
  ·have e':q.1=k:=h.1.symm.trans e
   have b:valT (p::ps) k=some p.2:=by simp[valT,lQc,e]
   rw[b,jX1 e']
   exact⟨fun t ht=>by cases ht;exact⟨q.2,rfl,h.2⟩,rfl⟩
  ·have e':¬ q.1=k:=fun z=>e (h.1.trans z)
   have b:valT (p::ps) k=valT ps k:=by simp[valT,lQc,e]
   rw[b,jX2 e']
   exact ih
theorem PKV.any {κ:Type} [DecidableEq κ] {K:PySem.W.Frag} {H:Hp} {kvs:List (κ×T)} {ws:List (κ×V)} (r:PKV K H kvs ws) (k:κ):(kvs.any fun kv=>decide (kv.1=k))=ws.any fun kv=>decide (kv.1=k):=by
 unfold PKV at r
 induction r with
 | nil=>rfl
 | cons h t ih=>rw[lKv,lKv,ih,h.1]
theorem PKV.put {κ:Type} [DecidableEq κ] {K:PySem.W.Frag} {H:Hp} {kvs:List (κ×T)} {ws:List (κ×V)} (r:PKV K H kvs ws) (k:κ) {t:T} {v:V} (rt:Rep K H t v):PKV K H (putT kvs k t) (putK ws k v):=by
 unfold putT putK
 rw[r.any k]
 by_cases e:(ws.any fun kv=>decide (kv.1=k))=true
 ·rw[lJc e,lJc e]
  unfold PKV at r ⊢
  clear e
  induction r with
  | nil=>exact .nil
  | @cons p q ps qs h t' ih=>
   rw[lJo,lJo]
   refine .cons ?_ ih
   obtain⟨h1,h2⟩:=h
   by_cases e:p.1=k
   ·rw[lJc e,lJc (h1.symm.trans e)];exact⟨h1,rt⟩
   ·rw[lJb e,lJb (fun z=>e (h1.trans z))];exact⟨h1,h2⟩
 ·rw[lJb e,lJb e];exact Paired.snoc r ⟨rfl,rt⟩
theorem PKV.length {κ:Type} {K:PySem.W.Frag} {H:Hp} {kvs:List (κ×T)} {ws:List (κ×V)} (r:PKV K H kvs ws):kvs.length=ws.length:=lQ2 r
noncomputable def dAt (G:Gp) (x y:T):Option (Option T):=match x with
 | .ref p=>match G p with
  | some (.dct kvs)=>match y with
   | .tup ys=>match jUj ys with
    | some ks=>some (valT kvs ks)
    | none=>none
   | _=>none
  | some (.dck kvs)=>match jXz y with
   | some k=>some (valT kvs k)
   | none=>none
  | some (.fdc kvs)=>match y with
   | .tup ys=>match jUj ys with
    | some ks=>some (valT kvs ks)
    | none=>none
   | _=>none
  | _=>none
 | _=>none
theorem qJv {K:PySem.W.Frag} {H:Hp} {G:Gp} {x y:T} {a b:V} {o:Option T} (hg:GRel K H G) (ra:Rep K H x a) (rb:Rep K H y b) (h:dAt G x y=some o):
  ∃p ov,a= .ref p/\DGet H p b ov/\o.isSome=ov.isSome/\∀t,o=some t->∃v,ov=some v/\Rep K H t v:=by
 unfold dAt at h
 split at h
 ·rename_i p
  cases (show a= .ref p from ra)
  split at h
  ·rename_i kvs hG
   split at h
   ·rename_i ys
    split at h
    ·rename_i ks hk
     cases h
     obtain⟨ws,h1,h2⟩:=hg p _ hG
     obtain⟨q,vs,e,h3,h4⟩:=(show ∃q vs,b= .ref q/\H q=some (.tup vs)/\Reps K H ys vs from rb)
     subst e
     exact⟨p,_,rfl,DGet.t h1 (jQg hk h3 h4),(h2.val ks).2,(h2.val ks).1⟩
    ·cases h
   ·cases h
  ·rename_i kvs hG
   split at h
   ·rename_i k hk
    cases h
    obtain⟨ws,h1,h2⟩:=hg p _ hG
    rw[jZb hk rb]
    exact⟨p,_,rfl,DGet.k h1,(h2.val k).2,(h2.val k).1⟩
   ·cases h
  ·rename_i kvs hG
   split at h
   ·rename_i ys
    split at h
    ·rename_i ks hk
     cases h
     obtain⟨ob,ws,h1,h2⟩:=(show ∃ob ws,H p=some (.frz ob (.dT ws))/\PKV K H kvs ws from hg p _ hG)
     obtain⟨q,vs,e,h3,h4⟩:=(show ∃q vs,b= .ref q/\H q=some (.tup vs)/\Reps K H ys vs from rb)
     subst e
     exact⟨p,_,rfl,.inr ⟨ws,ks,q,.inr ⟨ob,h1⟩,rfl,jQg hk h3 h4,rfl⟩,(h2.val ks).2,(h2.val ks).1⟩
    ·cases h
   ·cases h
  ·cases h
 ·cases h
def rDGet:R3:=fun x y G Q=>∃t,dAt G x y=some (some t)/\Q t G
theorem qXk (hu:X.A.units+20<cLine):Ix3 X rDGet:=by
 rintro value slice pins s τ G H x y v u Q ⟨σ,I,hs,hg⟩ ⟨a,ra,rv⟩ ⟨b,rb,ru⟩ ⟨t,hd,q⟩ hsl
 obtain⟨p,ov,e,g,_,hh⟩:=qJv hg ra rb hd
 obtain⟨w,ew,rw'⟩:=hh t rfl
 subst e;subst ew
 cases rv
 have hT:s.TypeIs (.ref p) "dict":=kUo I g
 unfold subscriptTail
 refine lJa ?_
 rw[getitemInPython_of_ne hT.not_modules]
 refine lJa (wpAny_specialOf hT PySem.F.slot_dict_getitem.lookup ?_)
 have fin:wpAny (model X.prog X.w) X.A (subscripted slice false (.ref p) u) (fun r s₃=>wpAny (model X.prog X.w) X.A (letTemporaryGo value (.ref p) r >>= fun _=>pure r) (EP3 X pins τ H Q) X.xe s₃) X.xe s:=by
  rw[hsl]
  exact wpAny_operating (qJu hu I g ru fun w' s' I' r'=>lJa (wpAny_letTemporaryGo (lJd ⟨t,G,H,.refl H,⟨σ,I',hs,hg⟩,⟨w,rw',r'⟩,q⟩)))
 first
  | exact lJd (lJa fin)
  | exact lJa (lJd (lJa fin))
  | exact lJa fin
theorem Ix3.or {r r':R3} (h:Ix3 X r) (h':Ix3 X r'):Ix3 X (fun x y G Q=>r x y G Q\/r' x y G Q):=by
 intro value slice pins s τ G H x y v u Q I rx ry q hs
 rcases q with q | q
 ·exact h value slice pins s τ G H x y v u Q I rx ry q hs
 ·exact h' value slice pins s τ G H x y v u Q I rx ry q hs
def rIxA:R3:=fun x y G Q=>rIx x y G Q\/rDGet x y G Q
theorem qXl (hu:X.A.units+20<cLine):Ix3 X rIxA:=ix_any.or (qXk hu)
def kYv:R3:=fun x y G Q=>∃o,dAt G y x=some o/\Q (.bl (!o.isSome)) G
theorem qQe (hu:X.A.units+20<cLine):Op3 X (compareOp .NotIn) kYv:=by
 rintro pins s τ G H x y v u Q ⟨σ,I,hs,hg⟩ ⟨a,ra,rv⟩ ⟨b,rb,ru⟩ ⟨o,hd,q⟩
 obtain⟨p,ov,e,g,e2,_⟩:=qJv hg rb ra hd
 subst e;cases ru
 exact qYf hu I g rv fun s' I'=>⟨.bl _,G,H,.refl H,⟨σ,I',hs,hg⟩,⟨.bl _,rfl,by rw[<-e2];rfl⟩,q⟩
def kYs:R3:=fun x y G Q=>rInF true x y G Q\/kYv x y G Q
theorem qV5 (hu:X.A.units+20<cLine):Op3 X (compareOp .NotIn) kYs:=o_notInF.or (qQe hu)
noncomputable def qUx:T->T->T->Gp->(Gp->Prop)->Prop:=fun o i v G Q=>∃p ys ks kvs,o= .ref p/\i= .tup ys/\jUj ys=some ks/\G p=some (.dct kvs)/\kvs.length<sizeLine/\Q (gup G p (.dct (putT kvs ks v)))
def qUy:T->T->T->Gp->(Gp->Prop)->Prop:=fun o i v G Q=>∃p k kvs,o= .ref p/\jXz i=some k/\G p=some (.dck kvs)/\kvs.length<sizeLine/\Q (gup G p (.dck (putT kvs k v)))
theorem qVr (hu:X.A.units+20<cLine):Set3 X qUx:=by
 rintro pins s τ G H o i v ov iv u Q ⟨σ,I,hs,hg⟩ ⟨a,ra,rv⟩ ⟨b,rb,ru⟩ ⟨c,rc,rw'⟩ ⟨p,ys,ks,kvs,eo,ei,hk,hG,hz,q⟩
 subst eo;subst ei
 cases (show a= .ref p from ra);cases rv
 obtain⟨ws,h1,h2⟩:=hg p _ hG
 obtain⟨b',vs,e,h3,h4⟩:=(show ∃q vs,b= .ref q/\H q=some (.tup vs)/\Reps X.K H ys vs from rb)
 subst e
 have h3:=jQg hk h3 h4
 have e:Ext H (upd H p (.dT (putK ws ks c))):= .upd (.dT h1)
 exact kQc hu I (DPut.t h1 h3 (by rw[<-h2.length];exact hz)) ru rw' fun s' I'=>⟨_,_,e,⟨σ,I',hs.mono e,hg.upd (.dT h1) (go:= .dct (putT kvs ks v)) ⟨_,jJ3,(h2.put ks rc).mono e⟩⟩,q⟩
theorem qVs (hu:X.A.units+20<cLine):Set3 X qUy:=by
 rintro pins s τ G H o i v ov iv u Q ⟨σ,I,hs,hg⟩ ⟨a,ra,rv⟩ ⟨b,rb,ru⟩ ⟨c,rc,rw'⟩ ⟨p,k,kvs,eo,hk,hG,hz,q⟩
 subst eo
 cases (show a= .ref p from ra);cases rv
 obtain⟨ws,h1,h2⟩:=hg p _ hG
 have eb:=jZb hk rb
 subst eb
 have e:Ext H (upd H p (.dK (putK ws k c))):= .upd (.dK h1)
 exact kQc hu I (DPut.k h1 (by rw[<-h2.length];exact hz)) ru rw' fun s' I'=>⟨_,_,e,⟨σ,I',hs.mono e,hg.upd (.dK h1) (go:= .dck (putT kvs k v)) ⟨_,jJ3,(h2.put k rc).mono e⟩⟩,q⟩
theorem Set3.or {r r':T->T->T->Gp->(Gp->Prop)->Prop} (h:Set3 X r) (h':Set3 X r'):Set3 X (fun o i v G Q=>r o i v G Q\/r' o i v G Q):=by
 intro pins s τ G H o i v ov iv u Q I ro ri rv q
 rcases q with q | q
 ·exact h pins s τ G H o i v ov iv u Q I ro ri rv q
 ·exact h' pins s τ G H o i v ov iv u Q I ro ri rv q
def rSetA:T->T->T->Gp->(Gp->Prop)->Prop:=fun o i v G Q=>qK7 o i v G Q\/qUx o i v G Q\/qUy o i v G Q
theorem s_any (hu:X.A.units+20<cLine):Set3 X rSetA:=s_list.or ((qVr hu).or (qVs hu))
end
noncomputable def jV8 (G:Gp):T->Option String
 | .non=>some "NoneType"
 | .bl _=>some "bool"
 | .int _=>some "int"
 | .str _=>some "str"
 | .tup _=>some "tuple"
 | .scr _=>some "list"
 | .ref p=>match G p with
  | some (.lst _)=>some "list"
  | some (.dct _)=>some "dict"
  | some (.dck _)=>some "dict"
  | some (.fdc _)=>none
  | some (.ins _ _)=>none
  | some (.exc _)=>none
  | some (.tbs _)=>none
  | some (.fn _ _)=>none
  | some (.cel _)=>none
  | none=>none
 | .ty _=>none
def subT (t n:String):Option Bool:=
 if n="bool"\/n="int"\/n="str"\/n="list"\/n="tuple" then some (t == n||(t == "bool"&&n == "int")) else none
theorem qQq (K:PySem.W.Frag) {n:String} {b:Bool} (h:subT "bool" n=some b):PySem.W.kitOne K (.type "bool") (.type n)=some b:=by
 unfold subT at h
 split at h
 ·rename_i hn
  rcases hn with rfl | rfl | rfl | rfl | rfl<;>(cases h;kernel_rfl)
 ·cases h
theorem qQp (K:PySem.W.Frag) {n:String} {b:Bool} (h:subT "NoneType" n=some b):PySem.W.kitOne K (.type "NoneType") (.type n)=some b:=by
 unfold subT at h
 split at h
 ·rename_i hn
  rcases hn with rfl | rfl | rfl | rfl | rfl<;>(cases h;kernel_rfl)
 ·cases h
theorem qXh (K:PySem.W.Frag) {n:String} {b:Bool} (h:subT "int" n=some b):PySem.W.kitOne K (.type "int") (.type n)=some b:=by
 unfold subT at h
 split at h
 ·rename_i hn
  rcases hn with rfl | rfl | rfl | rfl | rfl<;>(cases h;kernel_rfl)
 ·cases h
theorem qXg (K:PySem.W.Frag) {n:String} {b:Bool} (h:subT "str" n=some b):PySem.W.kitOne K (.type "str") (.type n)=some b:=by
 unfold subT at h
 split at h
 ·rename_i hn
  rcases hn with rfl | rfl | rfl | rfl | rfl<;>(cases h;kernel_rfl)
 ·cases h
theorem kZs (K:PySem.W.Frag) {n:String} {b:Bool} (h:subT "tuple" n=some b):PySem.W.kitOne K (.type "tuple") (.type n)=some b:=by
 unfold subT at h
 split at h
 ·rename_i hn
  rcases hn with rfl | rfl | rfl | rfl | rfl<;>(cases h;kernel_rfl)
 ·cases h
theorem kVk (K:PySem.W.Frag) {n:String} {b:Bool} (h:subT "list" n=some b):PySem.W.kitOne K (.type "list") (.type n)=some b:=by
 unfold subT at h
 split at h
 ·rename_i hn
  rcases hn with rfl | rfl | rfl | rfl | rfl<;>(cases h;kernel_rfl)
 ·cases h
theorem kVl (K:PySem.W.Frag) {n:String} {b:Bool} (h:subT "dict" n=some b):PySem.W.kitOne K (.type "dict") (.type n)=some b:=by
 unfold subT at h
 split at h
 ·rename_i hn
  rcases hn with rfl | rfl | rfl | rfl | rfl<;>(cases h;kernel_rfl)
 ·cases h
section
variable {X:Cx}
theorem e_ty {x:Str} {n:String} {pos:Pos} (hg:Gl X x) (hm:X.mg x=none) (hv:bootBuiltins x=some (.type n)) (hn:x≠"__name__":=by decide) (hd:(x == ("__debug__":Str))=false:=by decide):PE3 X (.Name x pos) (tC (.ty n)):=
 fun pins s τ G H Q ⟨σ,I,hs,hg'⟩ q=>thn (qVy (v:= .ty n) hg hm hv rfl hn hd pins s σ H (up X.K H Q) I ⟨.ty n,G,.refl H,hg',rfl,q⟩) fun u s' h=>jV0 hs h
def kitT (t:String):List T->Option Bool
 | []=>some false
 | .ty n::r=>match subT t n with
  | some true=>some true
  | some false=>kitT t r
  | none=>none
 | _::_=>none
def isiC:Option String->T->Option Bool
 | some t,.ty n=>subT t n
 | some t,.tup cs=>kitT t cs
 | _,_=>none
def isiT (G:Gp) (x c:T):Option Bool:=isiC (jV8 G x) c
def rIsi:List T->Gp->VK3->Prop:=fun xs G Q=>∃x c b,xs=[x,c]/\isiT G x c=some b/\Q (.bl b) G
theorem kZt {K:PySem.W.Frag} {H:Hp} {t:String} (ok:∀n b,subT t n=some b->PySem.W.kitOne K (.type t) (.type n)=some b):∀ {cs:List T} {vs:List V} {us:List Value} {b:Bool},Reps K H cs vs->Vals vs us->kitT t cs=some b->PySem.W.kitAny K (.type t) us=some b
 | [],_,_,_,r,q,h=>by cases r;cases q;exact h
 | c::cs,_,_,b,⟨v,ws,e,r1,r2⟩,q,h=>by
  subst e
  cases q with
  | cons q1 q2=>
   cases c with
   | ty n=>
    cases (show v= .ty n from r1)
    cases q1
    unfold kitT at h
    unfold PySem.W.kitAny
    cases e:subT t n with
    | none=>rw[e] at h;cases h
    | some k=>
     rw[e] at h
     rw[ok n k e]
     cases k with
     | true=>exact h
     | false=>exact kZt ok r2 q2 h
   | _=>cases h
theorem jK8 {pins:List (Addr×Obj)} {τ:St3} {G:Gp} {H:Hp} {s:Shared} {σ:L2.St} {c:T} {cv:V} {u cu:Value} {t:String} {b:Bool} {Q:VK3} {Hh:Heap->Prop} (I:Inv X pins σ H s) (hs:SRel X.K H σ τ) (hg:GRel X.K H G)
  (Z:PySem.W.KitX X.K u (.type t) Hh) (p:Hh s.heap) (hx:u≠ .builtin "__main__.__loader__#opaque") (ok:∀n b,subT t n=some b->PySem.W.kitOne X.K (.type t) (.type n)=some b)
  (rc:Rep X.K H c cv) (ru:RelV cv cu) (h:isiC (some t) c=some b) (q:Q (.bl b) G):
  wpAny (model X.prog X.w) X.A (call (.builtin "isinstance") [u,cu]) (EP3 X pins τ H Q) X.xe s:=by
 have fin:∀tk,EP3 X pins τ H Q (.bool b) {s with toks:=tk}:=fun tk=>⟨.bl b,G,H,.refl H,⟨σ,I.tok tk,hs,hg⟩,⟨.bl b,rfl,rfl⟩,q⟩
 cases c with
 | ty n=>
  cases (show cv= .ty n from rc);cases ru
  exact PySem.W.kia_one Z I.kIn p (ok n b h) hx fin
 | tup cs=>
  obtain⟨pp,vs,e,h1,h2⟩:=(show ∃p vs,cv= .ref p/\H p=some (.tup vs)/\Reps X.K H cs vs from rc)
  subst e;cases ru
  obtain⟨its,rv,⟨⟨cls,dd,data,sl⟩,ho,hc,n,hd⟩,_⟩:=I.tuple (.of h1)
  simp only at hc hd
  subst hc hd
  exact PySem.W.kia_tup Z I.kIn p ho (kZt ok h2 rv h) hx fin
 | _=>cases h
theorem jZv:Call3 X (.builtin "isinstance") rIsi:=by
 rintro pins s τ G H xs us Q ⟨σ,I,hs,hg⟩ ⟨as,ras,rvs⟩ ⟨x,c,b,e,h,q⟩
 subst e
 obtain⟨a,cv,rfl,ra,rc⟩:=kXf ras
 obtain⟨u,cu,rfl,ru,rcu⟩:=rvs.two
 unfold isiT at h
 cases x with
 | non=>cases (show a= .non from ra);cases ru;exact jK8 I hs hg PySem.W.kitx_none True.intro (fun z=>nomatch z) (fun n b=>qQp _) rc rcu h q
 | bl k=>cases (show a= .bl k from ra);cases ru;exact jK8 I hs hg PySem.W.kitx_bool True.intro (fun z=>nomatch z) (fun n b=>qQq _) rc rcu h q
 | int k=>cases (show a= .int k from ra);obtain⟨t,rfl⟩:=ru;exact jK8 I hs hg PySem.W.kitx_int True.intro (fun z=>nomatch z) (fun n b=>qXh _) rc rcu h q
 | str k=>cases (show a= .str k from ra);obtain⟨t,rfl⟩:=ru;exact jK8 I hs hg PySem.W.kitx_str True.intro (fun z=>nomatch z) (fun n b=>qXg _) rc rcu h q
 | tup ys=>
  obtain⟨p,vs,e,h1,h2⟩:=(show ∃p vs,a= .ref p/\H p=some (.tup vs)/\Reps X.K H ys vs from ra)
  subst e;cases ru
  obtain⟨its,rv,⟨o,ho,hc,_⟩,_⟩:=I.tuple (.of h1)
  exact jK8 I hs hg PySem.W.kitx_tuple ⟨o,ho,hc⟩ (fun z=>nomatch z) (fun n b=>kZs _) rc rcu h q
 | scr ys=>
  obtain⟨p,vs,e,h1,h2⟩:=(show ∃p vs,a= .ref p/\FrL X.K H p vs/\Reps X.K H ys vs from ra)
  subst e;cases ru
  obtain⟨its,rv,⟨o,n,ho,hc,_⟩,_⟩:=I.list h1.sq
  exact jK8 I hs hg PySem.W.kitx_list ⟨o,ho,hc⟩ (fun z=>nomatch z) (fun n b=>kVk _) rc rcu h q
 | ref p=>
  cases (show a= .ref p from ra);cases ru
  cases hG:G p with
  | none=>simp only[jV8,hG] at h;cases h
  | some g=>
   cases g with
   | lst ys=>
    simp only[jV8,hG] at h
    obtain⟨vs,h1,h2⟩:=hg.lst hG
    obtain⟨its,rv,⟨o,n,ho,hc,_⟩,_⟩:=I.list (.of h1)
    exact jK8 I hs hg PySem.W.kitx_list ⟨o,ho,hc⟩ (fun z=>nomatch z) (fun n b=>kVk _) rc rcu h q
   | fdc kvs=>simp only[jV8,hG] at h;cases h
   | ins _ _=>simp only[jV8,hG] at h;cases h
   | exc _=>simp only[jV8,hG] at h;cases h
   | tbs _=>simp only[jV8,hG] at h;cases h
   | fn _ _=>simp only[jV8,hG] at h;cases h
   | cel _=>simp only[jV8,hG] at h;cases h
   | dct kvs=>
    simp only[jV8,hG] at h
    obtain⟨ws,h1,_⟩:=hg p _ hG
    obtain⟨_,_,xs,_,o,es,ep,h3,h4,_⟩:=(show ObjOk X.prog X.w H s.heap p (.dT ws) from I.hok p _ h1)
    exact jK8 I hs hg PySem.W.kitx_dict ⟨o,h3,h4.1⟩ (fun z=>nomatch z) (fun n b=>kVl _) rc rcu h q
   | dck kvs=>
    simp only[jV8,hG] at h
    obtain⟨ws,h1,_⟩:=hg p _ hG
    obtain⟨_,_,vs,_,pp⟩:=(show ObjOk X.prog X.w H s.heap p (.dK ws) from I.hok p _ h1)
    obtain⟨o,es,ep,h3,h4,_⟩:=pp
    exact jK8 I hs hg PySem.W.kitx_dict ⟨o,h3,h4.1⟩ (fun z=>nomatch z) (fun n b=>kVl _) rc rcu h q
 | ty _=>cases h
abbrev TO3:=St3->Gp->(Option Int->Gp->Prop)->Prop
def PO3 (X:Cx) (e:Option Expr) (t:TO3):Prop:=
 ∀(pins:List (Addr×Obj)) (s:Shared) (τ:St3) (G:Gp) (H:Hp) (Q:Option Int->Gp->Prop),Inv3 X pins τ G H s->t τ G Q->
  wpAny (model X.prog X.w) X.A (evalPart e X.env) (fun u s'=>∃o G' H',Ext H H'/\Inv3 X pins τ G' H' s'/\IsPart u o/\Q o G') X.xe s
def jUo:TO3:=fun _ G Q=>Q none G
def jZq (t:TE3):TO3:=fun τ G Q=>t τ G fun x G1=>∃i,x= .int i/\Q (some i) G1
theorem kVc:PO3 X none jUo:=by
 intro pins s τ G H Q I h
 rw[evalPart_none]
 exact lJd ⟨none,G,H,.refl H,I,.none,h⟩
theorem jZ6 {e:Expr} {te:TE3} (h:PE3 X e te):PO3 X (some e) (jZq te):=by
 intro pins s τ G H Q I hw
 rw[evalPart_some]
 refine thn (h pins s τ G H _ I hw) fun u s1 w_=>w_.el fun x G1 H1 e1 I1 r_ ⟨i,ex,q⟩=>r_.el fun v rv ru=> ?_
 subst ex
 cases (show v= .int i from rv)
 obtain⟨t,rfl⟩:=ru
 exact⟨some i,G1,H1,e1,I1,.int i t,q⟩
def Sl3 (X:Cx) (r:T->Option Int->Option Int->Gp->VK3->Prop):Prop:=
 ∀(pins:List (Addr×Obj)) (s:Shared) (τ:St3) (G:Gp) (H:Hp) (x:T) (v vl vu:Value) (lo hi:Option Int) (sl:Addr) (Q:VK3),Inv3 X pins τ G H s->RU X.K H x v->s.heap.IsSliceOf sl vl vu .none->IsPart vl lo->IsPart vu hi->r x lo hi G Q->
  ∃T id,typeLookup (.type T) "__getitem__"=pure (some (.builtin id))/\s.TypeIs v T/\wpAny (model X.prog X.w) X.A (getItem v (.ref sl)) (EP3 X pins τ H Q) X.xe s
def tSl (r:T->Option Int->Option Int->Gp->VK3->Prop) (te:TE3) (tl th:TO3):TE3:=fun τ G Q=>te τ G fun x G1=>tl τ G1 fun l G2=>th τ G2 fun u G3=>r x l u G3 Q
theorem jZg {r:T->Option Int->Option Int->Gp->VK3->Prop} {e:Expr} {te:TE3} {lo hi:Option Expr} {tl th:TO3} {pos p2:Pos} (hr:Sl3 X r) (he:PE3 X e te) (hl:PO3 X lo tl) (hu:PO3 X hi th):PE3 X (.Subscript e (.Slice lo hi none p2) pos) (tSl r te tl th):=by
 intro pins s τ G H Q I h
 refine Subscript_ (thn (he pins s τ G H _ I h) fun v s1 w_=>w_.el fun x G1 H1 e1 I1 r1 q1=> ?_)
 refine wpAny_Slice (thn (hl pins s1 τ G1 H1 _ I1 q1) fun vl s2 ⟨l,G2,H2,e2,I2,pl,q2⟩=>thn (hu pins s2 τ G2 H2 _ I2 q2) fun vu s3 ⟨u,G3,H3,e3,⟨σ,I3,hs3,hg3⟩,pu,q3⟩=> ?_)
 rw[evalPart_none]
 refine lJd ?_
 have I4:Inv X pins σ H3 {s3 with heap:=s3.heap.push {cls:= .type "slice",data:= .fields #[vl,vu,.none]} }:=I3.kept (t':=s3.toks) fun b ob q=>lJl _ q
 obtain⟨T0,id,hT,ht,hg⟩:=hr pins {s3 with heap:=s3.heap.push {cls:= .type "slice",data:= .fields #[vl,vu,.none]} } τ G3 H3 x v vl vu l u s3.heap.objs.size Q ⟨σ,I4,hs3,hg3⟩ ((r1.mono e2).mono e3) (Heap.IsSliceOf.new ..) pl pu q3
 show wpAny (model X.prog X.w) X.A (subscriptTail e (.Slice lo hi none p2) v (.ref s3.heap.objs.size)) (EP3 X pins τ H Q) X.xe {s3 with heap:=s3.heap.push {cls:= .type "slice",data:= .fields #[vl,vu,.none]} }
 exact thn (tail_any (ops:=[.ref s3.heap.objs.size,v]) ht hT hg (by with_unfolding_all rfl)) fun _ _ z=>z.ext ((e1.trans e2).trans e3)
def cutT (xs:List T) (lo hi:Option Int):List T:=(xs.drop (HT.sIx xs.length 0 lo)).take (HT.sIx xs.length xs.length hi-HT.sIx xs.length 0 lo)
noncomputable def rSlA:T->Option Int->Option Int->Gp->VK3->Prop:=fun x lo hi G Q=>
 (∃xs,jKt G x=some xs/\∀p,G p=none->Q (.ref p) (gup G p (.lst (cutT xs lo hi))))\/∃xs,x= .tup xs/\Q (.tup (cutT xs lo hi)) G
end
end L3
namespace HT
open PySem PyProof.Rows
theorem getItem_tuple_whole {prog:Program} {w:World} {A:Around} {E:Value->Shared->Prop} {s:Shared} {t sl:Addr} {items:Array Value} {vl vu:Value} {lo hi:Option Int} {Q:Value->Shared->Prop} (ht:IsTup s.heap t items) (hs:s.heap.IsSliceOf sl vl vu .none) (pl:IsPart vl lo) (pu:IsPart vu hi)
  (hw:sIx items.size 0 lo=0/\sIx items.size items.size hi=items.size) (h:Q (.ref t) s):wpAny (model prog w) A (getItem (.ref t) (.ref sl)) Q E s:=by
 obtain⟨os,hos,hcs,hds⟩:=id hs
 have hTs:s.TypeIs (.ref sl) "slice":=⟨os,hos,hcs⟩
 unfold getItem
 try with_reducible refine lKy ?_
 first | refine lJa (lJd ?_) | skip
 refine lJa (wpAny_sequenceKey ht.typeIs (by decide) ?_)
 refine lJa (lXw (name:=Str.ofString "__getitem__") ht.typeIs lXb
  (lQs lXb ht.typeIs entry_tuple_getitem ?_ (args_tuple_getitem _ _)))
 show wpAny _ _ (Builtin.Tuple.tupleItemsOf (.ref t) >>= _) _ _ s
 refine lJa (tupleItemsOf_ ht ?_)
 refine lJa (lVs hTs ?_)
 rw[lJc (by decide)]
 refine lJa (jUi hs pl pu ?_)
 have hyes:(((sIx items.size 0 lo:Nat):Int) == 0&&(1:Int) == 1&&(sIx items.size items.size hi-sIx items.size 0 lo) == items.size)=true:=by
  rw[hw.1,hw.2];simp
 show wpAny _ _ (if (((sIx items.size 0 lo:Nat):Int) == 0&&(1:Int) == 1&&(sIx items.size items.size hi-sIx items.size 0 lo) == items.size)=true then _ else _) _ _ s
 rw[lJc hyes]
 refine lJa ?_
 unfold Builtin.Tuple.tupleIsExact
 refine lJa (lVs ht.typeIs (lJd ?_))
 rw[lJc (by decide)]
 exact lJa (lK6 (lJd ⟨_,rfl,lJd h⟩))
end HT
namespace L3
open PySem PySem.Spec PyProof.Rows L2
section
variable {X:Cx}
theorem Reps.cut {K:PySem.W.Frag} {H:Hp} {xs:List T} {vs:List V} (r:Reps K H xs vs) (lo hi:Option Int):Reps K H (cutT xs lo hi) (cutV vs lo hi):=by
 unfold cutT cutV
 rw[<-r.length]
 exact (r.drop _).take _
theorem kXx {xs:List T} {lo hi:Option Int} (h:HT.sIx xs.length 0 lo=0/\HT.sIx xs.length xs.length hi=xs.length):cutT xs lo hi=xs:=by
 unfold cutT
 rw[h.1,h.2]
 simp
theorem sl_any:Sl3 X rSlA:=by
 rintro pins s τ G H x v vl vu lo hi sl Q ⟨σ,I,hs,hg⟩ ⟨a,ra,rv⟩ hsl pl pu h
 rcases h with ⟨xs,hx,q⟩ | ⟨xs,ex,q⟩
 ·obtain⟨p,vs,e,hq,r⟩:=jK7 hg ra hx
  subst e
  obtain⟨T0,id,h1,h2,h3⟩:=qVq pins s σ H (.ref p) v vl vu lo hi sl (up X.K H Q) I rv hsl pl pu ⟨p,vs,rfl,hq,fun l hl=>⟨.ref l,_,.upd (.none hl),hg.lstNew (r.cut lo hi) (.none hl),rfl,q l (hg.fresh hl)⟩⟩
  exact⟨T0,id,h1,h2,thn h3 fun _ _ z=>jV0 hs z⟩
 ·subst ex
  obtain⟨p,vs,e,h1,h2⟩:=(show ∃p vs,a= .ref p/\H p=some (.tup vs)/\Reps X.K H xs vs from ra)
  subst e
  by_cases hw:HT.sIx xs.length 0 lo=0/\HT.sIx xs.length xs.length hi=xs.length
  ·cases rv
   obtain⟨its,rv',ht,hz⟩:=I.tuple (.of h1)
   have hlen:its.toArray.size=xs.length:=by rw[lJu,<-rv'.length,h2.length]
   refine⟨"tuple",_,lXb.lookup,ht.typeIs,HT.getItem_tuple_whole ht hsl pl pu (by rw[hlen];exact hw) ?_⟩
   rw[kXx hw] at q
   exact⟨.tup xs,G,H,.refl H,⟨σ,I,hs,hg⟩,⟨.ref p,ra,rfl⟩,q⟩
  ·obtain⟨T0,id,h3,h4,h5⟩:=sl_tup pins s σ H (.ref p) v vl vu lo hi sl (up X.K H Q) I rv hsl pl pu ⟨p,vs,rfl,.of h1,by rw[<-h2.length];exact hw,fun l hl=>⟨.tup (cutT xs lo hi),G,.upd (.none hl),hg.tupNew hl,Rep.tupNew (h2.cut lo hi) hl,q⟩⟩
   exact⟨T0,id,h3,h4,thn h5 fun _ _ z=>jV0 hs z⟩
def jQ2 (ta:TA3):TE3:=fun τ G Q=>ta τ G fun vs G1=>∃j:Int,vs=[.int j]/\ -(2^62)<=j/\j<=2^20/\∀p,G1 p=none->Q (.ref p) (gup G1 p (.lst (rngT 0 j.toNat)))
theorem qK2 {K:PySem.W.Frag} {H:Hp} {n:Nat} {vs:List V} (hl:vs.length=n) (h:∀(i:Nat) v,vs[i]? =some v->v= .int (0+i)):Reps K H (rngT 0 n) vs:=by
 have e:vs=(List.range n).map fun (k:Nat)=>V.int (0+k):=by
  apply lVu
  intro i
  cases hv:vs[i]? with
  | none=>
   have:n<=i:=by rw[<-hl];exact List.getElem?_eq_none_iff.mp hv
   simp[this]
  | some v=>
   have hi:i<n:=by rw[<-hl];exact (lJq.mp hv).1
   rw[h i v hv];simp[hi]
 rw[e]
 unfold rngT
 generalize List.range n=l
 induction l with
 | nil=>rfl
 | cons k ks ih=>exact⟨_,_,rfl,rfl,ih⟩
end
section
variable {X:Cx}
theorem jZh {a:Expr} {ta:TA3} {pos p p2 p3:Pos} (hgl:Gl X "list") (hml:X.mg "list"=none) (hgr:Gl X "range") (hmr:X.mg "range"=none) (hc:X.calm=true) (ha:PA3 X [a] ta) (hs:starEach [a] X.env=[(false,eval a X.env)]:=by rfl)
  (ho:starEach [Expr.Call (.Name "range" p2) [a] [] p3] X.env=[(false,eval (.Call (.Name "range" p2) [a] [] p3) X.env)]:=by rfl):
  PE3 X (.Call (.Name "list" p) [.Call (.Name "range" p2) [a] [] p3] [] pos) (jQ2 ta):=by
 intro pins s τ G H Q I h
 obtain⟨σ0,I0,hs0,hg0⟩:=id I
 refine lXx (jUv I0 hgl hml (u:= .type "list") (by rfl) ?_)
 refine lVg (T:="list") ?_ ho rfl
 rw[ho]
 show wpAny _ _ (spliced ((false,eval (.Call (.Name "range" p2) [a] [] p3) X.env)::backTo pos [])) _ _ s
 refine Calls.spliced_cons ?_
 refine Call_ (jUv I0 hgr hmr boot_range (lVg (thn (ha p3 pins s τ G H _ I h) fun us s1 w_=>w_.el fun xs G1 H1 e1 i_ r_ ⟨j,e,q1,q2,q⟩=>i_.el fun σ I1 hs1 hg1=>r_.el fun as ras rvs=> ?_) hs rfl))
 subst e
 obtain⟨v,rfl,rv⟩:=jUs ras
 cases (show v= .int j from rv)
 obtain⟨u,rfl,ru⟩:=rvs.one
 obtain⟨t,rfl⟩:=ru
 refine call_range_1 ?_
 refine Calls.spliced_nil ?_
 have I2:Inv X pins σ H1 {s1 with heap:=s1.heap.push {cls:= .type "range",data:= .fields #[.int 0 s1.toks,.int j t,.int 1 (s1.toks+1)]},toks:=s1.toks+1+1}:=I1.kept fun b o e=>lJl _ e
 refine call_list_range (n:=j.toNat) (I1.ok.hd hc) (IsRange.new ..) (small_one (by omega) (by omega) q1 (by omega)) (by rw[rangeSize_one];split<;>omega) (by omega) fun h' tk acc' c' hk hobj hit=> ?_
 have hf:H1 (s1.heap.push {cls:= .type "range",data:= .fields #[.int 0 s1.toks,.int j t,.int 1 (s1.toks+1)]}).objs.size=none:=I2.hok.fresh (lJg _)
 have hz:acc'.size<=sizeLine:=by rw[hit.1,lKs];omega
 obtain⟨vs,hvs,rr⟩:∃vs:List V,Vals vs acc'.toList/\Reps X.K H1 (rngT 0 j.toNat) vs:=by
  refine⟨(List.range j.toNat).map fun (k:Nat)=>V.int (0+k),?_,qK2 (by simp) (fun i v hv=> ?_)⟩
  ·have all:∀(l:List Value) (n0:Nat),(∀(i:Nat) v,l[i]? =some v->∃t,v= .int ((0:Int)+((n0+i:Nat):Int)*1) t)->Vals ((List.range' n0 l.length).map fun (k:Nat)=>V.int (0+k)) l:=by
    intro l
    induction l with
    | nil=>intro n0 _;exact .nil
    | cons v l ih=>
     intro n0 hh
     obtain⟨t,ht⟩:=hh 0 v rfl
     rw[lJ9,List.range'_succ,lJo]
     refine .cons ⟨t,by rw[ht];simp⟩ (ih (n0+1) fun i w hw=> ?_)
     obtain⟨t',ht'⟩:=hh (i+1) w (by simpa using hw)
     exact⟨t',by rw[ht'];congr 1;omega⟩
   have:=all acc'.toList 0 (fun i v hv=>by
    obtain⟨t,ht⟩:=hit.2 i v (by simpa using hv)
    exact⟨t,by rw[ht];simp⟩)
   rw[List.range_eq_range']
   rw[show acc'.toList.length=j.toNat by simpa using hit.1] at this
   exact this
  ·rw[lJz] at hv
   cases e:(List.range j.toNat)[i]? with
   | none=>rw[e] at hv;cases hv
   | some k=>
    rw[e] at hv;cases hv
    have:=lJq.mp e
    obtain⟨h1,h2⟩:=this
    simp at h2;rw[<-h2]
 refine⟨.ref _,_,_,e1.trans (.upd (.none hf)),⟨σ,I2.laid (t':=tk) (o:= .lst vs) hk (lJg _) ⟨by rw[hvs.length];simpa using hz,acc'.toList,c',hvs,by simpa using hobj⟩,hs1.mono (.upd (.none hf)),hg1.lstNew rr (.none hf)⟩,⟨.ref _,rfl,rfl⟩,q _ (hg1.fresh hf)⟩
def insT (xs:List T) (k:Nat) (y:T):List T:=xs.take k++y::xs.drop k
noncomputable def qVt:T->List T->Gp->VK3->Prop:=fun x as G Q=>∃p xs k y,x= .ref p/\as=[.int k,y]/\G p=some (.lst xs)/\0<=k/\k<=xs.length/\xs.length<sizeLine/\Q .non (gup G p (.lst (insT xs k.toNat y)))
def kKh:List T->Option Bool
 | []=>some true
 | .bl b::r=>match kKh r with
  | some c=>some (b&&c)
  | none=>none
 | _::_=>none
def rAll:List T->Gp->VK3->Prop:=fun as G Q=>∃p xs b,as=[.ref p]/\G p=some (.lst xs)/\kKh xs=some b/\Q (.bl b) G
theorem kQo:∀ {xs:List T} {b:Bool},kKh xs=some b->∃bs:List Bool,xs=bs.map T.bl/\b=bs.all (fun x=>x)
 | [],b,h=>by cases h;exact⟨[],rfl,rfl⟩
 | .bl c::r,b,h=>by
  unfold kKh at h
  cases e:kKh r with
  | none=>rw[e] at h;cases h
  | some d=>
   rw[e] at h;cases h
   obtain⟨bs,h1,h2⟩:=kQo e
   exact⟨c::bs,by rw[h1];rfl,by rw[h2];rfl⟩
 | .non::_,_,h=>by cases h
 | .int _::_,_,h=>by cases h
 | .str _::_,_,h=>by cases h
 | .tup _::_,_,h=>by cases h
 | .scr _::_,_,h=>by cases h
 | .ref _::_,_,h=>by cases h
 | .ty _::_,_,h=>by cases h
theorem kU2 {K:PySem.W.Frag} {H:Hp}:∀ {bs:List Bool} {vs:List V} {us:List Value},Reps K H (bs.map T.bl) vs->Vals vs us->us=bs.map Value.bool
 | [],_,_,h,q=>by cases h;cases q;rfl
 | n::ns,_,_,⟨v,ws,e,r,rs⟩,q=>by
  subst e;cases (show v= .bl n from r)
  cases q with
  | cons q1 q2=>cases q1;rw[kU2 rs q2];rfl
theorem kQm:∀(bs:List Bool),bs.all (fun x=>x)=(List.range bs.length).all fun i=>bs.getD i true
 | []=>rfl
 | b::bs=>by
  rw[lQv,kQm bs,lJ9,List.range_succ_eq_map,lQv,List.all_map]
  simp[Function.comp_def,List.getD]
theorem c_all (hc:X.calm=true):Call3 X (.builtin "all") rAll:=by
 rintro pins s τ G H as us Q ⟨σ,I,hs,hg⟩ ⟨bs',rbs,rus⟩ ⟨p,xs,b,e,hp,hb,q⟩
 subst e
 obtain⟨a,rfl,ra⟩:=jUs rbs
 cases (show a= .ref p from ra)
 obtain⟨u,rfl,ru⟩:=rus.one
 cases ru
 obtain⟨vs,h1,h2⟩:=hg.lst hp
 obtain⟨bs,ex,eb⟩:=kQo hb
 subst ex
 obtain⟨its,rv,pl,hz⟩:=I.list (.of h1)
 have eit:=kU2 h2 rv
 subst eit
 refine call_all_walk (lXy pl.isList ?_)
 have hne:p≠s.heap.objs.size:=by obtain⟨o,n,ho,_⟩:=pl;exact lJm (lJi ho)
 refine⟨s.heap.objs.size,[s.heap.objs.size,p],[s.heap.objs.size],(bs.map Value.bool).toArray.size,_,_,fun i=>bs.getD i true,rfl,Walks.list (A:=X.A.in1) (show X.A.in1.handled=none from I.ok.hd hc) s.heap.objs.size p hne (bs.map Value.bool).toArray,⟨⟨_,lJ8 _ rfl,rfl,rfl⟩,pl.isList.push _⟩,?_,?_⟩
 ·intro i v s' Q' E' hP hQ
  have hP':(bs.map Value.bool)[i]? =some v:=by simpa using hP
  rw[lJz] at hP'
  cases e:bs[i]? with
  | none=>rw[e] at hP';cases hP'
  | some c=>
   rw[e] at hP';cases hP'
   have:bs.getD i true=c:=by simp[List.getD,e]
   have hQ':Q' (bs.getD i true) s':=hQ
   rw[this] at hQ'
   exact lXv hQ'
 ·intro h' tk hk
  have hk2:∀b o,s.heap.get? b=some o->h'.get? b=some o:=fun b o e=>hk b o (by simpa using lJm (lJi e)) (lJl _ e)
  refine⟨.bl b,G,H,.refl H,⟨σ,I.kept hk2,hs,hg⟩,⟨.bl b,rfl,?_⟩,q⟩
  rw[eb,kQm]
  simp
  rfl
end
structure Cal (P:Program) (w:World) (K:PySem.W.Frag) (mg:Str->Option Value) (base:Heap) (k:Nat) (x:Str) (ps:List Str) (sp:Sp3):Prop where
 ex:∃f fd,Fn3 P w K mg base k f fd ps sp/\mg x=some (.ref f)/\PySem.W.keepIn K (.ref f)=true/\Binds K fd ps []
 mono:Mono sp
 len:∀xs G Q,sp xs G Q->xs.length=ps.length
theorem jQd {X:Cx} {k:Nat} {ps:List Str} {sp:Sp3} {x:Str} {p pos:Pos} {e:Expr} {es:List Expr} {t:TA3} (C:Cal X.prog X.w X.K X.mg X.base k x ps sp) (hr:Room k X.A) (ha:PA3 X (e::es) t) (hg:Gl X x:=by rfl)
  (hdb:(x == ("__debug__":Str))=false:=by decide) (he:starEach (e::es) X.env=(false,eval e X.env)::starEach es X.env:=by rfl) (hpl:(backTo pos (starEach es X.env)).any (·.1)=false:=by rfl):
  PE3 X (.Call (.Name x p) (e::es) [] pos) (jK0 sp t):=by
 intro pins s τ G H Q I h
 obtain⟨f,fd,F,hm,hk,hb⟩:=C.ex
 obtain⟨σ0,I0,hs0,hg0⟩:=id I
 refine lXx (kZp I0 hg hm ?_ hdb)
 refine PySem.W.callWith_K (h₀:=X.base) I0.ok.mod.kin hk (thn (ha pos pins s τ G H _ I h) fun us s1 w_=>w_.el fun xs G1 H1 e1 i_ r_ q=>i_.el fun σ I1 hs1 hg1=>r_.el fun as ras rvs=>⟨I1.kIn,?_⟩) he hpl
 refine thn (run_fn (dvs:=[]) (ds:=[]) (E:=E0) (Q:=up X.K H1 Q) F hr hb .nil pass0 I1 rvs ?_) fun u s' z=>(jV0 hs1 z).ext e1
 rw[lKz]
 exact⟨by rw[<-ras.length];exact C.len _ _ _ q,xs,G1,ras,hg1,C.mono _ _ _ _ (fun t G' hq v H' e g r=>⟨t,G',e,g,r,hq⟩) q⟩
def kYt:=kQ8
theorem qYk {X:Cx}:Call3 X (.type "list") kYt:=c_list
end L3
namespace L3
open PySem PySem.Spec PyProof.Rows
inductive Res where
 | val (t:T) | newL (xs:List T)
def fin3:Res->Gp->VK3->Prop
 | .val t,G,Q=>Q t G
 | .newL xs,G,Q=>∀p,G p=none->Q (.ref p) (gup G p (.lst xs))
theorem Op3.imp {X:L2.Cx} {f:Value->Value->Sem Value} {r r':R3} (h:Op3 X f r) (i:∀x y G Q,r' x y G Q->r x y G Q):Op3 X f r':=fun pins s τ G H x y v u Q I rx ry q=>h pins s τ G H x y v u Q I rx ry (i x y G Q q)
theorem Ix3.imp {X:L2.Cx} {r r':R3} (h:Ix3 X r) (i:∀x y G Q,r' x y G Q->r x y G Q):Ix3 X r':=fun a b pins s τ G H x y v u Q I rx ry q hs=>h a b pins s τ G H x y v u Q I rx ry (i x y G Q q) hs
theorem Set3.imp {X:L2.Cx} {r r':T->T->T->Gp->(Gp->Prop)->Prop} (h:Set3 X r) (i:∀o j v G Q,r' o j v G Q->r o j v G Q):Set3 X r':=fun pins s τ G H o j v a b c Q I ro rj rv q=>h pins s τ G H o j v a b c Q I ro rj rv (i o j v G Q q)
theorem Sl3.imp {X:L2.Cx} {r r':T->Option Int->Option Int->Gp->VK3->Prop} (h:Sl3 X r) (i:∀x l u G Q,r' x l u G Q->r x l u G Q):Sl3 X r':=fun pins s τ G H x v vl vu lo hi sl Q I rx hs pl pu q=>h pins s τ G H x v vl vu lo hi sl Q I rx hs pl pu (i x lo hi G Q q)
noncomputable def addR (G:Gp):T->T->Option Res
 | .int i,.int j=>some (.val (.int (i+j)))
 | .ref p,.ref q=>match G p,G q with
  | some (.lst xs),some (.lst ys)=>if xs.length+ys.length<=sizeLine then some (.newL (xs++ys)) else none
  | _,_=>none
 | .tup xs,.tup ys=>if xs.length≠0/\xs.length+ys.length<=sizeLine then some (.val (.tup (xs++ys))) else none
 | _,_=>none
def jQr:R3:=fun x y G Q=>∃r,addR G x y=some r/\fin3 r G Q
theorem add_F {x y:T} {G:Gp} {Q:VK3} (h:jQr x y G Q):rAddA x y G Q:=by
 obtain⟨r,hr,q⟩:=h
 unfold addR at hr
 split at hr
 ·cases hr;exact .inl ⟨_,_,rfl,rfl,q⟩
 ·rename_i p q'
  split at hr
  ·rename_i xs ys h1 h2
   split at hr
   ·rename_i hz;cases hr;exact .inr (.inl ⟨p,q',xs,ys,rfl,rfl,h1,h2,hz,q⟩)
   ·cases hr
  ·cases hr
 ·rename_i xs ys
  split at hr
  ·rename_i hz;cases hr;exact .inr (.inr ⟨xs,ys,rfl,rfl,fun z=>hz.1 (by rw[z];rfl),hz.2,q⟩)
  ·cases hr
 ·cases hr
theorem o_addF {X:L2.Cx}:Op3 X (binaryOp .Add) jQr:=o_addA.imp fun _ _ _ _=>add_F
noncomputable def mulR (G:Gp):T->T->Option Res
 | .int i,.int j=>some (.val (.int (i*j)))
 | .ref p,.int n=>match G p with
  | some (.lst xs)=>if n.toNat * xs.length<=sizeLine/\n<2^62/\ -(2^62)<n then some (.newL (List.replicate n.toNat xs).flatten) else none
  | _=>none
 | _,_=>none
def mulC:T->T->Prop
 | .int i,.int j=>L2.CMul i j
 | _,_=>True
def jYz:R3:=fun x y G Q=>∃r,mulR G x y=some r/\mulC x y/\fin3 r G Q
theorem mul_F {x y:T} {G:Gp} {Q:VK3} (h:jYz x y G Q):rMulA x y G Q:=by
 obtain⟨r,hr,c,q⟩:=h
 unfold mulR at hr
 split at hr
 ·cases hr;exact .inl ⟨_,_,rfl,rfl,c,q⟩
 ·rename_i p n
  split at hr
  ·rename_i xs h1
   split at hr
   ·rename_i hz;cases hr;exact .inr ⟨p,xs,n,rfl,rfl,h1,hz.1,hz.2.1,hz.2.2,q⟩
   ·cases hr
  ·cases hr
 ·cases hr
theorem jXv {X:L2.Cx}:Op3 X (binaryOp .Mult) jYz:=o_mulA.imp fun _ _ _ _=>mul_F
def ixR (G:Gp) (x y:T):Option T:=match seqT G x with
 | some xs=>match y with
  | .int i=>L2.atI xs i
  | _=>none
 | none=>match dAt G x y with
  | some o=>o
  | none=>none
def rIxF:R3:=fun x y G Q=>∃t,ixR G x y=some t/\Q t G
theorem ix_F' {x y:T} {G:Gp} {Q:VK3} (h:rIxF x y G Q):rIxA x y G Q:=by
 obtain⟨t,ht,q⟩:=h
 unfold ixR at ht
 split at ht
 ·rename_i xs hx
  split at ht
  ·rename_i i;exact .inl ⟨xs,i,t,hx,rfl,ht,q⟩
  ·cases ht
 ·split at ht
  ·rename_i o ho;subst ht;exact .inr ⟨t,ho,q⟩
  ·cases ht
theorem ix_F {X:L2.Cx} (hu:X.A.units+20<cLine):Ix3 X rIxF:=(qXl hu).imp fun _ _ _ _=>ix_F'
noncomputable def setR (G:Gp) (o i v:T):Option Gp:=match o with
 | .ref p=>match G p with
  | some (.lst xs)=>match i with
   | .int k=>match L2.ixN xs.length k with
    | some j=>some (gup G p (.lst (xs.set j v)))
    | none=>none
   | _=>none
  | some (.dct kvs)=>match i with
   | .tup ys=>match jUj ys with
    | some ks=>if kvs.length<sizeLine then some (gup G p (.dct (putT kvs ks v))) else none
    | none=>none
   | _=>none
  | some (.dck kvs)=>match jXz i with
   | some k=>if kvs.length<sizeLine then some (gup G p (.dck (putT kvs k v))) else none
   | none=>none
  | some (.fdc _)=>none
  | some (.ins _ _)=>none
  | some (.exc _)=>none
  | some (.tbs _)=>none
  | some (.fn _ _)=>none
  | some (.cel _)=>none
  | none=>none
 | _=>none
def kJx:T->T->T->Gp->(Gp->Prop)->Prop:=fun o i v G Q=>∃G',setR G o i v=some G'/\Q G'
theorem set_F' {o i v:T} {G:Gp} {Q:Gp->Prop} (h:kJx o i v G Q):rSetA o i v G Q:=by
 obtain⟨G',hr,q⟩:=h
 unfold setR at hr
 split at hr
 ·rename_i p
  split at hr
  ·rename_i xs h1
   split at hr
   ·rename_i k
    split at hr
    ·rename_i j hj;cases hr;exact .inl ⟨p,xs,k,j,rfl,rfl,h1,hj,q⟩
    ·cases hr
   ·cases hr
  ·rename_i kvs h1
   split at hr
   ·rename_i ys
    split at hr
    ·rename_i ks hk
     split at hr
     ·rename_i hz;cases hr;exact .inr (.inl ⟨p,ys,ks,kvs,rfl,rfl,hk,h1,hz,q⟩)
     ·cases hr
    ·cases hr
   ·cases hr
  ·rename_i kvs h1
   split at hr
   ·rename_i k hk
    split at hr
    ·rename_i hz;cases hr;exact .inr (.inr ⟨p,k,kvs,rfl,hk,h1,hz,q⟩)
    ·cases hr
   ·cases hr
  ·cases hr
  ·cases hr
  ·cases hr
  ·cases hr
  ·cases hr
  ·cases hr
  ·cases hr
 ·cases hr
theorem s_F {X:L2.Cx} (hu:X.A.units+20<cLine):Set3 X kJx:=(s_any hu).imp fun _ _ _ _ _=>set_F'
noncomputable def rLeF:R3:=fun x y G Q=>∃b,(match x,y with
 | .int i,.int j=>some (decide (i<=j))
 | .tup [.int a,.int b],.tup [.int c,.int d]=>some (HT.lexLe [a,b] [c,d])
 | _,_=>none)=some b/\Q (.bl b) G
theorem le_F' {x y:T} {G:Gp} {Q:VK3} (h:rLeF x y G Q):rLeA x y G Q:=by
 obtain⟨b,hb,q⟩:=h
 split at hb
 ·cases hb;exact .inl ⟨_,_,rfl,rfl,q⟩
 ·cases hb;exact .inr ⟨_,_,rfl,rfl,q⟩
 ·cases hb
theorem o_leF {X:L2.Cx} (hu:X.A.units+20<cLine):Op3 X (compareOp .LtE) rLeF:=(o_leA hu).imp fun _ _ _ _=>le_F'
noncomputable def inR (G:Gp) (x y:T):Option Bool:=match seqT G y with
 | some xs=>if jVp x=true/\xs.all jVp=true then some (inT x xs) else none
 | none=>match dAt G y x with
  | some o=>some o.isSome
  | none=>none
def jQu:R3:=fun x y G Q=>∃b,inR G x y=some b/\Q (.bl (!b)) G
theorem qQh {x y:T} {G:Gp} {Q:VK3} (h:jQu x y G Q):kYs x y G Q:=by
 obtain⟨b,hb,q⟩:=h
 unfold inR at hb
 split at hb
 ·rename_i xs hx
  split at hb
  ·rename_i hc;cases hb;exact .inl ⟨xs,hx,hc.1,hc.2,q⟩
  ·cases hb
 ·split at hb
  ·rename_i o ho;cases hb;exact .inr ⟨o,ho,q⟩
  ·cases hb
theorem kKw {X:L2.Cx} (hu:X.A.units+20<cLine):Op3 X (compareOp .NotIn) jQu:=(qV5 hu).imp fun _ _ _ _=>qQh
noncomputable def slR (G:Gp) (x:T) (lo hi:Option Int):Option Res:=match x with
 | .tup xs=>some (.val (.tup (cutT xs lo hi)))
 | .scr xs=>some (.newL (cutT xs lo hi))
 | .ref p=>match G p with
  | some (.lst xs)=>some (.newL (cutT xs lo hi))
  | _=>none
 | _=>none
def rSlF:T->Option Int->Option Int->Gp->VK3->Prop:=fun x lo hi G Q=>∃r,slR G x lo hi=some r/\fin3 r G Q
theorem sl_F' {x:T} {lo hi:Option Int} {G:Gp} {Q:VK3} (h:rSlF x lo hi G Q):rSlA x lo hi G Q:=by
 obtain⟨r,hr,q⟩:=h
 unfold slR at hr
 split at hr
 ·cases hr;exact .inr ⟨_,rfl,q⟩
 ·cases hr;exact .inl ⟨_,rfl,q⟩
 ·split at hr
  ·rename_i xs h1;cases hr;exact .inl ⟨xs,by simp only[jKt,h1,asL],q⟩
  ·cases hr
 ·cases hr
theorem sl_F {X:L2.Cx}:Sl3 X rSlF:=sl_any.imp fun _ _ _ _ _=>sl_F'
end L3
namespace L2
open PySem PySem.Spec PyProof.Rows
section
variable {X:Cx} {tg:Expr}
end
end L2
namespace L3
open PySem PySem.Spec PyProof.Rows L2
def Off (cs:List Addr) (g g':Heap):Prop:=∀c,c∉cs->∀o,g.get? c=some o->g'.get? c=some o
theorem Off.then {cs:List Addr} {g g' g'':Heap} (p:Off cs g g') (q:Off cs g' g''):Off cs g g'':=fun c n o e=>q c n o (p c n o e)
theorem Off.ext {cs:List Addr} {c:Addr} {g g':Heap} (h:Heap.ExtBut c g g') (m:c∈cs):Off cs g g':=fun b n o e=>h b o (fun q=>n (q▸m)) e
theorem Off.one {cs:List Addr} {c:Addr} {g g':Heap} (h:Heap.SameBut c g g') (m:c∈cs):Off cs g g':= .ext h.extBut m
theorem Off.new (cs:List Addr) (g:Heap) (o:Obj):Off cs g (g.push o):=fun _ _ _ e=>lJl _ e
theorem Off.at {cs:List Addr} {g g':Heap} (p:Off cs g g') {c:Addr} {o:Obj} (n:c∉cs) (e:g.get? c=some o):g'.get? c=some o:=p c n o e
def jZo (cs:List Addr) (S:Heap->Prop):Prop:=∀g g',Off cs g g'->S g->S g'
def Draw (P:Program) (w:World) (A:Around) (i:Addr) (r:Option Value) (S S':Heap->Prop):Prop:=
 ∀(s:Shared) (Q E:Value->Shared->Prop),S s.heap->
  (∀x g,r=some x->S' g->Heap.SameBut i s.heap g->Q x {s with heap:=g})->
  (∀g e o,r=none->Heap.ExtBut i s.heap g->g.get? e=some o->o.cls= .type "StopIteration"->E (.ref e) {s with heap:=g})->
  wpAny (model P w) A (Builtin.SmallTypes.nextOf (.ref i)) Q E s
def OnTup (i t:Addr) (k:Nat) (xs:Array Value) (h:Heap):Prop:=h.IsTupleIter i t k/\h.IsTuple t xs
theorem OnTup.still {cs:List Addr} {i t:Addr} {k:Nat} {xs:Array Value} (hi:i∉cs) (ht:t∉cs):jZo cs (OnTup i t k xs):=
 fun _ _ p ⟨⟨o,e,c⟩,⟨q,e',c'⟩⟩=>⟨⟨o,p.at hi e,c⟩,⟨q,p.at ht e',c'⟩⟩
theorem jX3 {P:Program} {w:World} {A:Around} {i t:Addr} {k:Nat} {xs:Array Value} (hh:A.handled=none) (ne:t≠i):Draw P w A i xs[k]? (OnTup i t k xs) (OnTup i t (k+1) xs):=by
 rintro s Q E ⟨⟨o,ho,hc,hd⟩,q,hq,hqc,n,hn⟩ item stop
 have ty:s.TypeIs (.ref i) "tuple_iterator":=⟨o,ho,hc⟩
 refine lJa (lXw (name:=Str.ofString "__next__") ty F.slot_tuple_iterator_next (lQs F.slot_tuple_iterator_next ty F.entry_tuple_iterator_next ?_ (F.args_tuple_iterator_next_1 _)))
 refine (show wpAny _ _ (field (.ref i) 0 >>= _) _ _ s from lJa (lVa ho hd (x:= .ref t) rfl ?_))
 refine (show wpAny _ _ (if (Value.ref t == Value.none)=true then _ else field (.ref i) 1 >>= _) _ _ s from ?_)
 rw[lJb (by exact lJv)]
 refine lJa (lVa ho hd (x:= .int k 0) rfl (show wpAny _ _ (seqItems? (.ref t) >>= _) _ _ s from lJa (lV5 hq hn ?_)))
 cases hx:xs[k]? with
 | some x=>
  simp only[hx,lXg]
  have up:OnTup i t (k+1) xs (s.heap.update i (Obj.mapFields (·.setIfInBounds 1 (rawInt ((k:Int)+1))))):=by
   refine⟨⟨_,lX0 _ ho (Obj.isFreed_of_fields (Obj.data_mapFields hd _)),(Obj.cls_mapFields ..).trans hc,?_⟩,q,(lX4 ..).extBut t q ne hq,hqc,n,hn⟩
   rw[Obj.data_mapFields hd];simp[rawInt]
  exact lJa (wpAny_setField ho hd (by simp) (lJd ⟨x,rfl,lJd (item x _ hx up (lX4 ..))⟩))
 | none=>
  simp only[hx,lXg]
  refine lJa (lK6 (lJa (wpAny_setField ho hd (by simp) (show wpAny _ _ (newExc (.type "StopIteration") [] >>= _) _ _ _ from lJa ?_))))
  simp only[newExc,newTuple,raiseNew]
  refine lJa (lQl (lJa (m:=firstArgMember _ _) (wpAny_of_eq (a:=Value.none) (by first | rfl | (simp only[firstArgMember];rfl)) (lQl ?_ (by size_fits)))) (by size_fits))
  refine lJa (wpAny_handled ?_);rw[show A.in1.handled=none from hh]
  exact lJa (lJd (wpAny_throw (stop _ _ _ hx (((lX4 ..).extBut.push _).push _) (lJ8 _ rfl) rfl)))
structure ZipAt (z TI TO i j:Addr):Prop where
 nd:[z,TI,TO,i,j].Nodup
theorem qKi {P:Program} {w:World} {A:Around} {z TI TO i j:Addr} {r1 r2:Option Value} {S S' U U':Heap->Prop} {a b:Value} {s:Shared} {Q E:Value->Shared->Prop}
  (D1:Draw P w A i r1 S S') (D2:Draw P w A j r2 U U') (nd:ZipAt z TI TO i j) (s1:jZo [z,TO,j] S) (s1':jZo [z,TO,j] S') (s2:jZo [z,TO,i] U) (s2':jZo [z,TO,i] U')
  (hz:IsZip s.heap z TI TO .none) (hTI:IsPair s.heap TI (.ref i) (.ref j)) (hTO:IsPair s.heap TO a b) (h1:S s.heap) (h2:U s.heap)
  (item:∀x y g,r1=some x->r2=some y->IsZip g z TI TO (rawInt s.heap.objs.size)->IsPair g TO x y->S' g->U' g->IsPair g s.heap.objs.size x y->Off [z,TO,i,j] s.heap g->Q (.ref s.heap.objs.size) {s with heap:=g})
  (stop:∀g e o,(r1=none\/r2=none)->Off [z,TO,i,j] s.heap g->g.get? e=some o->o.cls= .type "StopIteration"->E (.ref e) {s with heap:=g}):
  wpAny (model P w) A (Builtin.«zip.__next__» ⟨[.ref z],[]⟩) (fun f s'=>∃v,f= .done (.ret v)/\Q v s') E s:=by
 have ap:=nd.nd
 simp only[lKu,lJk,lKc,lKt,not_or] at ap
 obtain⟨⟨zTI,zTO,zi,zj⟩,⟨TITO,TIi,TIj⟩,⟨TOi,TOj⟩,ij,_⟩:=ap
 refine (show wpAny _ _ (field (.ref z) 2 >>= _) _ _ _ from lJa (lVa hz rfl (x:= .bool false) rfl (show wpAny _ _ (field (.ref z) 3 >>= _) _ _ _ from lJa (lVa hz rfl (x:= .ref TI) rfl (lJa (lV5 hTI rfl ?_))))))
 refine (show wpAny _ _ (Builtin.SmallTypes.ownedTupleIsFree (.ref z) >>= _) _ _ _ from lJa ?_)
 unfold Builtin.SmallTypes.ownedTupleIsFree;refine lJa (lVa hz rfl (x:= .none) rfl (lJd ?_))
 rw[lJc rfl]
 refine lJa (lK6 (lJa (lVa hz rfl (x:= .ref TO) rfl (lJa (lVt hz (by simp) fun g1 hz1 b1=>lJa ?_)))))
 replace hz1:IsZip g1 z TI TO .ellipsis:=hz1
 have o1:Off [z,TO,i,j] s.heap g1:= .one b1 (by simp)
 simp only[List.forIn_cons,lX5,List.zipIdx_cons,List.zipIdx_nil]
 refine lJa (lJa (wpAny_onRaise (show wpAny _ _ (Builtin.SmallTypes.nextOf (.ref i) >>= _) _ _ _ from lJa (D1 _ _ _ (s1 _ _ (.one b1 (by simp)) h1) (fun x g2 ex S2 b2=>lJd ?_) fun g2 e o en b2 he hc=> ?_))))
 ·have o2:Off [z,TO,i,j] s.heap g2:=o1.then (.one b2 (by simp))
  have hz2:IsZip g2 z TI TO .ellipsis:=b2.extBut _ _ zi hz1
  have hp2:IsPair g2 TO a b:=b2.extBut _ _ TOi (b1.extBut _ _ (Ne.symm zTO) hTO)
  refine lJa (lV5 hp2 rfl (lJa (wpAny_updateSeq_pair hp2 fun g3 hp3 b3=>lJa (wpAny_letGo (lJd ?_)))))
  replace hp3:IsPair g3 TO x b:=hp3
  have o3:Off [z,TO,i,j] s.heap g3:=o2.then (.one b3 (by simp))
  have hz3:IsZip g3 z TI TO .ellipsis:=b3.extBut _ _ zTO hz2
  have U3:U g3:=s2 _ _ (((Off.one b1 (by simp)).then (.one b2 (by simp))).then (.one b3 (by simp))) h2
  refine lJa (lJa (wpAny_onRaise (show wpAny _ _ (Builtin.SmallTypes.nextOf (.ref j) >>= _) _ _ _ from lJa (D2 _ _ _ U3 (fun y g4 ey U4 b4=>lJd ?_) fun g4 e o en b4 he hc=> ?_))))
  ·have hp4:IsPair g4 TO x b:=b4.extBut _ _ TOj hp3
   refine lJa (lV5 hp4 rfl (lJa (wpAny_updateSeq_pair hp4 fun g5 hp5 b5=>lJa (wpAny_letGo (lJd (lJd ?_))))))
   replace hp5:IsPair g5 TO x y:=hp5
   have o5:Off [z,TO,i,j] s.heap g5:=(o3.then (.one b4 (by simp))).then (.one b5 (by simp))
   have hz5:IsZip g5 z TI TO .ellipsis:=b5.extBut _ _ zTO (b4.extBut _ _ zj hz3)
   have S5:S' g5:=s1' _ _ (((Off.one b3 (by simp)).then (.one b4 (by simp))).then (.one b5 (by simp))) S2
   have U5:U' g5:=s2' _ _ (.one b5 (by simp)) U4
   have n5:g5.objs.size=s.heap.objs.size:=by rw[b5.1,b4.1,b3.1,b2.1,b1.1]
   refine lJa (lV5 hp5 rfl (lJa (wpAny_newTuple ?_)))
   refine (show wpAny _ _ (Builtin.SmallTypes.ownedTupleHandOut (.ref z) (.ref g5.objs.size) >>= _) _ _ _ from lJa ?_)
   unfold Builtin.SmallTypes.ownedTupleHandOut;refine lJa (lVt (show IsZip (g5.push {cls:= .type "tuple",data:= .seq #[x,y]}) z TI TO .ellipsis from lJl _ hz5) (by simp) fun g6 hz6 b6=> ?_)
   refine lVt hz6 (by simp) fun g7 hz7 b7=>lJd ⟨_,rfl,?_⟩
   have o7:Off [z] g5 g7:=((Off.new _ _ _).then (.one b6 (by simp))).then (.one b7 (by simp))
   have zl:z<g5.objs.size:=lJi hz5
   have new:IsPair g7 g5.objs.size x y:=b7.extBut _ _ (lK0 zl) (b6.extBut _ _ (lK0 zl) (lJ8 _ rfl))
   replace hz7:IsZip g7 z TI TO (rawInt g5.objs.size):=hz7
   show Q (.ref g5.objs.size) _
   rw[n5] at hz7 new ⊢
   have w1:∀ {cs:List Addr},z∈cs->Off cs g5 g7:=fun m c n=>o7 c (by simp only[lJs];exact fun q=>n (q▸m))
   exact item x y g7 ex ey hz7 (o7.at (by simpa using Ne.symm zTO) hp5) (s1' _ _ (w1 (by simp)) S5) (s2' _ _ (w1 (by simp)) U5) new (o5.then (w1 (by simp)))
  ·have hz4:IsZip g4 z TI TO .ellipsis:=b4 _ _ zj hz3
   have ez:e≠z:=fun q=>by subst q;rw[hz4] at he;cases he;simp at hc
   exact lVt hz4 (by simp) fun g5 _ b5=>stop g5 e o (.inr en) ((o3.then (.ext b4 (by simp))).then (.one b5 (by simp))) (b5.extBut _ _ ez he) hc
 ·have hz2:IsZip g2 z TI TO .ellipsis:=b2 _ _ zi hz1
  have ez:e≠z:=fun q=>by subst q;rw[hz2] at he;cases he;simp at hc
  exact lVt hz2 (by simp) fun g3 _ b3=>stop g3 e o (.inl en) ((o1.then (.ext b2 (by simp))).then (.one b3 (by simp))) (b3.extBut _ _ ez he) hc
theorem kUw {P:Program} {w:World} {A:Around} {z TI TO i j:Addr} {r1 r2:Option Value} {S S' U U':Heap->Prop} {a b:Value} {s:Shared} {Q:Option Value->Shared->Prop} {E:Value->Shared->Prop}
  (D1:Draw P w A.in1 i r1 S S') (D2:Draw P w A.in1 j r2 U U') (nd:ZipAt z TI TO i j) (s1:jZo [z,TO,j] S) (s1':jZo [z,TO,j] S') (s2:jZo [z,TO,i] U) (s2':jZo [z,TO,i] U')
  (hz:IsZip s.heap z TI TO .none) (hTI:IsPair s.heap TI (.ref i) (.ref j)) (hTO:IsPair s.heap TO a b) (h1:S s.heap) (h2:U s.heap)
  (item:∀x y g,r1=some x->r2=some y->IsZip g z TI TO (rawInt s.heap.objs.size)->IsPair g TO x y->S' g->U' g->IsPair g s.heap.objs.size x y->Off [z,TO,i,j] s.heap g->Q (some (.ref s.heap.objs.size)) {s with heap:=g})
  (stop:∀g,(r1=none\/r2=none)->Off [z,TO,i,j] s.heap g->Q none {s with heap:=g}):wpAny (model P w) A (pyNext (.ref z)) Q E s:=by
 have ty:s.TypeIs (.ref z) "zip":=⟨_,hz,rfl⟩
 refine lJa (wpAny_attempt (lXw (name:=Str.ofString "__next__") ty F.slot_zip_next (lQs F.slot_zip_next ty F.entry_zip_next ?_ (F.args_zip_next_1 _))))
 refine qKi D1 D2 nd s1 s1' s2 s2' hz hTI hTO h1 h2 (fun x y g q1 q2 q3 q4 q5 q6 q7 q8=>lJd (item x y g q1 q2 q3 q4 q5 q6 q7 q8)) fun g e o en f he hc=> ?_
 exact lJa (wpAny_isInstance (T:="StopIteration") (b:=true) ⟨o,he,hc⟩ isSubtype_stop (lJd (stop g en f)))
def itOf (t:Addr):Obj:={cls:= .type "tuple_iterator",data:= .fields #[.ref t,.int 0 0]}
def jV9 (xs:Array Value):Obj:={cls:= .type "tuple",data:= .seq xs}
noncomputable def zips (g:Heap) (t u:Addr):Heap:=
 let g2:=(g.push (itOf t)).push (itOf u)
 let g3:=g2.push (jV9 #[.ref g.objs.size,.ref (g.push (itOf t)).objs.size])
 let g4:=g3.push (jV9 #[.none,.none])
 g4.push {cls:= .type "zip",data:= .fields #[.none,.bool false,.bool false,.ref g2.objs.size,.ref g3.objs.size]}
theorem qVe (t u:Addr) (xs ys:Array Value):
  Meets (Builtin.«zip.__new__» ⟨[.type "zip",.ref t,.ref u],[]⟩) fun _ R s=>s.heap.IsTuple t xs/\s.heap.IsTuple u ys/\R (.ok (.ret (.ref (((((s.heap.push (itOf t)).push (itOf u)).push (jV9 #[.ref s.heap.objs.size,.ref (s.heap.push (itOf t)).objs.size])).push (jV9 #[.none,.none])).objs.size)))) {s with heap:=zips s.heap t u}:=by
 refine .of_wp fun P w A R s ⟨ht,hu,h⟩=> ?_
 obtain⟨g,a1,a2,a3,a4⟩:=s
 have sb:=sub_zip
 have m1:Heap.IsTuple (Shared.heap ⟨g,a1,a2,a3,a4⟩) t xs:=ht
 have m2:Heap.IsTuple (Shared.heap ⟨g.push {cls:= .type "tuple_iterator",data:= .fields #[.ref t,.int 0 0]},a1,a2,a3,a4⟩) u ys:=hu.push _
 wp_walk using wpAny_pyIter_tuple m1,wpAny_pyIter_tuple m2
 exact⟨_,rfl,h⟩
theorem qKh {P:Program} {w:World} {A:Around} {s:Shared} {t u:Addr} {xs ys:Array Value} {Q E:Value->Shared->Prop} (ht:s.heap.IsTuple t xs) (hu:s.heap.IsTuple u ys)
  (h:∀g n,n=s.heap.objs.size->IsZip g (n+4) (n+2) (n+3) .none->IsPair g (n+2) (.ref n) (.ref (n+1))->IsPair g (n+3) .none .none->OnTup n t 0 xs g->OnTup (n+1) u 0 ys g->
   (∀c o,s.heap.get? c=some o->g.get? c=some o)->Q (.ref (n+4)) {s with heap:=g}):wpAny (model P w) A (call (.type "zip") [.ref t,.ref u]) Q E s:=by
 refine callType_new F.called_zip (by decide) (F.typeCall_zip_2 _ _) (F.newCall_zip_2 _ _) (fun obj=>F.args_object_init_3 obj _ _) F.entry_zip_new (qVe t u xs ys) ⟨ht,hu,?_⟩
 have hn:∀(g:Heap) (o:Obj),(g.push o).objs.size=g.objs.size+1:=fun _ _=>lQy ..
 have up:∀ {g:Heap} {o q:Obj} {c:Addr},g.get? c=some q->(g.push o).get? c=some q:=fun e=>lJl _ e
 have at':∀(g:Heap) (o:Obj),o.isFreed=false->(g.push o).get? g.objs.size=some o:=fun g o h=>lJ8 _ h
 have kp:∀c o,s.heap.get? c=some o->(zips s.heap t u).get? c=some o:=fun c o e=>up (up (up (up (up e))))
 obtain⟨q,hq,hr⟩:=ht
 obtain⟨q',hq',hr'⟩:=hu
 have c0:(zips s.heap t u).get? s.heap.objs.size=some (itOf t):=up (up (up (up (at' _ _ rfl))))
 have c1:(zips s.heap t u).get? (s.heap.push (itOf t)).objs.size=some (itOf u):=up (up (up (at' _ _ rfl)))
 have c2:=up (g:=((s.heap.push (itOf t)).push (itOf u)).push (jV9 #[.ref s.heap.objs.size,.ref (s.heap.push (itOf t)).objs.size])) (o:=jV9 #[.none,.none]) (at' ((s.heap.push (itOf t)).push (itOf u)) (jV9 #[.ref s.heap.objs.size,.ref (s.heap.push (itOf t)).objs.size]) rfl)
 have c2':(zips s.heap t u).get? ((s.heap.push (itOf t)).push (itOf u)).objs.size=some (jV9 #[.ref s.heap.objs.size,.ref (s.heap.push (itOf t)).objs.size]):=up c2
 have c3:(zips s.heap t u).get? (((s.heap.push (itOf t)).push (itOf u)).push (jV9 #[.ref s.heap.objs.size,.ref (s.heap.push (itOf t)).objs.size])).objs.size=some (jV9 #[.none,.none]):=up (at' _ _ rfl)
 have c4:(zips s.heap t u).get? ((((s.heap.push (itOf t)).push (itOf u)).push (jV9 #[.ref s.heap.objs.size,.ref (s.heap.push (itOf t)).objs.size])).push (jV9 #[.none,.none])).objs.size=some {cls:= .type "zip",data:= .fields #[.none,.bool false,.bool false,.ref ((s.heap.push (itOf t)).push (itOf u)).objs.size,.ref (((s.heap.push (itOf t)).push (itOf u)).push (jV9 #[.ref s.heap.objs.size,.ref (s.heap.push (itOf t)).objs.size])).objs.size]}:=at' _ _ rfl
 show _/\_
 simp only[hn] at c1 c2' c3 c4 ⊢
 exact⟨⟨_,c4,rfl⟩,h _ _ rfl c4 c2' c3 ⟨⟨_,c0,rfl,rfl⟩,q,kp _ _ hq,hr⟩ ⟨⟨_,c1,rfl,rfl⟩,q',kp _ _ hq',hr'⟩ kp⟩
noncomputable def Itz (K:PySem.W.Frag) (a1 a2:Addr):It:=
 ⟨fun i H=>∃xs ys x y,SqT K H a1 xs/\SqT K H a2 ys/\xs[i]? =some x/\ys[i]? =some y,
  fun i H v H'=>∃p x y,H p=none/\v= .ref p/\(∀xs,SqT K H a1 xs->xs[i]? =some x)/\(∀ys,SqT K H a2 ys->ys[i]? =some y)/\H'=upd H p (.tup [x,y]),
  fun i H=>∃xs ys,SqT K H a1 xs/\SqT K H a2 ys/\(xs.length<=i\/ys.length<=i)⟩
theorem qUn {z TI TO i1 i2 a1 a2:Addr} (D:ZipApart z TI TO i1 i2 a1 a2):ZipAt z TI TO i1 i2:=
 ⟨by simp[D.TIz.symm,D.TOz.symm,D.i1z.symm,D.i2z.symm,D.TITO,D.TIi1,D.TIi2,D.TOi1,D.TOi2,D.i12]⟩
theorem kJr {z TI TO i1 i2 a1 a2:Addr} {k:Nat} {xs:Array Value} (D:ZipApart z TI TO i1 i2 a1 a2):jZo [z,TO,i2] (OnTup i1 a1 k xs):=
 OnTup.still (by simp[D.i1z,D.TOi1.symm,D.i12]) (by simp[D.l1z,D.l1TO,D.l1i2])
theorem kJq {z TI TO i1 i2 a1 a2:Addr} {k:Nat} {xs:Array Value} (D:ZipApart z TI TO i1 i2 a1 a2):jZo [z,TO,i1] (OnTup i2 a2 k xs):=
 OnTup.still (by simp[D.i2z,D.TOi2.symm,D.i12.symm]) (by simp[D.l2z,D.l2TO,D.l2i1])
theorem qKp {P:Program} {w:World} {K:PySem.W.Frag} {elts:List Expr} {k:Nat} {pos:Pos} (z TI TO i1 i2 a1 a2:Addr) (D:ZipApart z TI TO i1 i2 a1 a2):
  Turn P w K (.Tuple elts k pos) (Itz K a1 a2) [z,TI,TO,i1,i2] z (fun i h=>IsZip h z TI TO .none/\IsPair h TI (.ref i1) (.ref i2)/\(∃a b,IsPair h TO a b)/\h.IsTupleIter i1 a1 i/\h.IsTupleIter i2 a2 i) where
 mem:=by simp
 obj:=fun i h ⟨hz,hTI,⟨a,b,hTO⟩,h1,h2⟩ c hc=>by
  simp only[lJk,lKc,lKt] at hc
  rcases hc with rfl | rfl | rfl | rfl | rfl
  ·exact⟨_,hz,fun v z=>nomatch (show Data.fields _=Data.cell v from z)⟩
  ·exact⟨_,hTI,fun v z=>nomatch (show Data.seq _ _=Data.cell v from z)⟩
  ·exact⟨_,hTO,fun v z=>nomatch (show Data.seq _ _=Data.cell v from z)⟩
  ·obtain⟨o,e,c,d⟩:=h1;exact⟨o,e,fun v z=>by rw[d] at z;cases z⟩
  ·obtain⟨o,e,c,d⟩:=h2;exact⟨o,e,fun v z=>by rw[d] at z;cases z⟩
 keep:=fun i h h' ⟨hz,hTI,⟨a,b,hTO⟩,h1,h2⟩ kp=>⟨kp z (by simp) _ hz,kp TI (by simp) _ hTI,⟨a,b,kp TO (by simp) _ hTO⟩,h1.at fun o q=>kp i1 (by simp) o q,h2.at fun o q=>kp i2 (by simp) o q⟩
 item:=by
  rintro X hP hw hK hc i pins s σ H E I hf ⟨hz,hTI,⟨a,b,hTO⟩,h1,h2⟩ hg
  subst hP hw hK
  obtain⟨xs,ys,x,y,hq1,hq2,hx,hy⟩:=hg
  obtain⟨its1,rv1,p1,hz1⟩:=I.tuple hq1
  obtain⟨its2,rv2,p2,hz2⟩:=I.tuple hq2
  obtain⟨u1,hu1,ru1⟩:=rv1.get hx
  obtain⟨u2,hu2,ru2⟩:=rv2.get hy
  refine kUw (r1:=its1.toArray[i]?) (r2:=its2.toArray[i]?) (jX3 (I.ok.hd hc) D.l1i1) (jX3 (I.ok.hd hc) D.l2i2) (qUn D) (kJr D) (kJr D) (kJq D) (kJq D) hz hTI hTO ⟨h1,p1⟩ ⟨h2,p2⟩ (fun x' y' g1 ex ey ho gTO g3 g4 hT hk=> ?_) (fun g en _=> ?_)
  rotate_left
  ·rcases en with e | e
   ·rw[show its1.toArray[i]? =some u1 by simpa using hu1] at e;cases e
   ·rw[show its2.toArray[i]? =some u2 by simpa using hu2] at e;cases e
  obtain rfl:u1=x':=by simpa[hu1] using ex
  obtain rfl:u2=y':=by simpa[hu2] using ey
  refine⟨_,rfl,wpAny_letOwnedTupleGo_zip ho fun g2 gz hs2=> ?_⟩
  have hzl:z<s.heap.objs.size:=lJi hz
  have hp2:∀b o,b∉[z,TI,TO,i1,i2]->s.heap.get? b=some o->g2.get? b=some o:=fun b o hb q=>by
   simp only[lJk,lKc,lKt,not_or] at hb
   exact (hs2.2 b hb.1).trans (hk b (by simp only[lJk,lKc,lKt,not_or];exact⟨hb.1,hb.2.2.1,hb.2.2.2.1,hb.2.2.2.2⟩) o q)
  have hT2:g2.get? s.heap.objs.size=some {cls:= .type "tuple",data:= .seq #[u1,u2]}:=(hs2.2 _ (lK0 hzl)).trans hT
  have I2:=jYl (t':=s.toks) (h':=g2) (p:=s.heap.objs.size) (vs:=[x,y]) (us:=[u1,u2]) I hp2 hf (lJg _) ⟨_,hT2,rfl,_,rfl,rfl⟩ (.cons ru1 (.cons ru2 .nil)) (by show 2<=sizeLine;decide)
  refine⟨.ref s.heap.objs.size,_,I2,rfl,⟨_,x,y,I.hok.fresh (lJg _),rfl,fun zs hz=>by rw[I.tuple_inj hz hq1];exact hx,fun zs hz=>by rw[I.tuple_inj hz hq2];exact hy,rfl⟩,
   ⟨gz,(hs2.2 _ D.TIz).trans (hk _ (by simp[D.TIz,D.TITO,D.TIi1,D.TIi2]) _ hTI),⟨_,_,(hs2.2 _ D.TOz).trans gTO⟩,g3.1.at fun o q=>(hs2.2 _ D.i1z).trans q,g4.1.at fun o q=>(hs2.2 _ D.i2z).trans q⟩,fun b hb=> ?_⟩
  have hbs:∃o,s.heap.get? b=some o:=by
   have hbq:=hb
   simp only[lJk,lKc,lKt] at hbq
   rcases hbq with rfl | rfl | rfl | rfl | rfl
   ·exact⟨_,hz⟩
   ·exact⟨_,hTI⟩
   ·exact⟨_,hTO⟩
   ·obtain⟨o,q,_⟩:=h1;exact⟨o,q⟩
   ·obtain⟨o,q,_⟩:=h2;exact⟨o,q⟩
  obtain⟨o,q⟩:=hbs
  rw[jJr (lJm (lJi q))]
  exact (hf b hb).1
 done:=by
  rintro X hP hw hK hc i pins s σ H E I hf ⟨hz,hTI,⟨a,b,hTO⟩,h1,h2⟩ hg
  subst hP hw hK
  obtain⟨xs,ys,hq1,hq2,hx⟩:=hg
  obtain⟨its1,rv1,p1,hz1⟩:=I.tuple hq1
  obtain⟨its2,rv2,p2,hz2⟩:=I.tuple hq2
  have hl1:=rv1.length
  have hl2:=rv2.length
  refine kUw (r1:=its1.toArray[i]?) (r2:=its2.toArray[i]?) (jX3 (I.ok.hd hc) D.l1i1) (jX3 (I.ok.hd hc) D.l2i2) (qUn D) (kJr D) (kJr D) (kJq D) (kJq D) hz hTI hTO ⟨h1,p1⟩ ⟨h2,p2⟩ (fun x' y' g1 ex ey _ _ _ _ _ _=> ?_) (fun g1 _ hk=>⟨rfl,kQt (t':=s.toks) (fp:=[z,TI,TO,i1,i2]) I (fun b o hb q=> ?_) hf⟩)
  ·have q1:i<its1.length:=by simpa using (lYm.mp ex).1
   have q2:i<its2.length:=by simpa using (lYm.mp ey).1
   omega
  ·exact hk b (fun m=>hb (by simp only[lJk,lKc,lKt] at m ⊢; rcases m with h | h | h | h<;>simp[h])) o q
 self:=fun _ _ _ _ _ ⟨hz,_⟩ h=>wpAny_pyIter_zip hz h
theorem qUo {n a b:Nat} (ha:a<n) (hb:b<n):ZipApart (n+4) (n+2) (n+3) n (n+1) a b:=by
 constructor<;>(show @Ne Nat _ _;omega)
def zipT (xs ys:List T):List T:=(xs.zip ys).map fun p=>T.tup [p.1,p.2]
end L3
namespace L3
open PySem
theorem atN {α:Type} {xs:List α} {n:Nat}:L2.atI xs (n:Int)=xs[n]? :=by
 unfold L2.atI L2.ixN
 by_cases h:n<xs.length
 ·simp[h]
 ·simp[h]
theorem at0 {α:Type} {x:α} {xs:List α}:L2.atI (x::xs) 0=some x:=(atN (n:=0)).trans rfl
theorem at1 {α:Type} {x y:α} {xs:List α}:L2.atI (x::y::xs) 1=some y:=(atN (n:=1)).trans rfl
theorem at2 {α:Type} {x y z:α} {xs:List α}:L2.atI (x::y::z::xs) 2=some z:=(atN (n:=2)).trans rfl
theorem atZ {α:Type} {xs:List α} {i:Int} (h:0<=i):L2.atI xs i=xs[i.toNat]? :=by
 obtain⟨n,rfl⟩:=lYn h
 simpa using atN
theorem qXq {n k:Nat} (h:k<n):L2.ixN n (k:Int)=some k:=by simp[L2.ixN,h]
theorem ix0 {n:Nat}:L2.ixN (n+1) 0=some 0:=qXq (k:=0) (by omega)
theorem ix1 {n:Nat}:L2.ixN (n+2) 1=some 1:=qXq (k:=1) (by omega)
theorem ix2 {n:Nat}:L2.ixN (n+3) 2=some 2:=qXq (k:=2) (by omega)
theorem ix30:L2.ixN 3 0=some 0:=ix0
theorem ix31:L2.ixN 3 1=some 1:=ix1
theorem ix32:L2.ixN 3 2=some 2:=ix2
theorem ixZ {n:Nat} {k:Int} (h0:0<=k) (h:k<n):L2.ixN n k=some k.toNat:=by simp[L2.ixN,h0,h]
theorem qUg {G:Gp} {i j:Int}:addR G (.int i) (.int j)=some (.val (.int (i+j))):=rfl
theorem jYj {G:Gp} {p q:Addr} {xs ys:List T} (h1:G p=some (.lst xs)) (h2:G q=some (.lst ys)) (hz:xs.length+ys.length<=sizeLine):addR G (.ref p) (.ref q)=some (.newL (xs++ys)):=by simp only[addR,h1,h2,hz,lKl]
theorem qQi {G:Gp} {i j:Int}:mulR G (.int i) (.int j)=some (.val (.int (i*j))):=rfl
theorem qQk {i j:Int}:mulC (.int i) (.int j)=L2.CMul i j:=rfl
theorem qQj {p:Addr} {j:Int}:mulC (.ref p) (.int j)=True:=rfl
theorem qX1 {t:T} {G:Gp} {Q:VK3}:fin3 (.val t) G Q=Q t G:=rfl
theorem qX2 {xs:List T} {G:Gp} {Q:VK3}:fin3 (.newL xs) G Q=∀p,G p=none->Q (.ref p) (gup G p (.lst xs)):=rfl
theorem qXm {G:Gp} {xs:List T} {i:Int}:ixR G (.tup xs) (.int i)=L2.atI xs i:=rfl
theorem qXn {G:Gp} {xs:List T} {i:Int}:ixR G (.scr xs) (.int i)=L2.atI xs i:=rfl
theorem jQ0 {G:Gp} {p:Addr} {xs:List T} {i:Int} (h:G p=some (.lst xs)):ixR G (.ref p) (.int i)=L2.atI xs i:=by simp only[ixR,seqT,h,asL]
theorem qKv {G:Gp} {p:Addr} {xs:List T} {k:Int} {j:Nat} {v:T} (h:G p=some (.lst xs)) (hj:L2.ixN xs.length k=some j):setR G (.ref p) (.int k) v=some (gup G p (.lst (xs.set j v))):=by simp only[setR,h,hj]
theorem qKx {G:Gp} {xs:List T}:seqT G (.tup xs)=some xs:=rfl
theorem jJh {G:Gp} {p:Addr} {xs:List T} (h:G p=some (.lst xs)):seqT G (.ref p)=some xs:=by simp only[seqT,h,asL]
theorem qUr {G:Gp} {p:Addr} {xs:List T} {k:Int} {v:T} (h:G p=some (.lst xs)):setR G (.ref p) (.int k) v=(L2.ixN xs.length k).map fun j=>gup G p (.lst (xs.set j v)):=by
 cases e:L2.ixN xs.length k with
 | none=>simp only[setR,h,e,Option.map_none]
 | some j=>simp only[setR,h,e,lQi]
theorem qKw {G:Gp} {p:Addr} {xs:List T} {k:Int} {v:T}:setR (gup G p (.lst xs)) (.ref p) (.int k) v=(L2.ixN xs.length k).map fun j=>gup G p (.lst (xs.set j v)):=by
 rw[qUr jJd];simp only[kZ6]
theorem qXo {G:Gp} {p:Addr} {xs:List T} {i:Int}:ixR (gup G p (.lst xs)) (.ref p) (.int i)=L2.atI xs i:=jQ0 jJd
theorem qKy {G:Gp} {p:Addr} {xs:List T}:seqT (gup G p (.lst xs)) (.ref p)=some xs:=jJh jJd
def ForAt (g:TG3) (tb:TS3) (D:Ends3) (τ:St3) (xs:List T) (stay:Gp->Prop) (G:Gp):Prop:=∃P:Nat->St3->Gp->Prop,P 0 τ G/\(∀i τ G,i<=xs.length->P i τ G->stay G)/\
 (∀i x τ G,xs[i]? =some x->P i τ G->g x τ G fun τ2 G2=>tb {D with nx:=P (i+1),ct:=P (i+1),bk:=D.nx} τ2 G2)/\∀ τ G,P xs.length τ G->D.nx τ G
theorem jKq {wi:TI3} {g:TG3} {tb:TS3} {D:Ends3} {τ:St3} {G:Gp}:tFor wi g tb D τ G=wi τ G fun xs stay G1=>ForAt g tb D τ xs stay G1:=rfl
def kV6 (mask:List Bool) (g:TG3) (tif:TT3) (te:TE3) (τ:St3) (xs:List T) (stay:Gp->Prop) (G:Gp) (Q:VK3):Prop:=kJo mask g tif te τ xs stay G Q
theorem qKq {mask:List Bool} {wi:TI3} {g:TG3} {tif:TT3} {te:TE3} {τ:St3} {G:Gp} {Q:VK3}:jKn mask wi g tif te τ G Q=wi τ G fun xs stay G1=>kV6 mask g tif te τ xs stay G1 Q:=rfl
def Sub (G G':Gp):Prop:=∀c o,G c=some o->G' c=some o
theorem Sub.refl (G:Gp):Sub G G:=fun _ _ h=>h
theorem Sub.trans {G G1 G2:Gp} (h:Sub G G1) (h':Sub G1 G2):Sub G G2:=fun c o e=>h' c o (h c o e)
theorem Sub.new {p:Addr} {G:Gp} {o:GO} (hp:G p=none):Sub G (gup G p o):=fun c u e=>by rw[jJp];exact e;rintro rfl;rw[hp] at e;cases e
theorem Sub.over {p:Addr} {G G':Gp} {o:GO} (h:Sub G G') (hp:G p=none):Sub G (gup G' p o):=fun c u e=>by rw[jJp];exact h c u e;rintro rfl;rw[hp] at e;cases e
theorem Sub.none {G G':Gp} {p:Addr} (h:Sub G G') (hp:G' p=none):G p=none:=by
 cases e:G p with
 | none=>rfl
 | some o=>rw[h p o e] at hp;cases hp
theorem jQb {G:Gp} {a p:Addr} {o:GO} (h:gup G a o p=none):p≠a/\G p=none:=by
 by_cases e:p=a
 ·subst e;rw[jJd] at h;cases h
 ·rw[jJp e] at h;exact⟨e,h⟩
theorem jJi {G:Gp} {a p:Addr} {o:GO} (h:G a=some o) (hp:G p=none):a≠p:=by rintro rfl;rw[h] at hp;cases hp
theorem jKk {α β:Type} {enc:α->β} {es:List α} {i:Nat} {x:β} (h:(es.map enc)[i]? =some x):∃e,es[i]? =some e/\x=enc e:=by
 rw[lJz] at h
 cases e1:es[i]? with
 | none=>rw[e1] at h;cases h
 | some e=>rw[e1] at h;exact⟨e,rfl,(lJ0 h).symm⟩
theorem jYf {α:Type} {mask:List Bool} {g:TG3} {tif:TT3} {te:TE3} {τ:St3} {es:List α} {enc:α->T} {stay:Gp->Prop} {G:Gp} {Q:VK3} (f:α->Option T) (hz:es.length<=sizeLine) (hst:∀G',Sub G G'->stay G')
  (h:∀(i:Nat) e,es[i]? =some e->∀G' (K:T->Gp->Prop) (K0:Gp->Prop),Sub G G'->(∀y G4,f e=some y->Sub G' G4->K y G4)->(f e=none->∀G4,Sub G' G4->K0 G4)->g (enc e) (msk mask τ) G' fun τ2 G2=>tif τ2 G2 fun b G3=>if b=true then te τ2 G3 K else K0 G3)
  (hq:∀D G',G D=none->G' D=some (.lst (es.filterMap f))->Sub G G'->Q (.ref D) G'):kV6 mask g tif te τ (es.map enc) stay G Q:=by
 intro D hD
 refine⟨fun i acc G'=>acc=(es.take i).filterMap f/\G' D=some (.lst acc)/\Sub G G',⟨by simp,jJd,.new hD⟩,?_,?_,?_⟩
 ·rintro i acc G' hi ⟨ea,eg,hs⟩
  exact⟨hst G' hs,eg⟩
 ·rintro i x acc G' hx0 ⟨ea,eg,hs⟩
  obtain⟨e,hx,rfl⟩:=jKk hx0
  have hi:i<es.length:=(lJq.mp hx).1
  have tk:es.take (i+1)=es.take i++[e]:=by rw[lK3,hx];rfl
  have hlen:acc.length<sizeLine:=by
   have h1:acc.length<=(es.take i).length:=by rw[ea];exact List.length_filterMap_le _ _
   rw[lK1] at h1;omega
  refine h i e hx G' _ _ hs (fun y G4 hy h4=>⟨h4 D _ eg,hlen,?_,jJd,(hs.trans h4).over hD⟩) fun hn G4 h4=>⟨?_,h4 D _ eg,hs.trans h4⟩
  ·rw[tk,List.filterMap_append,<-ea];simp[hy]
  ·rw[tk,List.filterMap_append,<-ea];simp[hn]
 ·rintro acc G' ⟨ea,eg,hs⟩
  rw[lJf,lQo] at ea
  rw[ea] at eg
  exact hq D G' hD eg hs
theorem jJ5 {α:Type} {mask:List Bool} {g:TG3} {tif:TT3} {te:TE3} {τ:St3} {es:List α} {enc:α->T} {stay:Gp->Prop} {G:Gp} {Q:VK3} (f:α->T) (hz:es.length<=sizeLine) (hst:∀G',Sub G G'->stay G')
  (h:∀(i:Nat) e,es[i]? =some e->∀G' (K:T->Gp->Prop) (K0:Gp->Prop),Sub G G'->(∀G4,Sub G' G4->K (f e) G4)->g (enc e) (msk mask τ) G' fun τ2 G2=>tif τ2 G2 fun b G3=>if b=true then te τ2 G3 K else K0 G3)
  (hq:∀D G',G D=none->G' D=some (.lst (es.map f))->Sub G G'->Q (.ref D) G'):kV6 mask g tif te τ (es.map enc) stay G Q:=by
 refine jYf (fun e=>some (f e)) hz hst (fun i e he G' K K0 hs hk _=>h i e he G' K K0 hs fun G4 h4=>hk _ G4 rfl h4) fun D G' hD h1 h2=>hq D G' hD ?_ h2
 rw[h1];congr 2;induction es with
 | nil=>rfl
 | cons a as ih=>simp
theorem jK2 {G:Gp} {p:Addr} {xs:List T} (h:G p=some (.lst xs)):tyT G "list" (.ref p)=True:=by simp[tyT,h]
theorem qVk {G:Gp} {p:Addr} {xs:List T}:tyT (gup G p (.lst xs)) "list" (.ref p)=True:=jK2 jJd
theorem jXr {α:Type} {mask:List Bool} {g:TG3} {tif:TT3} {te:TE3} {τ:St3} {es:List α} {enc:α->T} {stay:Gp->Prop} {G:Gp} {Q:VK3} (f:α->List T) (hz:es.length<=sizeLine) (hst:∀G',Sub G G'->stay G')
  (h:∀(i:Nat) e,es[i]? =some e->∀G' (K:T->Gp->Prop) (K0:Gp->Prop),Sub G G'->(∀p G4,G' p=none->G4 p=some (.lst (f e))->Sub G' G4->K (.ref p) G4)->g (enc e) (msk mask τ) G' fun τ2 G2=>tif τ2 G2 fun b G3=>if b=true then te τ2 G3 K else K0 G3)
  (hq:∀D rs G',G D=none->G' D=some (.lst (rs.map T.ref))->Sub G G'->rs.length=es.length->(D::rs).Nodup->(∀(i:Nat) (r:Addr) (e:α),rs[i]? =some r->es[i]? =some e->G r=none/\G' r=some (.lst (f e)))->Q (.ref D) G'):kV6 mask g tif te τ (es.map enc) stay G Q:=by
 intro D hD
 refine⟨fun i acc G'=>∃rs:List Addr,acc=rs.map T.ref/\rs.length=i/\G' D=some (.lst acc)/\Sub G G'/\(D::rs).Nodup/\(∀(i:Nat) (r:Addr) (e:α),rs[i]? =some r->es[i]? =some e->G r=none/\G' r=some (.lst (f e))),⟨[],rfl,rfl,jJd,.new hD,by simp,by simp⟩,?_,?_,?_⟩
 ·rintro i acc G' hi ⟨rs,ea,hl,eg,hs,hn,hr⟩
  exact⟨hst G' hs,eg⟩
 ·rintro i x acc G' hx0 ⟨rs,ea,hl,eg,hs,hn,hr⟩
  obtain⟨e,hx,rfl⟩:=jKk hx0
  have hi:i<es.length:=(lJq.mp hx).1
  have hlen:acc.length<sizeLine:=by rw[ea,lJf];omega
  refine h i e hx G' _ _ hs fun p G4 hp h4 s4=>⟨s4 D _ eg,hlen,rs++[p],by simp[ea],by simp[hl],jJd,(hs.trans s4).over hD,?_,?_⟩
  ·have hDp:D≠p:=jJi eg hp
   have hpr:p∉rs:=by
    intro hm
    obtain⟨j,hj⟩:∃j:Nat,_:=lKw hm
    have hjl:j<rs.length:=(lJq.mp hj).1
    have:=(hr j p es[j] hj (lJp (by omega))).2
    rw[hp] at this;cases this
   rw[lKu] at hn
   simp only[lKu,lJr,lJs,not_or,List.nodup_append,lKc,not_false_eq_true,List.nodup_nil,and_true]
   exact⟨⟨hn.1,hDp⟩,hn.2,trivial,fun a ha b hb=>by subst hb;rintro rfl;exact hpr ha⟩
  ·intro j r e' hj he'
   have hjl:j<rs.length+1:=by have:=(lJq.mp hj).1;simpa using this
   by_cases hjr:j<rs.length
   ·rw[lK9 hjr] at hj
    obtain⟨q1,q2⟩:=hr j r e' hj he'
    have:r≠D:=by rintro rfl;exact (lKu.mp hn).1 (lJx hj)
    exact⟨q1,by rw[jJp this];exact s4 _ _ q2⟩
   ·have hj2:j=rs.length:=by omega
    subst hj2
    rw[lK8 (lJg _)] at hj
    simp at hj
    subst hj
    rw[hl,hx] at he';cases he'
    exact⟨hs.none hp,by rw[jJp (jJi eg hp).symm];exact h4⟩
 ·rintro acc G' ⟨rs,ea,hl,eg,hs,hn,hr⟩
  rw[ea] at eg
  exact hq D rs G' hD eg hs (by simpa using hl) hn hr
end L3
namespace L3
open PySem PySem.Spec PyProof.Rows L2
section
variable {X:Cx}
def rAddE:R3:=fun x y G Q=>∃ys,x= .tup []/\y= .tup ys/\Q (.tup ys) G
theorem o_addE:Op3 X (binaryOp .Add) rAddE:=by
 rintro pins s τ G H x y v u Q ⟨σ,I,hs,hg⟩ ⟨a,ra,rv⟩ ⟨b,rb,ru⟩ ⟨ys,ex,ey,q⟩
 subst ex;subst ey
 obtain⟨pa,vs,rfl,h1,r1⟩:=(show ∃p vs,a= .ref p/\H p=some (.tup vs)/\Reps X.K H [] vs from ra)
 obtain⟨pb,ws,rfl,h2,r2⟩:=(show ∃p vs,b= .ref p/\H p=some (.tup vs)/\Reps X.K H ys vs from rb)
 cases rv;cases ru
 obtain⟨its,q1,p1,_⟩:=I.tuple (.of h1)
 obtain⟨its2,q2,p2,_⟩:=I.tuple (.of h2)
 have e0:its.toArray.isEmpty=true:=by
  have e1:=r1.length
  have e2:=q1.length
  have:its=[]:=List.eq_nil_of_length_eq_zero (by simp at e1;omega)
  rw[this];rfl
 obtain⟨⟨cls,dd,data,sl⟩,ho,hc,n,hd⟩:=id p1
 obtain⟨⟨cls2,dd2,data2,sl2⟩,ho2,hc2,n2,hd2⟩:=id p2
 simp only at hc hd hc2 hd2
 subst hc hd hc2 hd2
 exact concat_meets ⟨_,ho,rfl⟩ ⟨_,ho2,rfl⟩ noFill_tuple_add seq_tuple_add PySem.F.slot_tuple_add PySem.F.entry_tuple_add (lY3 _ _) (tuple_addW0 pa pb its.toArray its2.toArray n n2 dd dd2 sl sl2 e0)
  ⟨ho,ho2,.tup ys,G,H,.refl H,⟨σ,I,hs,hg⟩,⟨.ref pb,⟨pb,ws,rfl,h2,r2⟩,rfl⟩,q⟩
def kYw:R3:=fun x y G Q=>jQr x y G Q\/rAddE x y G Q
theorem qU4:Op3 X (binaryOp .Add) kYw:=o_addF.or o_addE
end
section
variable {X:Cx}
theorem qJ6 {K:PySem.W.Frag} {H:Hp} {y:T} {b:V} (ry:Rep K H y b) (fy:jVp y=true):∀ {xs:List T} {vs:List V} {us:List Value},Reps K H xs vs->Vals vs us->xs.all jVp=true->∀(m:Nat) (x:T) (u:Value),xs[m]? =some x->us[m]? =some u->eqU b u=eqT x y
 | [],_,_,_,_,_=>fun m x u h=>by simp at h
 | x::xs,_,_,⟨v,ws,e,r1,r2⟩,q,f=>by
  subst e
  cases q with
  | cons q1 q2=>
   rw[lQv,lK2] at f
   intro m z u hz hu
   cases m with
   | zero=>cases hz;cases hu;rw[qJi q1 (jYc r1 f.1),qJd r1 ry f.1 fy]
   | succ m=>exact qJ6 ry fy r2 q2 f.2 m z u hz hu
noncomputable def qUv:T->List T->Gp->VK3->Prop:=fun x as G Q=>∃(p:Addr) (xs:List T) (y z:T) (j:Nat),x= .ref p/\as=[y]/\G p=some (.lst xs)/\jVp y=true/\xs.all jVp=true/\xs[j]? =some z/\eqT z y=true/\(∀(m:Nat) (t:T),m<j->xs[m]? =some t->eqT t y=false)/\Q (.int j) G
theorem qXd:Mt3 X "list.index" qUv:=by
 rintro pins s τ G H x as v us Q ⟨σ,I,hs,hg⟩ ⟨a,ra,rv⟩ ⟨bs,rbs,rus⟩ ⟨p,xs,y,z,j,ex,ea,hp,fy,fs,hj,hit,hno,q⟩
 subst ex;subst ea
 cases (show a= .ref p from ra);cases rv
 obtain⟨b,rfl,rb⟩:=jUs rbs
 obtain⟨u,rfl,ru⟩:=rus.one
 obtain⟨vs,h1,h2⟩:=hg.lst hp
 obtain⟨hz,its,n,r,hl,e⟩:=I.lstM h1
 have fl:=(kJ8 rb fy h2 fs).1
 have hlen:its.length=xs.length:=by have:=r.length;have:=h2.length;omega
 have hjl:j<xs.length:=(lJq.mp hj).1
 have hsl:=jZ9
 refine lV7 F.slot_list_index ⟨_,e,rfl⟩ F.entry_list_index (F.args_list_index_2 _ _) (SeqAt.list_indexAt p its.toArray n none #[] u (eqU b) j (by simp;omega) (by omega) ?_ ?_) ⟨e,fun w hw=>jX7 ru (jYc rb fy) r fl w (by simpa using hw),?_⟩
 ·rw[qJ6 rb fy h2 r fs j z _ hj (by simp)];exact hit
 ·intro m hm hmj
  have hx:xs[m]? =some xs[m]:=lJp (by omega)
  rw[qJ6 rb fy h2 r fs m xs[m] _ hx (by simp)];exact hno m _ hmj hx
 ·exact⟨.int _,G,H,.refl H,⟨σ,I.tok _,hs,hg⟩,⟨.int _,rfl,s.toks,rfl⟩,q⟩
end
section
variable {X:Cx}
end
end L3
namespace L3
open PySem PySem.Spec PyProof.Rows L2 MeetsSeq
section
variable {X:Cx}
end
end L3
namespace L3
open PySem PySem.Spec PyProof.Rows L2
section
variable {X:Cx}
end
section
variable {X:Cx}
end
section
variable {P:Program} {w:World} {A:Around} {E:Value->Shared->Prop} {s:Shared} {d:Addr}
end
section
variable {X:Cx}
end
noncomputable def Itl (K:PySem.W.Frag) (a1 a2:Addr):It:=
 ⟨fun i H=>∃xs ys x y,SqL K H a1 xs/\SqL K H a2 ys/\xs[i]? =some x/\ys[i]? =some y,
  fun i H v H'=>∃p x y,H p=none/\v= .ref p/\(∀xs,SqL K H a1 xs->xs[i]? =some x)/\(∀ys,SqL K H a2 ys->ys[i]? =some y)/\H'=upd H p (.tup [x,y]),
  fun i H=>∃xs ys,SqL K H a1 xs/\SqL K H a2 ys/\(xs.length<=i\/ys.length<=i)⟩
theorem kX7 {P:Program} {w:World} {K:PySem.W.Frag} {elts:List Expr} {k:Nat} {pos:Pos} (z TI TO i1 i2 a1 a2:Addr) (D:ZipApart z TI TO i1 i2 a1 a2):
  Turn P w K (.Tuple elts k pos) (Itl K a1 a2) [z,TI,TO,i1,i2] z (fun i h=>IsZip h z TI TO .none/\IsPair h TI (.ref i1) (.ref i2)/\(∃a b,IsPair h TO a b)/\h.IsListIter i1 a1 i/\h.IsListIter i2 a2 i) where
 mem:=by simp
 obj:=fun i h ⟨hz,hTI,⟨a,b,hTO⟩,h1,h2⟩ c hc=>by
  simp only[lJk,lKc,lKt] at hc
  rcases hc with rfl | rfl | rfl | rfl | rfl
  ·exact⟨_,hz,fun v z=>nomatch (show Data.fields _=Data.cell v from z)⟩
  ·exact⟨_,hTI,fun v z=>nomatch (show Data.seq _ _=Data.cell v from z)⟩
  ·exact⟨_,hTO,fun v z=>nomatch (show Data.seq _ _=Data.cell v from z)⟩
  ·obtain⟨o,e,c,d⟩:=h1;exact⟨o,e,fun v z=>by rw[d] at z;cases z⟩
  ·obtain⟨o,e,c,d⟩:=h2;exact⟨o,e,fun v z=>by rw[d] at z;cases z⟩
 keep:=fun i h h' ⟨hz,hTI,⟨a,b,hTO⟩,h1,h2⟩ kp=>⟨kp z (by simp) _ hz,kp TI (by simp) _ hTI,⟨a,b,kp TO (by simp) _ hTO⟩,h1.at fun o q=>kp i1 (by simp) o q,h2.at fun o q=>kp i2 (by simp) o q⟩
 item:=by
  rintro X hP hw hK hc i pins s σ H E I hf ⟨hz,hTI,⟨a,b,hTO⟩,h1,h2⟩ hg
  subst hP hw hK
  obtain⟨xs,ys,x,y,hq1,hq2,hx,hy⟩:=hg
  obtain⟨its1,rv1,p1,hz1⟩:=I.list hq1
  obtain⟨its2,rv2,p2,hz2⟩:=I.list hq2
  obtain⟨u1,hu1,ru1⟩:=rv1.get hx
  obtain⟨u2,hu2,ru2⟩:=rv2.get hy
  refine wpAny_pyNext_zip_item D hz hTI hTO h1 h2 p1.isList p2.isList (x:=u1) (y:=u2) (by simpa using hu1) (by simpa using hu2) fun g1 ho gTO g3 g4 hT hsz hk=> ?_
  refine⟨_,rfl,wpAny_letOwnedTupleGo_zip ho fun g2 gz hs2=> ?_⟩
  have hzl:z<s.heap.objs.size:=lJi hz
  have hp2:∀b o,b∉[z,TI,TO,i1,i2]->s.heap.get? b=some o->g2.get? b=some o:=fun b o hb q=>by
   simp only[lJk,lKc,lKt,not_or] at hb
   exact (hs2.2 b hb.1).trans (hk b o hb.1 hb.2.2.1 hb.2.2.2.1 hb.2.2.2.2 q)
  have hT2:g2.get? s.heap.objs.size=some {cls:= .type "tuple",data:= .seq #[u1,u2]}:=(hs2.2 _ (lK0 hzl)).trans hT
  have I2:=jYl (t':=s.toks) (h':=g2) (p:=s.heap.objs.size) (vs:=[x,y]) (us:=[u1,u2]) I hp2 hf (lJg _) ⟨_,hT2,rfl,_,rfl,rfl⟩ (.cons ru1 (.cons ru2 .nil)) (by show 2<=sizeLine;decide)
  refine⟨.ref s.heap.objs.size,_,I2,rfl,⟨_,x,y,I.hok.fresh (lJg _),rfl,fun zs hz=>by rw[I.list_inj hz hq1];exact hx,fun zs hz=>by rw[I.list_inj hz hq2];exact hy,rfl⟩,
   ⟨gz,(hs2.2 _ D.TIz).trans (hk _ _ D.TIz D.TITO D.TIi1 D.TIi2 hTI),⟨_,_,(hs2.2 _ D.TOz).trans gTO⟩,g3.at fun o q=>(hs2.2 _ D.i1z).trans q,g4.at fun o q=>(hs2.2 _ D.i2z).trans q⟩,fun b hb=> ?_⟩
  have hbs:∃o,s.heap.get? b=some o:=by
   have hbq:=hb
   simp only[lJk,lKc,lKt] at hbq
   rcases hbq with rfl | rfl | rfl | rfl | rfl
   ·exact⟨_,hz⟩
   ·exact⟨_,hTI⟩
   ·exact⟨_,hTO⟩
   ·obtain⟨o,q,_⟩:=h1;exact⟨o,q⟩
   ·obtain⟨o,q,_⟩:=h2;exact⟨o,q⟩
  obtain⟨o,q⟩:=hbs
  rw[jJr (lJm (lJi q))]
  exact (hf b hb).1
 done:=by
  rintro X hP hw hK hc i pins s σ H E I hf ⟨hz,hTI,⟨a,b,hTO⟩,h1,h2⟩ hg
  subst hP hw hK
  obtain⟨xs,ys,hq1,hq2,hx⟩:=hg
  obtain⟨its1,rv1,p1,hz1⟩:=I.list hq1
  obtain⟨its2,rv2,p2,hz2⟩:=I.list hq2
  have hl1:=rv1.length
  have hl2:=rv2.length
  refine wpAny_pyNext_zip_end (I.ok.hd hc) D hz hTI hTO h1 h2 p1.isList p2.isList ?_ fun g1 hk=>⟨rfl,kQt (t':=s.toks) (fp:=[z,TI,TO,i1,i2]) I (fun b o hb q=> ?_) hf⟩
  ·rcases hx with hx | hx
   ·exact .inl (by simp;omega)
   ·exact .inr (by simp;omega)
  ·simp only[lJk,lKc,lKt,not_or] at hb
   exact hk b o hb.1 hb.2.2.1 hb.2.2.2.1 hb.2.2.2.2 q
 self:=fun _ _ _ _ _ ⟨hz,_⟩ h=>wpAny_pyIter_zip hz h
section
variable {X:Cx}
theorem jUm:∀ {is:List Int} {us:List Value},Vals (is.map V.int) us->∃ps:List (Int×Tok),us=ps.map (fun p=> .int p.1 p.2)/\ps.map (·.1)=is
 | [],_,.nil=>⟨[],rfl,rfl⟩
 | i::is,_,.cons ⟨t,e⟩ r=>by
  obtain⟨ps,e1,e2⟩:=jUm r
  subst e1;subst e2;subst e
  exact⟨(i,t)::ps,rfl,rfl⟩
end
section
variable {X:Cx}
end
section
variable {X:Cx}
noncomputable def kJn (tk tv:TE3):TE3:=fun τ G Q=>∀p,G p=none->tk τ (gup G p (.dct [])) fun x G1=>tv τ G1 fun y G2=>∃ys ks,x= .tup ys/\jUj ys=some ks/\G2 p=some (.dct [])/\Q (.ref p) (gup G2 p (.dct [(ks,y)]))
theorem qQ6 (hu:X.A.units+20<cLine) {pos:Pos} {k v:Expr} {tk tv:TE3} (hk:PE3 X k tk) (hv:PE3 X v tv):PE3 X (.Dict [some k] [v] pos) (kJn tk tv):=by
 rintro pins s τ G H Q ⟨σ,I,hs,hg⟩ h
 have hn:=I.hok.fresh (lJg s.heap.objs.size)
 have I1:=I.laid (a:=s.heap.objs.size) (o:= .dT []) (h':=s.heap.push {cls:= .type "dict",data:= .dict #[]}) (t':=s.toks) (fun _ _ q=>lJl _ q) (lJg _) (qQ9 s.heap I.big)
 have I3:Inv3 X pins τ (gup G s.heap.objs.size (.dct [])) (upd H s.heap.objs.size (.dT [])) {s with heap:=s.heap.push {cls:= .type "dict",data:= .dict #[]},toks:=s.toks}:=
  ⟨σ,I1,hs.mono (.upd (.none hn)),hg.upd (.none hn) (go:= .dct []) ⟨[],jJ3,.nil⟩⟩
 refine wpAny_Dict_any rfl rfl (by simp) (by simp) (pairTrees_cons_walk (thn (hk pins _ τ _ _ _ I3 (h _ (hg.fresh hn))) fun u s1 w_=>w_.el fun x G1 H1 e1 J1 ru q1=>thn (hv pins s1 τ G1 H1 _ J1 q1) fun u2 s2 w_=>w_.el fun y G2 H2 e2 i_ ru2 ⟨ys,ks,ex,hkey,hd,q2⟩=>i_.el fun σ2 J2 hs2 hg2=>pairTrees_nil_walk ?_))
 subst ex
 obtain⟨ws,hH2,pk⟩:=(show ∃ws,H2 s.heap.objs.size=some (.dT ws)/\PKV X.K H2 [] ws from hg2 _ _ hd)
 cases pk
 obtain⟨a,ra,rva⟩:=ru.mono e2
 obtain⟨c,rc,rvc⟩:=ru2
 obtain⟨q',vs,e,h3,h4⟩:=(show ∃q vs,a= .ref q/\H2 q=some (.tup vs)/\Reps X.K H2 ys vs from ra)
 subst e
 cases (show u=Value.ref q' from rva)
 have eb:=jQg hkey h3 h4
 obtain⟨z,hdd,xs,rel,dd⟩:=dt_of J2.hok hH2
 have hl:xs.length<=sizeLine:=by rw[<-lQ2 rel];exact z
 unfold storeAll
 rw[List.forIn_cons]
 refine lJa (lJa (wpAny_dictSet_heap (hsz:=hl) (knd:=jJm X.prog X.w) (show X.A.units+6<cLine by omega) (jZa J2.hok eb) dd fun h' dd' hsb=>lJd ?_))
 dsimp only
 rw[lX5]
 obtain⟨qo,es,ep,hq,k2,k3,k4,_,k5⟩:=dd'
 have JJ:=kUp (t':=s2.toks+(jJm X.prog X.w).draws ks) J2 (by rw[hH2];exact True.intro) hsb ⟨qo,hq⟩ (ob:= .dT (putK [] ks c)) ⟨by rw[lKs];exact Nat.succ_le_of_lt (lVy _),hdd,_,(rel.put ks eb rvc).keeps (fun b' ys' ec=>by rw[jJr (ne_of ec hH2 (fun z=>nomatch z))];exact ec),qo,es,ep,hq,k2,k3,k4,k5⟩
 have ext:Ext H2 (upd H2 s.heap.objs.size (.dT (putK [] ks c))):= .upd (.dT hH2)
 exact lJd ⟨.ref s.heap.objs.size,_,_,(((Ext.upd (.none hn)).trans e1).trans e2).trans ext,⟨σ2,JJ,hs2.mono ext,hg2.upd (.dT hH2) (go:= .dct [(ks,y)]) ⟨_,jJ3,PKV.put (kvs:=[]) .nil ks (Rep.mono ext _ rc)⟩⟩,⟨.ref _,rfl,rfl⟩,q2⟩
end
section
variable {X:Cx} {pos:Pos}
end
theorem szle {n:Nat} (h:Nat.ble n 16777216=true):n<=sizeLine:=by rw[PySem.sizeLine_eq];exact Nat.le_of_ble_eq_true h
end L3
namespace L3
theorem xe1 {A0:Type} {σ:Type} {f:A0->σ} {p:A0->Prop} {τ:σ} {C:σ->Prop} (h:∃a0,τ=f a0/\p a0) (k:∀a0,p a0->C (f a0)):C τ:=by
 obtain⟨a0,e,h⟩:=h;rw[e];exact k _ h
theorem xi1 {A0:Type} {σ:Type} {f:A0->σ} {p:A0->Prop} {τ:σ} (a0:A0) (e:τ=f a0) (h:p a0):∃a0,τ=f a0/\p a0:=⟨a0,e,h⟩
theorem xe2 {A0 A1:Type} {σ:Type} {f:A0->A1->σ} {p:A0->A1->Prop} {τ:σ} {C:σ->Prop} (h:∃a0 a1,τ=f a0 a1/\p a0 a1) (k:∀a0 a1,p a0 a1->C (f a0 a1)):C τ:=by
 obtain⟨a0,a1,e,h⟩:=h;rw[e];exact k _ _ h
theorem xi2 {A0 A1:Type} {σ:Type} {f:A0->A1->σ} {p:A0->A1->Prop} {τ:σ} (a0:A0) (a1:A1) (e:τ=f a0 a1) (h:p a0 a1):∃a0 a1,τ=f a0 a1/\p a0 a1:=⟨a0,a1,e,h⟩
theorem xe3 {A0 A1 A2:Type} {σ:Type} {f:A0->A1->A2->σ} {p:A0->A1->A2->Prop} {τ:σ} {C:σ->Prop} (h:∃a0 a1 a2,τ=f a0 a1 a2/\p a0 a1 a2) (k:∀a0 a1 a2,p a0 a1 a2->C (f a0 a1 a2)):C τ:=by
 obtain⟨a0,a1,a2,e,h⟩:=h;rw[e];exact k _ _ _ h
theorem xe4 {A0 A1 A2 A3:Type} {σ:Type} {f:A0->A1->A2->A3->σ} {p:A0->A1->A2->A3->Prop} {τ:σ} {C:σ->Prop} (h:∃a0 a1 a2 a3,τ=f a0 a1 a2 a3/\p a0 a1 a2 a3) (k:∀a0 a1 a2 a3,p a0 a1 a2 a3->C (f a0 a1 a2 a3)):C τ:=by
 obtain⟨a0,a1,a2,a3,e,h⟩:=h;rw[e];exact k _ _ _ _ h
theorem xe5 {A0 A1 A2 A3 A4:Type} {σ:Type} {f:A0->A1->A2->A3->A4->σ} {p:A0->A1->A2->A3->A4->Prop} {τ:σ} {C:σ->Prop} (h:∃a0 a1 a2 a3 a4,τ=f a0 a1 a2 a3 a4/\p a0 a1 a2 a3 a4) (k:∀a0 a1 a2 a3 a4,p a0 a1 a2 a3 a4->C (f a0 a1 a2 a3 a4)):C τ:=by
 obtain⟨a0,a1,a2,a3,a4,e,h⟩:=h;rw[e];exact k _ _ _ _ _ h
theorem xe6 {A0 A1 A2 A3 A4 A5:Type} {σ:Type} {f:A0->A1->A2->A3->A4->A5->σ} {p:A0->A1->A2->A3->A4->A5->Prop} {τ:σ} {C:σ->Prop} (h:∃a0 a1 a2 a3 a4 a5,τ=f a0 a1 a2 a3 a4 a5/\p a0 a1 a2 a3 a4 a5) (k:∀a0 a1 a2 a3 a4 a5,p a0 a1 a2 a3 a4 a5->C (f a0 a1 a2 a3 a4 a5)):C τ:=by
 obtain⟨a0,a1,a2,a3,a4,a5,e,h⟩:=h;rw[e];exact k _ _ _ _ _ _ h
theorem xe7 {A0 A1 A2 A3 A4 A5 A6:Type} {σ:Type} {f:A0->A1->A2->A3->A4->A5->A6->σ} {p:A0->A1->A2->A3->A4->A5->A6->Prop} {τ:σ} {C:σ->Prop} (h:∃a0 a1 a2 a3 a4 a5 a6,τ=f a0 a1 a2 a3 a4 a5 a6/\p a0 a1 a2 a3 a4 a5 a6) (k:∀a0 a1 a2 a3 a4 a5 a6,p a0 a1 a2 a3 a4 a5 a6->C (f a0 a1 a2 a3 a4 a5 a6)):C τ:=by
 obtain⟨a0,a1,a2,a3,a4,a5,a6,e,h⟩:=h;rw[e];exact k _ _ _ _ _ _ _ h
theorem ae2 {a0 a1 C:Prop} (h:a0/\a1) (k:a0->a1->C):C:=k h.1 h.2
theorem ae3 {a0 a1 a2 C:Prop} (h:a0/\a1/\a2) (k:a0->a1->a2->C):C:=k h.1 h.2.1 h.2.2
theorem ae4 {a0 a1 a2 a3 C:Prop} (h:a0/\a1/\a2/\a3) (k:a0->a1->a2->a3->C):C:=k h.1 h.2.1 h.2.2.1 h.2.2.2
theorem ae5 {a0 a1 a2 a3 a4 C:Prop} (h:a0/\a1/\a2/\a3/\a4) (k:a0->a1->a2->a3->a4->C):C:=k h.1 h.2.1 h.2.2.1 h.2.2.2.1 h.2.2.2.2
theorem ae6 {a0 a1 a2 a3 a4 a5 C:Prop} (h:a0/\a1/\a2/\a3/\a4/\a5) (k:a0->a1->a2->a3->a4->a5->C):C:=k h.1 h.2.1 h.2.2.1 h.2.2.2.1 h.2.2.2.2.1 h.2.2.2.2.2
end L3
namespace L3
open PySem PySem.Spec PyProof.Rows L2
section
variable {X:Cx}
end
theorem qVg {X:Cx} {elts:List Expr} {k:Nat} {tpos:Pos} {pins:List (Addr×Obj)} {s1:Shared} {τ:St3} {σ:L2.St} {G1:Gp} {H H1:Hp} {R:List T->(Gp->Prop)->Gp->Prop} {x y:T} {xs ys:List T} {v w:V} {u u':Value} (St:Gp->Prop) (hSt:∀G',St G'->jKt G' x=some xs/\jKt G' y=some ys)
  (e1:Ext H H1) (I1:Inv X pins σ H1 s1) (hs1:SRel X.K H1 σ τ) (hg1:GRel X.K H1 G1) (rv:Rep X.K H1 x v) (rw':Rep X.K H1 y w) (ru:RelV v u) (ru':RelV w u') (hx:jKt G1 x=some xs) (hy:jKt G1 y=some ys) (q:R (zipT xs ys) St G1):
  wpAny (model X.prog X.w) X.A (call (.type "zip") [u,u']) (fun v s1=>wpAny (model X.prog X.w) X.A (pyIter v) (PIE3 X pins τ H (.Tuple elts k tpos) R) X.xe s1) X.xe s1:=by
 obtain⟨pa,vs,rfl,hq1,r1⟩:=jK7 hg1 rv hx
 obtain⟨pb,ws,rfl,hq2,r2⟩:=jK7 hg1 rw' hy
 cases ru;cases ru'
 obtain⟨its1,rv1,p1,hz1⟩:=I1.list hq1
 obtain⟨its2,rv2,p2,hz2⟩:=I1.list hq2
 have hal:pa<s1.heap.objs.size:=by obtain⟨o,ho,_⟩:=p1.isList;exact lJi ho
 have hbl:pb<s1.heap.objs.size:=by obtain⟨o,ho,_⟩:=p2.isList;exact lJi ho
 refine call_zip_2 p1.isList p2.isList fun h1 hz hTI hTO hi1 hi2 hsz hk=> ?_
 have I2:Inv X pins σ H1 {s1 with heap:=h1}:=I1.kept (t':=s1.toks) hk
 refine wpAny_pyIter_zip hz ?_
 have fr:∀c∈[s1.heap.objs.size+4,s1.heap.objs.size+2,s1.heap.objs.size+3,s1.heap.objs.size,s1.heap.objs.size+1],FpOk X pins H1 c:=fun c hc=>by
  simp only[lJk,lKc,lKt] at hc
  have hle:s1.heap.objs.size<=c:=by omega
  exact I1.fpOk hle (I1.hok.fresh hle)
 have D:ZipApart (s1.heap.objs.size+4) (s1.heap.objs.size+2) (s1.heap.objs.size+3) s1.heap.objs.size (s1.heap.objs.size+1) pa pb:=qUo hal hbl
 refine⟨s1.heap.objs.size+4,_,_,_,zipT xs ys,St,G1,H1,rfl,e1,⟨σ,I2,hs1,hg1⟩,kX7 _ _ _ _ _ pa pb D,⟨hz,hTI,⟨_,_,hTO⟩,hi1,hi2⟩,fr,?_,q⟩
 intro i H2 G2 e2 g2 st0
 have st:=hSt G2 st0
 obtain⟨pa',vs',ea,ha',ra'⟩:=jK7 g2 (Rep.mono e2 _ rv) st.1
 obtain⟨pb',ws',eb,hbq,rb'⟩:=jK7 g2 (Rep.mono e2 _ rw') st.2
 cases ea;cases eb
 have hl1:=ra'.length
 have hl2:=rb'.length
 have hzl:(zipT xs ys).length=min xs.length ys.length:=by simp[zipT]
 refine⟨fun hi=> ?_,fun hi=>⟨vs',ws',ha',hbq,by omega⟩,fun hi y H' ⟨pp,x1,x2,hn,ey,hy1,hy2,eH⟩=> ?_⟩
 ·exact⟨vs',ws',vs'[i]'(by omega),ws'[i]'(by omega),ha',hbq,lJp _,lJp _⟩
 ·subst ey;subst eH
  obtain⟨t1,ht1,rt1⟩:=ra'.get' (hy1 vs' ha')
  obtain⟨t2,ht2,rt2⟩:=rb'.get' (hy2 ws' hbq)
  have hzi:(zipT xs ys)[i]? =some (.tup [t1,t2]):=by
   unfold zipT
   rw[lJz,show (xs.zip ys)[i]? =some (t1,t2) from lXe.mpr ⟨ht1,ht2⟩];rfl
  exact⟨.upd (.none hn),g2.tupNew hn,_,hzi,Rep.tupNew ⟨_,_,rfl,rt1,_,_,rfl,rt2,rfl⟩ hn⟩
theorem qVf {X:Cx} {elts:List Expr} {k:Nat} {tpos:Pos} {pins:List (Addr×Obj)} {s1:Shared} {τ:St3} {σ:L2.St} {G1:Gp} {H H1:Hp} {R:List T->(Gp->Prop)->Gp->Prop} {xs ys:List T} {v w:V} {u u':Value} (St:Gp->Prop)
  (e1:Ext H H1) (I1:Inv X pins σ H1 s1) (hs1:SRel X.K H1 σ τ) (hg1:GRel X.K H1 G1) (rv:Rep X.K H1 (.tup xs) v) (rw':Rep X.K H1 (.tup ys) w) (ru:RelV v u) (ru':RelV w u') (q:R (zipT xs ys) St G1):
  wpAny (model X.prog X.w) X.A (call (.type "zip") [u,u']) (fun v s1=>wpAny (model X.prog X.w) X.A (pyIter v) (PIE3 X pins τ H (.Tuple elts k tpos) R) X.xe s1) X.xe s1:=by
 obtain⟨pa,vs,rfl,hq1,r1⟩:=(show ∃p vs,v= .ref p/\H1 p=some (.tup vs)/\Reps X.K H1 xs vs from rv)
 obtain⟨pb,ws,rfl,hq2,r2⟩:=(show ∃p vs,w= .ref p/\H1 p=some (.tup vs)/\Reps X.K H1 ys vs from rw')
 cases ru;cases ru'
 obtain⟨its1,rv1,p1,hz1⟩:=I1.tuple (.of hq1)
 obtain⟨its2,rv2,p2,hz2⟩:=I1.tuple (.of hq2)
 have hal:pa<s1.heap.objs.size:=by obtain⟨o,ho,_⟩:=p1;exact lJi ho
 have hbl:pb<s1.heap.objs.size:=by obtain⟨o,ho,_⟩:=p2;exact lJi ho
 refine qKh (show s1.heap.IsTuple pa its1.toArray from p1) (show s1.heap.IsTuple pb its2.toArray from p2) fun h1 n hn hz hTI hTO hi1 hi2 hk=> ?_
 subst hn
 have I2:Inv X pins σ H1 {s1 with heap:=h1}:=I1.kept (t':=s1.toks) hk
 refine wpAny_pyIter_zip hz ?_
 have fr:∀c∈[s1.heap.objs.size+4,s1.heap.objs.size+2,s1.heap.objs.size+3,s1.heap.objs.size,s1.heap.objs.size+1],FpOk X pins H1 c:=fun c hc=>by
  simp only[lJk,lKc,lKt] at hc
  have hle:s1.heap.objs.size<=c:=by omega
  exact I1.fpOk hle (I1.hok.fresh hle)
 have D:ZipApart (s1.heap.objs.size+4) (s1.heap.objs.size+2) (s1.heap.objs.size+3) s1.heap.objs.size (s1.heap.objs.size+1) pa pb:=qUo hal hbl
 refine⟨s1.heap.objs.size+4,_,_,_,zipT xs ys,St,G1,H1,rfl,e1,⟨σ,I2,hs1,hg1⟩,qKp _ _ _ _ _ pa pb D,⟨hz,hTI,⟨_,_,hTO⟩,hi1.1,hi2.1⟩,fr,?_,q⟩
 intro i H2 G2 e2 g2 _
 obtain⟨pa',vs',ea,ha',ra'⟩:=(show ∃p vs,V.ref pa= .ref p/\H2 p=some (.tup vs)/\Reps X.K H2 xs vs from Rep.mono e2 _ rv)
 obtain⟨pb',ws',eb,hbq,rb'⟩:=(show ∃p vs,V.ref pb= .ref p/\H2 p=some (.tup vs)/\Reps X.K H2 ys vs from Rep.mono e2 _ rw')
 cases ea;cases eb
 have hl1:=ra'.length
 have hl2:=rb'.length
 have hzl:(zipT xs ys).length=min xs.length ys.length:=by simp[zipT]
 refine⟨fun hi=> ?_,fun hi=>⟨vs',ws',.of ha',.of hbq,by omega⟩,fun hi y H' ⟨pp,x1,x2,hn,ey,hy1,hy2,eH⟩=> ?_⟩
 ·exact⟨vs',ws',vs'[i]'(by omega),ws'[i]'(by omega),.of ha',.of hbq,lJp _,lJp _⟩
 ·subst ey;subst eH
  obtain⟨t1,ht1,rt1⟩:=ra'.get' (hy1 vs' (.of ha'))
  obtain⟨t2,ht2,rt2⟩:=rb'.get' (hy2 ws' (.of hbq))
  have hzi:(zipT xs ys)[i]? =some (.tup [t1,t2]):=by
   unfold zipT
   rw[lJz,show (xs.zip ys)[i]? =some (t1,t2) from lXe.mpr ⟨ht1,ht2⟩];rfl
  exact⟨.upd (.none hn),g2.tupNew hn,_,hzi,Rep.tupNew ⟨_,_,rfl,rt1,_,_,rfl,rt2,rfl⟩ hn⟩
noncomputable def qQw (ta:TA3):TI3:=fun τ G R=>ta τ G fun vs G1=>∃x y xs ys,vs=[x,y]/\((x= .tup xs/\y= .tup ys/\R (zipT xs ys) (fun _=>True) G1)\/(jKt G1 x=some xs/\jKt G1 y=some ys/\R (zipT xs ys) (fun G'=>jKt G' x=some xs/\jKt G' y=some ys) G1))
theorem i_zipB {X:Cx} {elts:List Expr} {k:Nat} {tpos pos p:Pos} {a b:Expr} {ta:TA3} (hg:Gl X "zip") (hm:X.mg "zip"=none) (hv:bootBuiltins "zip"=some (.type "zip")) (ha:PA3 X [a,b] ta) (hs:starEach [a,b] X.env=[(false,eval a X.env),(false,eval b X.env)]:=by rfl) (hs2:starEach [b] X.env=[(false,eval b X.env)]:=by rfl):
  PI3 X (.Tuple elts k tpos) (.Call (.Name "zip" p) [a,b] [] pos) (qQw ta):=by
 intro pins s τ G H R I h
 obtain⟨σ0,I0,hs0,hg0⟩:=id I
 refine Call_ (jUv I0 hg hm hv (lVg (thn (ha pos pins s τ G H _ I h) fun us s1 w_=>w_.el fun xs' G1 H1 e1 i_ r_ q1=>i_.el fun σ I1 hs1 hg1=>r_.el fun as ras rvs=> ?_) (by rw[hs,hs2]) (by rw[hs2];rfl)))
 obtain⟨x,y,xs,ys,e,hx⟩:=q1
 subst e
 obtain⟨v,w,rfl,rv,rw'⟩:=kXf ras
 obtain⟨u,u',rfl,ru,ru'⟩:=rvs.two
 rcases hx with ⟨rfl,rfl,q⟩ | ⟨hx,hy,q⟩
 ·exact qVf _ e1 I1 hs1 hg1 rv rw' ru ru' q
 ·exact qVg _ (fun G' h=>h) e1 I1 hs1 hg1 rv rw' ru ru' hx hy q
section
variable {X:Cx}
end
section
variable {X:Cx}
end
section
variable {X:Cx}
end
section
variable {X:Cx}
end
section
variable {P:Program} {w:World} {A:Around} {E:Value->Shared->Prop} {s:Shared} {d it:Addr} {o:Obj} {es:Array DictEntry} {ep i:Nat}
end
section
variable {X:Cx}
end
theorem jJ1:∀(names:List (Str×NameKind)) (n:Nat) (acc:List (Str×Addr)),cellsFrom n names acc=cellsFrom n names []++acc
 | [],_,_=>rfl
 | (x,k)::r,n,acc=>by
  unfold cellsFrom
  split
  ·rw[jJ1 r (n+1) ((x,n)::acc),jJ1 r (n+1) [(x,n)]];simp
  ·exact jJ1 r n acc
theorem jQe {x:Str} {c:Addr}:∀(names:List (Str×NameKind)) (n:Nat) (acc:List (Str×Addr)),(x,c)∈cellsFrom n names acc->(x,c)∈acc\/(x,NameKind.cell)∈names
 | [],_,_,h=> .inl h
 | (y,k)::r,n,acc,h=>by
  unfold cellsFrom at h
  split at h
  ·rename_i hk
   rcases jQe r _ _ h with z | z
   ·rcases (lJk.mp z) with q | q
    ·cases q;rw[show k= .cell from eq_of_beq hk];exact .inr lJ1
    ·exact .inl q
   ·exact .inr (lJ2 _ z)
  ·exact (jQe r _ _ h).imp id (lJ2 _)
theorem jQ1 {x:Str}:∀(names:List (Str×NameKind)) (n:Nat) (acc:List (Str×Addr)),(∃c,acc.lookup x=some c)->∃c,(cellsFrom n names acc).lookup x=some c
 | [],_,_,h=>h
 | (y,k)::r,n,acc,h=>by
  unfold cellsFrom
  split
  ·refine jQ1 r _ _ ?_
   rw[lKg]
   cases x == y with
   | true=>exact⟨_,rfl⟩
   | false=>exact h
  ·exact jQ1 r _ _ h
theorem jJ0 {x:Str}:∀(names:List (Str×NameKind)) (n:Nat) (acc:List (Str×Addr)),(x,NameKind.cell)∈names->∃c,(cellsFrom n names acc).lookup x=some c
 | [],_,_,h=>by cases h
 | (y,k)::r,n,acc,h=>by
  unfold cellsFrom
  rcases (lJk.mp h) with z | z
  ·cases z
   rw[lJc (show (NameKind.cell == NameKind.cell)=true from rfl)]
   exact jQ1 r _ _ ⟨n,by rw[lKg];simp⟩
  ·split
   ·exact jJ0 r _ _ z
   ·exact jJ0 r _ _ z
theorem jVj {env:Env} {x:Str}:∀(names:List (Str×NameKind)),
  (names.map fun (n,k)=>if (k == NameKind.free&&env.scope.kind == .function&&env.kindOf n == some .cell) then (n,NameKind.cell) else (n,k)).lookup x=
   (names.lookup x).map fun k=>if (k == NameKind.free&&env.scope.kind == .function&&env.kindOf x == some .cell) then NameKind.cell else k
 | []=>rfl
 | (n,k)::r=>by
  rw[lJo,lKg (b:=k)]
  by_cases hx:(x == n)=true
  ·obtain rfl:x=n:=eq_of_beq hx
   by_cases hf:(k == NameKind.free&&env.scope.kind == .function&&env.kindOf x == some .cell)=true
   ·simp only[hf,lKl,lKg,hx,lQi]
   ·simp only[hf,lKj,lKn,lKg,hx,lQi]
  ·by_cases hf:(k == NameKind.free&&env.scope.kind == .function&&env.kindOf n == some .cell)=true
   ·simp only[hf,lKl,lKg,hx];exact jVj r
   ·simp only[hf,lKj,lKn,lKg,hx];exact jVj r
theorem jXu {scope:Scope} {env:Env} {x:Str} (h:(relabel scope env).names.lookup x=some .cell\/(relabel scope env).names.lookup x=some .free):scope.names.lookup x=some .free\/scope.names.lookup x=some .cell:=by
 have e:(relabel scope env).names.lookup x=_:=jVj (env:=env) scope.names
 rw[e] at h
 cases hq:scope.names.lookup x with
 | none=>rw[hq] at h;simp at h
 | some k=>
  rw[hq,lQi] at h
  by_cases hf:(k == NameKind.free&&env.scope.kind == .function&&env.kindOf x == some .cell)=true
  ·have:(k == NameKind.free)=true:=by rw[lK2,lK2] at hf;exact hf.1.1
   rw[eq_of_beq this];exact .inl rfl
  ·rw[lJb hf] at h
   exact h.symm
noncomputable def jK1 (X:Cx) (scope:Scope) (cl:List (Str×Addr)) (C:Addr) (fp:List Addr) (s:Shared) (H:Hp):Cx:=
 {X with env:=compEnvC scope (cellsFrom (C+1) scope.names cl) C X.env,s₀:=s,H₀:=H,outer:=X.stack,stack:=X.stack,ex:=fp,fn:=fun x=>scope.names.lookup x == some .cell,pn:=[],xe:=fun _ _=>False}
structure CmpOkC (X:Cx) (scope:Scope) (cl:List (Str×Addr)) (mask:List Bool):Prop where
 cl:clGo X.env scope.names []=some cl
 kind:scope.kind= .function
 cells:(scope.names.all fun y=>y.2 != .cell||scope.names.lookup y.1 == some .cell)=true
 names:(scope.names.all fun y=>y.2 != .local||scope.names.lookup y.1 == some .local)=true
 vis:(scope.names.all fun y=>y.2 != .free||X.env.kindOf y.1 == some .cell||X.env.kindOf y.1 == some .free)=true
 len:mask.length=X.N.length
 mask:((X.N.zip mask).all fun p=>p.2||(scope.names.lookup p.1 != some .local&&scope.names.lookup p.1 != some .cell))=true
section
variable {A:Around} {E:Value->Shared->Prop} {s:Shared} {M:Model}
theorem jUl {scope:Scope} {globals:Addr} {closure:List (Str×Addr)} {qual:Str} {func:Option Addr} {code:Value} {outer:Env} {builtins:Addr} {Q:Env->Shared->Prop}
  (hQ:∀h',h'.Ns s.heap.objs.size (fun _=>none)->(∀b o,s.heap.get? b=some o->h'.get? b=some o)->CellsOk h' (s.heap.objs.size+1) (cellsFrom (s.heap.objs.size+1) scope.names [])->
   Q (newEnv scope s.heap.objs.size globals (cellsFrom (s.heap.objs.size+1) scope.names closure) qual func code (some outer) builtins) {s with heap:=h'}):
  wpAny M A (newFunctionEnv scope globals closure [] qual func code (some outer) builtins) Q E s:=by
 (simp only[newFunctionEnv,Option.isSome_some,lKl])
 (refine lJa (wpAny_alloc ?_))
 (refine lJa (wpAny_layCells _ (fun name kind cells=>by cases hkc:kind == NameKind.cell<;>simp[hkc]) _ _ _ _ ?_))
 have ok:=cellsFrom_ok scope.names (s.heap.push {cls:= .type "dict",data:= .dict #[]}) (s.heap.objs.size+1) [] ⟨fun _ _ hm=>(nomatch hm),List.Pairwise.nil⟩ (by rw[lQy];exact lJg _)
 rw[lQy] at ok
 rw[show ({s with heap:=s.heap.push {cls:= .type "dict",data:= .dict #[]} }:Shared).heap.objs.size=s.heap.objs.size+1 from lQy ..]
 refine lJa ?_
 rw[lX5]
 exact lJd (lJd (hQ _ ((Heap.Ns.new s.heap (.type "dict")).keeps (pushCells_keeps _ _)) (fun b o e=>pushCells_keeps _ _ b o (lJl _ e)) ok))
end
section
variable {X:Cx} {scope:Scope} {cl:List (Str×Addr)} {mask:List Bool}
theorem CmpOkC.local (c:CmpOkC X scope cl mask) {i:Nat} {x:Str} (h1:X.N[i]? =some x) (h2:mask[i]? =some false):scope.names.lookup x≠some .local/\scope.names.lookup x≠some .cell:=by
 have h:=c.mask
 rw[lKk] at h
 have hz:(X.N.zip mask)[i]? =some (x,false):=by rw[lXe];exact⟨h1,h2⟩
 have:=h _ (lJx hz)
 simpa using this
theorem CmpOkC.free (c:CmpOkC X scope cl mask) {x:Str} (h:scope.names.lookup x=some .free):X.env.kindOf x=some .cell\/X.env.kindOf x=some .free:=by
 have hv:=c.vis
 rw[lKk] at hv
 have:=hv (x,.free) (lJ3 h)
 simpa using this
theorem CmpOkC.nm (c:CmpOkC X scope cl mask):∀y∈scope.names,y.2= .local->scope.names.lookup y.1=some .local:=by
 have hv:=c.names
 rw[lKk] at hv
 intro y hy e
 have:=hv y hy
 rw[e] at this
 simpa using this
theorem CmpOkC.own (c:CmpOkC X scope cl mask) {x:Str} {d:Addr} {n:Nat} (h:(cellsFrom n scope.names []).lookup x=some d):scope.names.lookup x=some .cell:=by
 rcases jQe _ _ _ (lJ3 h) with z | z
 ·cases z
 ·have hv:=c.cells
  rw[lKk] at hv
  have:=hv _ z
  simpa using this
theorem CmpOkC.two (_:CmpOkC X scope cl mask) {x:Str} {d:Addr} {n:Nat} (h:(cellsFrom n scope.names cl).lookup x=some d):(cellsFrom n scope.names []).lookup x=some d\/((cellsFrom n scope.names []).lookup x=none/\cl.lookup x=some d):=by
 rw[jJ1,lXh] at h
 cases hf:(cellsFrom n scope.names []).lookup x with
 | none=>rw[hf] at h;exact .inr ⟨rfl,h⟩
 | some e=>rw[hf] at h;exact .inl h
theorem CmpOkC.apart (c:CmpOkC X scope cl mask) {pins:List (Addr×Obj)} {σ:L2.St} {H:Hp} {s:Shared} {h4:Heap} {b:Addr} {x:Str} {d:Addr} (hcs:CellsOk h4 (s.heap.objs.size+1) (cellsFrom (s.heap.objs.size+1) scope.names [])) (_:Inv X pins σ H s)
  (hf:∀x c,X.env.cells.lookup x=some c->c≠b) (hb:b<s.heap.objs.size) (h:(cellsFrom (s.heap.objs.size+1) scope.names cl).lookup x=some d):d≠b:=by
 rcases c.two h with z | ⟨_,z⟩
 ·have:=(hcs.empty _ _ (lJ3 z)).2
  exact lK0 (lJ7 hb (lX6 this))
 ·exact hf x d (jU5 c.cl (by simp) _ _ z)
theorem kXy (c:CmpOkC X scope cl mask) {pins:List (Addr×Obj)} {σ:L2.St} {H:Hp} {s:Shared} {fp:List Addr} {h4:Heap} {tk:Nat} (I:Inv X pins σ H s) (hf:∀b∈fp,FpOk X pins H b) (ho:∀b∈fp,∃o,s.heap.get? b=some o)
  (hns:h4.Ns s.heap.objs.size fun _=>none) (hk:∀b o,s.heap.get? b=some o->h4.get? b=some o) (hcs:CellsOk h4 (s.heap.objs.size+1) (cellsFrom (s.heap.objs.size+1) scope.names [])):
  Inv (jK1 X scope cl s.heap.objs.size fp s H) [] (msk mask σ) H {s with heap:=h4,toks:=tk}:=by
 have sub:=jU5 c.cl (by simp)
 have old:∀x d,cl.lookup x=some d->d<s.heap.objs.size:=fun x d h=>let ⟨_,q⟩:=I.cell x d (sub _ _ h);q.lt
 have new:∀x d,(cellsFrom (s.heap.objs.size+1) scope.names []).lookup x=some d->s.heap.objs.size+1<=d:=fun x d h=>(hcs.empty _ _ (lJ3 h)).2
 have fre:∀x d,scope.names.lookup x=some .free->cl.lookup x=some d->(cellsFrom (s.heap.objs.size+1) scope.names cl).lookup x=some d:=fun x d h1 h2=>by
  rw[jJ1,lXh]
  cases hq:(cellsFrom (s.heap.objs.size+1) scope.names []).lookup x with
  | none=>exact h2
  | some e=>exact absurd (c.own hq) (by rw[h1];simp)
 have ok:(jK1 X scope cl s.heap.objs.size fp s H).Ok:=by
  refine⟨I.ok.mod,c.kind,I.ok.glob,I.ok.blt,lJg _,fun x y d h1 h2=> ?_,fun x hx=> ?_,fun x d hx hd=> ?_,I.ok.hd,I.ok.gd,I.ok.frames,.inl rfl,
   fun b hb=> ?_,I.bs,lKd I.ok.bsz I.sz,fun b o e hb=> ?_,fun b hb hz=> ?_,I.stack,I.stkFree⟩
  ·rcases c.two h1 with z1 | ⟨_,z1⟩<;>rcases c.two h2 with z2 | ⟨_,z2⟩
   ·exact name_of_addr hcs.apart (lJ3 z1) (lJ3 z2)
   ·exact absurd (lJ7 (old _ _ z2) (lX6 (new _ _ z1))) (lQn _)
   ·exact absurd (lJ7 (old _ _ z1) (lX6 (new _ _ z2))) (lQn _)
   ·exact I.ok.inj x y d (sub _ _ z1) (sub _ _ z2)
  ·have hx':=jXu (scope:=scope) (env:=X.env) hx
   rcases hx' with z | z
   ·obtain⟨d,hd⟩:=jU6 c.cl z
    exact⟨d,fre x d z hd⟩
   ·exact jJ0 _ _ _ (lJ3 z)
  ·have hx':scope.names.lookup x=some .cell:=eq_of_beq hx
   rcases c.two hd with z | ⟨z,_⟩
   ·exact lX6 (new _ _ z)
   ·obtain⟨e,he⟩:=jJ0 scope.names (s.heap.objs.size+1) [] (lJ3 hx')
    rw[he] at z;cases z
  ·obtain⟨o,e⟩:=ho b hb
   exact⟨lJm (lJi e),fun x d hd=>c.apart hcs I (hf b hb).2.2.2.2.1 (lJi e) hd⟩
  ·rcases (hf b hb).2.2.2.1 with z | z
   ·exact I.ok.noex b o e z
   ·exact absurd (lJ7 (lJi e) I.ok.bsz) (Nat.not_lt.mpr z)
  ·rcases lJk.mp (I.stkSub b hz) with z | z
   ·exact (hf b hb).2.1 z
   ·exact (hf b hb).2.2.1 z
 refine⟨ok,rfl,I.bare,Un.kept hk,⟨_,hns,fun i x v h1 h2 h3=> ?_⟩,fun x d hd=> ?_,I.hok.fresh (lJg _),fun x d hd=> ?_,fun p hp=>absurd (show p∈([]:List (Addr×Obj)) from hp) (by simp),I.hok.kept hk,?_⟩
 ·obtain⟨m1,m2⟩:=jY6 h2
  obtain⟨nl,nc⟩:=c.local h1 m1
  have fr:scope.names.lookup x=some .free:=by
   rcases h3 with z | z
   ·exact absurd (jKr (env:=X.env) z) nl
   ·exact (jXu (scope:=scope) (env:=X.env) z).elim id fun q=>absurd q nc
  have hkk:=c.free fr
  obtain⟨m,hn,hl⟩:=I.loc
  have vis:Vis X.env.scope x:=by rcases hkk with z | z;exact .inr (.inl z);exact .inr (.inr z)
  obtain⟨u,ru,lk⟩:=hl i x v h1 m2 vis
  refine⟨u,ru,?_⟩
  rcases lk with ⟨z,_⟩ | ⟨_,d,hd,cd⟩
  ·exfalso;rcases hkk with q | q<;>(rw[z] at q;cases q)
  ·obtain⟨d',hd'⟩:=jU6 c.cl fr
   have:d'=d:=by have:=sub _ _ hd';rw[hd] at this;exact (lJ0 this).symm
   subst this
   refine .inr ⟨?_,d',fre x d' fr hd',cd.keeps hk⟩
   rcases h3 with z | z
   ·exact absurd (jKr (env:=X.env) z) nl
   ·exact z
 ·rcases c.two hd with z | ⟨_,z⟩
  ·exact⟨none,(hcs.empty _ _ (lJ3 z)).1⟩
  ·obtain⟨v,hv⟩:=I.cell x d (sub _ _ z)
   exact⟨v,hv.keeps hk⟩
 ·rcases c.two hd with z | ⟨z0,z⟩
  ·exact .inl (I.hok.fresh (lX6 (new _ _ z)))
  ·have hq0:(scope.names.lookup x == some .cell)=false:=by
    cases hq:scope.names.lookup x == some .cell with
    | false=>rfl
    | true=>
     obtain⟨e,he⟩:=jJ0 scope.names (s.heap.objs.size+1) [] (lJ3 (eq_of_beq hq))
     rw[he] at z0;cases z0
   exact (I.freeC x d (sub _ _ z)).imp id fun q=>⟨hq0,q.2⟩
 ·exact (jUd (c.len.trans I.len.symm)).trans I.len
theorem qUb {pins:List (Addr×Obj)} {σ σ':L2.St} {H H':Hp} {s s':Shared} {fp:List Addr} {pl:List (Addr×Obj)} {C:Addr} (I:Inv X pins σ H s) (hf:∀b∈fp,FpOk X pins H b) (hC:s.heap.objs.size<=C)
  (J:Inv (jK1 X scope cl C fp s H) pl σ' H' s') {h':Heap} (hb:Heap.SameBut C s'.heap h'):Inv X pins σ H' {s' with heap:=h'}:=by
 have ne:∀b o,s.heap.get? b=some o->b≠C:=fun b o e=>lJm (lJ7 (lJi e) hC)
 have u:=J.base
 have hfree:H' C=none:=J.free
 have u':Un (frs X.stack) fp H H' s.heap h':=⟨fun b o e n hb' hx=>(hb.2 b (ne b o e)).trans (u.keep b o e n hb' hx),fun b o e n hb' hx=>let ⟨sl,z⟩:=u.slot b o e n hb' hx;⟨sl,(hb.2 b (ne b o e)).trans z⟩,
  u.free,fun b o e hx=>let ⟨o',z⟩:=u.there b o e hx;⟨o',(hb.2 b (ne b o e)).trans z⟩,u.tups,u.frzs,u.tbls⟩
 have hok:HOk X.prog X.w H' h':=fun b ob e=>(J.hok b ob e).stay (fun c w' hc q=>(hb.2 c (by
  rintro rfl
  rcases hc with rfl | hc
  ·rw[hfree] at e;cases e
  ·rw[hfree] at hc;cases hc)).trans q) (fun _ q=>q) fun _ _ q=>q
 exact I.call' (s':={s' with heap:=h'}) J.os u' hok J.bare fun b hb=>⟨(hf b hb).2.2.2.1,(hf b hb).2.1,(hf b hb).2.2.2.2.1,(hf b hb).2.2.2.2.2⟩
end
section
variable {X:Cx} {scope:Scope} {cl:List (Str×Addr)} {mask:List Bool} {elt iter tg:Expr} {ifs:List Expr} {pos:Pos} {wi:TI3} {g:TG3} {tif:TT3} {te:TE3}
theorem kUr (hc:X.calm=true) (ok:CmpOkC X scope cl mask)
  (hgk:kQr mask g) (hg:∀C fp s H,PG3 (jK1 X scope cl C fp s H) tg g) (hif:∀C fp s H,PIf3 (jK1 X scope cl C fp s H) ifs tif) (he:∀C fp s H,PE3 (jK1 X scope cl C fp s H) elt te)
  {pins:List (Addr×Obj)} {τ:St3} {H:Hp} {Q:VK3} {itv:Value} {s2:Shared} {E:Value->Shared->Prop} {RR:Value->Addr->Result->Shared->Prop}
  (h2:PIE3 X pins τ H tg (fun xs stay G=>kJo mask g tif te τ xs stay G Q) itv s2)
  (hRR:∀D C s' m,s'.heap.Ns C m->(∃G1 H1,Ext H H1/\H1 C=none/\Q (.ref D) G1/\∀h',Heap.SameBut C s'.heap h'->Inv3 X pins τ G1 H1 {s' with heap:=h'})->(∃oC,s'.heap.get? C=some oC/\C≠X.env.locals/\C∉X.fs/\∀v,oC.data≠ .cell v)->(∀x c,X.env.cells.lookup x=some c->c≠C)->(∀p∈X.pn++pins,p.1≠C)->X.s₀.heap.objs.size<=C->RR (.ref D) C (.ok .next) s'):
  wpAny (model X.prog X.w) X.A (newList []) (fun acc s₃=>wpAny (model X.prog X.w) X.A (newFunctionEnv scope X.env.globals cl [] X.env.qual none .none (some X.env)) (fun cenv s₄=>
   codeAny (model X.prog X.w) X.A (.compStart (.ListComp elt [⟨tg,iter,ifs,0⟩] scope pos) 0 itv acc {cenv with scope:=relabel scope X.env}) (RR acc cenv.locals) s₄) E s₃) E s2:=by
 obtain⟨it,fp,tn,J,xs,stay,G2,H2,e,eH,⟨σ,I2,hs2,hg2⟩,T0,st2,f2,IT,hq⟩:=h2
 subst e
 refine lQl (jUl fun h4 hns hk4 hcs=> ?_)
 dsimp only at hns hk4 hcs ⊢
 have hD:H2 s2.heap.objs.size=none:=I2.hok.fresh (lJg _)
 generalize hs3:({s2 with heap:=s2.heap.push {cls:= .type "list",dict:=none,data:= .seq ([]:List Value).toArray} }:Shared)=s3
 have eh3:s2.heap.push {cls:= .type "list",dict:=none,data:= .seq ([]:List Value).toArray}=s3.heap:=by rw[<-hs3]
 have I3:Inv X pins σ (upd H2 s2.heap.objs.size (.lst [])) s3:=by
  rw[<-hs3]
  exact I2.laid (t':=s2.toks) (fun b u e=>lJl _ e) (lJg _) ⟨lJ6 _,[],0,.nil,lJ8 _ rfl⟩
 rw[eh3] at hns hk4 hcs ⊢
 generalize hDd:s2.heap.objs.size=D at *
 have e3:Ext H2 (upd H2 D (.lst [])):= .upd (.none hD)
 have hg3:GRel X.K (upd H2 D (.lst [])) (gup G2 D (.lst [])):=hg2.lstNew (show Reps X.K H2 [] [] from rfl) (.none hD)
 have obj2:∀b∈fp,∃o,s2.heap.get? b=some o:=fun b hb=>let ⟨o,e,_⟩:=T0.obj 0 _ st2 b hb;⟨o,e⟩
 have fD:∀b∈fp,b≠D:=fun b hb=>by obtain⟨o,e⟩:=obj2 b hb;rw[<-hDd];exact lJm (lJi e)
 have f3:∀b∈fp,FpOk X pins (upd H2 D (.lst [])) b:=fun b hb=>⟨by rw[jJr (fD b hb)];exact (f2 b hb).1,(f2 b hb).2⟩
 have k3:∀b o,s2.heap.get? b=some o->s3.heap.get? b=some o:=fun b o e=>by rw[<-eh3];exact lJl _ e
 have obj3:∀b∈fp,∃o,s3.heap.get? b=some o:=fun b hb=>let ⟨o,e⟩:=obj2 b hb;⟨o,k3 b o e⟩
 have k4:∀b o,s3.heap.get? b=some o->h4.get? b=some o:=hk4
 have Ic:Inv (jK1 X scope cl s3.heap.objs.size fp s3 (upd H2 D (.lst []))) [] (msk mask σ) (upd H2 D (.lst [])) {s3 with heap:=h4,toks:=s3.toks}:=kXy ok I3 f3 obj3 hns k4 hcs
 have st4:tn 0 h4:=T0.keep _ _ _ st2 fun b _ o e=>k4 b o (k3 b o e)
 have hl3:mask.length=τ.length:=ok.len.trans (I3.len.symm.trans hs2.1)
 obtain⟨P,p0,hst,turn,fin⟩:=hq D (hg2.fresh hD)
 have fpc:∀ {H':Hp} {pl:List (Addr×Obj)},(∀b∈fp,H' b=none)->(∀p∈pl,p.1∉fp)->∀b∈fp,FpOk (jK1 X scope cl s3.heap.objs.size fp s3 (upd H2 D (.lst []))) pl H' b:=fun {H' pl} hn hp b hb=>by
  obtain⟨o,e⟩:=obj3 b hb
  refine⟨hn b hb,lJm (lJi e),?_,.inl hb,fun x d hd=>ok.apart hcs I3 (f3 b hb).2.2.2.2.1 (lJi e) hd,fun p hpp z=> ?_⟩
  ·intro z
   rcases lJk.mp (I3.stkSub b z) with q | q
   ·exact (f3 b hb).2.1 q
   ·exact (f3 b hb).2.2.1 q
  ·have hpp':p∈pl:=by simpa[jK1] using hpp
   exact hp p hpp' (z▸hb)
 have loop:∀s4:Shared,s4={s3 with heap:=h4,toks:=s3.toks}->
   codeAny (model X.prog X.w) X.A (.compLoop (.ListComp elt [⟨tg,iter,ifs,0⟩] scope pos) 0 (.ref it) (.ref D) (compEnvC scope (cellsFrom (s3.heap.objs.size+1) scope.names cl) s3.heap.objs.size X.env)) (RR (.ref D) s3.heap.objs.size) s4:=by
  rintro s4 rfl
  refine kQd (fun n s'=>∃i acc G' H',n=xs.length-i/\i<=xs.length/\Ext H2 H'/\Inv3 (jK1 X scope cl s3.heap.objs.size fp s3 (upd H2 D (.lst []))) [] (msk mask τ) G' H' s'/\tn i s'.heap/\(∀b∈fp,H' b=none)/\P i acc G') ?_ xs.length
   ⟨0,[],_,_,rfl,lJ6 _,e3,⟨_,Ic,kJ3 (hs2.mono e3) hl3,hg3⟩,st4,fun b hb=>(f3 b hb).1,p0⟩
  rintro n s5 ⟨i,acc,G5,H5,en,hi5,e5,⟨σ5,I5,hs5,hg5⟩,st5,fr5,p5⟩
  obtain⟨hstay,hacc⟩:=hst i acc G5 hi5 p5
  obtain⟨go,stop,yl⟩:=IT i H5 G5 e5 hg5 hstay
  by_cases hlt:i<xs.length
  ·refine thn (T0.item (jK1 X scope cl s3.heap.objs.size fp s3 (upd H2 D (.lst []))) rfl rfl rfl hc i [] s5 σ5 H5 (fun _ _=>False) I5 (fpc fr5 (by simp)) st5 (go hlt)) fun r s6 ⟨u,hr,h6⟩=> ?_
   subst hr
   refine thn h6 fun _ s7 ⟨x,H7,I7,r7,y7,st7,fr7⟩=> ?_
   obtain⟨e7,g7,t,ht,rt⟩:=yl hlt x H7 y7
   have I7':=I7.pinned (fpc fr7 (by simp)) (T0.obj _ _ st7)
   refine thn (hg _ _ _ _ ([]++jQp fp s7.heap) s7 (msk mask τ) G5 H7 t u _ ⟨σ5,I7',hs5.mono e7,g7⟩ ⟨x,rt,r7⟩ (hgk _ _ _ _ (turn i t acc G5 ht p5))) fun _ s8 ⟨τ8,G8,H8,e8,I8,q8,ql8,qk8⟩=> ?_
   refine thn (hif _ _ _ _ ([]++jQp fp s7.heap) s8 τ8 G8 H8 _ I8 q8) fun b s9 ⟨G9,H9,e9,I9,q9⟩=> ?_
   have back:∀ {Ga:Gp} {Ha:Hp} {sa:Shared} {acc':List T},Ext H7 Ha->Inv3 (jK1 X scope cl s3.heap.objs.size fp s3 (upd H2 D (.lst []))) ([]++jQp fp s7.heap) τ8 Ga Ha sa->P (i+1) acc' Ga->
     ∃m,m<n/\∃i acc G' H',m=xs.length-i/\i<=xs.length/\Ext H2 H'/\Inv3 (jK1 X scope cl s3.heap.objs.size fp s3 (upd H2 D (.lst []))) [] (msk mask τ) G' H' sa/\tn i sa.heap/\(∀b∈fp,H' b=none)/\P i acc G':=by
    rintro Ga Ha sa acc' ea ⟨σa,Ia,hsa,hga⟩ pa
    have e2a:Ext H5 Ha:=e7.trans ea
    have hla:mask.length=τ8.length:=by rw[ql8,jUd hl3];exact hl3
    have hsm:=kJ3 (mask:=mask) hsa hla
    rw[kVe hl3 ql8 qk8] at hsm
    refine⟨xs.length-(i+1),by omega,i+1,acc',Ga,Ha,rfl,hlt,e5.trans e2a,⟨msk mask σa,(Ia.weak (jUd (hla.trans hsa.1.symm)) fun j v hv=>(jY6 hv).2).pins_of (fun p hp=>absurd hp (by simp)),hsm,hga⟩,?_,fun b hb=> ?_,pa⟩
    ·exact T0.keep _ _ _ st7 fun b hb o e=>(Ia.pin (b,o) (lJy _ (lJy _ (jQf hb e)))).1
    ·obtain⟨o,e,d⟩:=T0.obj _ _ st7 b hb
     exact (Ia.pin (b,o) (lJy _ (lJy _ (jQf hb e)))).2.1
   cases b with
   | false=>
    rw[lJb lJv] at q9 ⊢
    exact back (e8.trans e9) I9 q9
   | true=>
    rw[lJc rfl] at q9 ⊢
    refine thn (he _ _ _ _ ([]++jQp fp s7.heap) s9 τ8 G9 H9 _ I9 q9) fun y s10 w_=>w_.el fun ty G10 H10 e10 I10 r10 ⟨hD10,hz10,q10⟩=> ?_
    obtain⟨vy,rvy,ruy⟩:=r10
    refine thn (jUe ([]++jQp fp s7.heap) s10 τ8 G10 H10 (.ref D) [ty] (.ref D) [y] (fun _ G'=>P (i+1) (acc++[ty]) G') I10 ⟨.ref D,rfl,rfl⟩ ⟨[vy],.one rvy,.cons ruy .nil⟩ ⟨D,acc,ty,rfl,rfl,hD10,hz10,q10⟩) fun _ s11 w_=>w_.el fun _ G11 H11 e11 I11 _ q11=> ?_
    exact back (((e8.trans e9).trans e10).trans e11) I11 q11
  ·have ei:i=xs.length:=by omega
   refine thn (T0.done (jK1 X scope cl s3.heap.objs.size fp s3 (upd H2 D (.lst []))) rfl rfl rfl hc i [] s5 σ5 H5 (fun _ _=>False) I5 (fpc fr5 (by simp)) st5 (stop (by omega))) fun r s6 ⟨hr,I6⟩=> ?_
   subst hr;subst ei
   obtain⟨m,hn,_⟩:=I6.loc
   obtain⟨oC,es,ep,hoC,hdC,_⟩:=id hn
   refine hRR D s3.heap.objs.size s6 m hn ⟨G5,H5,eH.trans e5,I6.free,fin acc G5 p5,fun h' hb=>⟨σ,qUb I3 f3 (lJg _) I6 hb,hs2.mono e5,hg5⟩⟩
    ⟨oC,hoC,lK0 I3.lt,I3.nofs (lJg _),fun v z=>by rw[hdC] at z;cases z⟩ (fun x d hd=> ?_) (fun p hp=> ?_) I3.sz
   ·obtain⟨v,q⟩:=I3.cell x d hd
    exact lJm q.lt
   ·exact lJm (lJi (I3.pin p hp).1)
 exact codeAny_compStart_list (loop _ (by rw[<-hs3])) (T0.self _ 0 _ _ _ st4 (loop _ (by rw[<-hs3])))
theorem qX7 (hc:X.calm=true) (ok:CmpOkC X scope cl mask) (hi:PI3 X tg iter wi) (hgk:kQr mask g) (hg:∀C fp s H,PG3 (jK1 X scope cl C fp s H) tg g) (hif:∀C fp s H,PIf3 (jK1 X scope cl C fp s H) ifs tif) (he:∀C fp s H,PE3 (jK1 X scope cl C fp s H) elt te)
  (hs:∀x,foldedSetIterable iter X.env x=pure x:=by intro _;rfl):PE3 X (.ListComp elt [⟨tg,iter,ifs,0⟩] scope pos) (jKn mask wi g tif te):=by
 intro pins s τ G H Q I h
 rw[eval_ListComp]
 refine lZa (use:=none) rfl hs (jXs ok.cl) ok.kind ok.nm (thn (hi pins s τ G H _ I h) fun xv s1 h1=>thn h1 fun itv s2 h2=> ?_)
 refine kUr (RR:=fun acc C=>compPost (model X.prog X.w) X.A X.xe none (EP3 X pins τ H Q) acc C) hc ok hgk hg hif he h2 ?_
 rintro D C s' m hn ⟨G1,H1,e1,_,q1,hI⟩ _ _ _ _
 exact⟨m,hn,fun h' hb=>⟨.ref D,G1,H1,e1,hI h' hb,⟨.ref D,rfl,rfl⟩,q1⟩⟩
end
end L3
namespace L3
open PySem
def itr {α:Type} (f:α->α):Nat->α->α
 | 0,a=>a
 | n+1,a=>itr f n (f a)
theorem jQq {α:Type} (f:α->α):∀(m n:Nat) (a:α),itr f (m+n) a=itr f n (itr f m a)
 | 0,n,a=>by rw[lVh];rfl
 | m+1,n,a=>by rw[Nat.add_right_comm];exact jQq f m n (f a)
theorem jYb {α:Type} (f:α->α) (n:Nat) (a:α):itr f (n+1) a=f (itr f n a):=jQq f n 1 a
namespace St
open SetTable
theorem getD_at {xs:Array Nat} {k d:Nat} (h:k<xs.size):xs.getD k d=xs[k]:=by simp[Array.getD,h]
theorem qXu (xs:Array Nat) (j:Nat) (hs:∀a b:Nat,a<b->∀(hb:b<xs.size),xs.getD a 0<xs[b]):∀(fuel lo hi:Nat),hi<=xs.size->lo<=hi->hi-lo<=fuel->(∀k,k<lo->xs.getD k 0<j)->(∀k (h:k<xs.size),hi<=k->j<=xs[k])->
  (below.go xs j fuel lo hi)<=xs.size/\(∀k,k<below.go xs j fuel lo hi->xs.getD k 0<j)/\(∀k (h:k<xs.size),below.go xs j fuel lo hi<=k->j<=xs[k])
 | 0,lo,hi,h1,h2,h3,h4,h5=>by
  have e:hi=lo:=by omega
  subst e
  exact⟨h1,h4,h5⟩
 | fuel+1,lo,hi,h1,h2,h3,h4,h5=>by
  unfold below.go
  by_cases c:lo<hi
  ·rw[lJc c]
   have hm:(lo+hi) / 2<xs.size:=by omega
   by_cases d:xs.getD ((lo+hi) / 2) j<j
   ·simp only[d,lKl]
    refine qXu xs j hs fuel _ hi h1 (by omega) (by omega) (fun k hk=> ?_) h5
    rw[getD_at hm] at d
    by_cases e:k=(lo+hi) / 2
    ·subst e;rw[getD_at hm];exact d
    ·exact lQw (hs k _ (by omega) hm) d
   ·simp only[d,lKj]
    refine qXu xs j hs fuel lo _ (by omega) (by omega) (by omega) h4 fun k h hk=> ?_
    rw[getD_at hm] at d
    by_cases e:k=(lo+hi) / 2
    ·subst e;omega
    ·have:=hs ((lo+hi) / 2) k (by omega) h
     rw[getD_at hm] at this
     omega
  ·rw[lJb c]
   have e:hi=lo:=by omega
   subst e
   exact⟨h1,h4,h5⟩
def Ris (xs:Array Nat):Prop:=xs.toList.Pairwise (· < ·)
theorem Ris.lt {xs:Array Nat} (h:Ris xs) (a b:Nat) (hab:a<b) (hb:b<xs.size):xs.getD a 0<xs[b]:=by
 rw[getD_at (by omega)]
 have:=lY4.mp h a b (by simpa using (by omega:a<xs.size)) (by simpa using hb) hab
 simpa using this
theorem jYg {xs:Array Nat} (h:Ris xs) (j:Nat):below xs j<=xs.size/\(∀k,k<below xs j->xs.getD k 0<j)/\(∀k (h:k<xs.size),below xs j<=k->j<=xs[k]):=
 qXu xs j h.lt xs.size 0 xs.size (lJg _) (lJ6 _) (lJg _) (fun k hk=>absurd hk (lQ5 _)) fun k h1 h2=>absurd h1 (by omega)
theorem qUe {xs:Array Nat} (h:Ris xs) {i:Nat} (hi:i<xs.size):below xs xs[i]=i:=by
 obtain⟨h1,h2,h3⟩:=jYg h xs[i]
 rcases lYo (below xs xs[i]) i with c | c | c
 ·have a:=h3 (below xs xs[i]) (by omega) (lJg _)
  have b:=h.lt _ i c hi
  rw[getD_at (by omega)] at b
  omega
 ·exact c
 ·have:=h2 i c
  rw[getD_at hi] at this
  omega
theorem below_next {xs:Array Nat} (h:Ris xs) {i:Nat} (hi:i<xs.size):below xs (xs[i]+1)=i+1:=by
 obtain⟨h1,h2,h3⟩:=jYg h (xs[i]+1)
 rcases lYo (below xs (xs[i]+1)) (i+1) with c | c | c
 ·have:=h3 i hi (by omega)
  omega
 ·exact c
 ·have a:=h2 (i+1) c
  have hi1:i+1<xs.size:=by omega
  rw[getD_at hi1] at a
  have b:=h.lt i (i+1) (by omega) hi1
  rw[getD_at hi] at b
  omega
theorem below_zero {xs:Array Nat} (h:Ris xs):below xs 0=0:=by
 obtain⟨h1,h2,h3⟩:=jYg h 0
 rcases Nat.eq_zero_or_pos (below xs 0) with c | c
 ·exact c
 ·exact absurd (h2 0 c) (lQ5 _)
theorem insertAt_ris {xs:Array Nat} (h:Ris xs) {j:Nat} (hj:j∉xs.toList):Ris (insertAt xs (below xs j) j):=by
 obtain⟨h1,h2,h3⟩:=jYg h j
 unfold Ris
 rw[SetTable.toList_insertAt,lKh,List.pairwise_cons]
 have up:∀b,b∈xs.toList.drop (below xs j)->j<b:=by
  intro b hb
  obtain⟨k,hk,e⟩:=lXi hb
  rw[lVw] at hk
  rw[List.getElem_drop] at e
  have hk':below xs j+k<xs.size:=by simp at hk;omega
  have:=h3 _ hk' (by omega)
  have e':xs[below xs j+k]=b:=by simpa using e
  have ne:b≠j:=fun z=>hj (z▸lVi hb)
  omega
 have dn:∀a,a∈xs.toList.take (below xs j)->a<j:=by
  intro a ha
  obtain⟨k,hk,e⟩:=lXi ha
  rw[lK1] at hk
  rw[lYp] at e
  have:=h2 k (by omega)
  rw[getD_at (by simp at hk;omega)] at this
  have e':xs[k]'(by simp at hk;omega)=a:=by simpa using e
  omega
 refine⟨List.Pairwise.sublist (lQu _ _) h,⟨up,List.Pairwise.sublist (lQ6 _ _) h⟩,?_⟩
 intro a ha b hb
 (rcases lJk.mp hb with rfl | hb)
 ·exact dn a ha
 ·exact lQw (dn a ha) (up b hb)
theorem has_nil (j:Nat):has #[] j=false:=rfl
theorem slot_cases {t:SetTable} (hd:t.dummies= #[]) (j:Nat):(t.slot j= .empty/\(Ris t.place->j∉t.place.toList))\/∃i,t.slot j= .live i/\∃h:i<t.place.size,t.place[i]=j/\i=below t.place j:=by
 unfold SetTable.slot
 by_cases c:(t.place[below t.place j]? == some j)=true
 ·right
  refine⟨below t.place j,?_,?_⟩
  ·simp only[c,lKl]
  ·have c':=eq_of_beq c
   obtain⟨h,e⟩:=lYm.mp c'
   exact⟨h,e,rfl⟩
 ·left
  refine⟨?_,fun hr hm=> ?_⟩
  ·rw[hd]
   simp only[c,has_nil,lKn,lKj]
  ·obtain⟨k,hk,e⟩:=lXi hm
   have hk':k<t.place.size:=by simpa using hk
   have e':t.place[k]=j:=by simpa using e
   apply c
   rw[<-e',qUe hr hk',lQb hk']
   exact beq_self_eq_true _
theorem slot_empty {t:SetTable} (hd:t.dummies= #[]) {j:Nat} (h:j∉t.place.toList):t.slot j= .empty:=by
 rcases slot_cases hd j with c | ⟨i,_,hi,e,_⟩
 ·exact c.1
 ·exact absurd (by rw[<-e];simp) h
theorem kYk (mask i:Nat):runEnd mask i-i<=9:=by unfold runEnd;split<;>omega
def kJi (t:SetTable) (p:Probe):Prop:=p.j=p.i/\p.more=runEnd t.mask p.i-p.i
theorem jYi (t:SetTable):∀(m:Nat) (p:Probe),m<=p.more->itr t.advance m p={p with j:=p.j+m,more:=p.more-m}
 | 0,p,_=>by cases p;rfl
 | m+1,p,h=>by
  show itr t.advance m (t.advance p)=_
  have e:t.advance p={p with j:=p.j+1,more:=p.more-1}:=by unfold SetTable.advance;rw[lJc (by omega)]
  rw[e,jYi t m _ (by show m<=p.more-1;omega)]
  simp only[Probe.mk.injEq,and_true,true_and]
  omega
theorem qUf (t:SetTable) (p:Probe):∃m,m<=p.more+1/\kJi t (itr t.advance m p)/\(itr t.advance m p).i=(leap t.mask p.i p.perturb).1/\(itr t.advance m p).perturb=p.perturb / 32:=by
 refine⟨p.more+1,lJg _,?_⟩
 rw[jYb,jYi t p.more p (lJg _)]
 unfold SetTable.advance
 rw[lJb (by show ¬ p.more-p.more>0;omega)]
 exact⟨⟨rfl,rfl⟩,rfl,rfl⟩
def lp (mask:Nat) (x:Nat×Nat):Nat×Nat:=leap mask x.1 x.2
theorem jZl (t:SetTable):∀(k:Nat) (p:Probe),kJi t p->∃m,m<=10*k/\kJi t (itr t.advance m p)/\((itr t.advance m p).i,(itr t.advance m p).perturb)=itr (lp t.mask) k (p.i,p.perturb)
 | 0,p,h=>⟨0,lJg _,h,rfl⟩
 | k+1,p,h=>by
  obtain⟨m,h1,h2,h3,h4⟩:=qUf t p
  obtain⟨m',h1',h2',h3'⟩:=jZl t k _ h2
  have hm:p.more<=9:=by rw[h.2];exact kYk _ _
  refine⟨m+m',by omega,?_,?_⟩
  ·rw[jQq];exact h2'
  ·rw[jQq,h3',h3,h4];rfl
theorem kUf (mask:Nat):∀(k:Nat) (x:Nat×Nat),(itr (lp mask) k x).2=x.2 / 32^k
 | 0,x=>by simp[itr]
 | k+1,x=>by
  show (itr (lp mask) k (lp mask x)).2=_
  rw[kUf mask k]
  show x.2 / 32 / 32^k=_
  rw[Nat.div_div_eq_div_mul,lVz,Nat.mul_comm]
def five (mask i:Nat):Nat:=(i*5+1)%(mask+1)
theorem kUg (mask:Nat):∀(k i:Nat),itr (lp mask) k (i,0)=(itr (five mask) k i,0)
 | 0,i=>rfl
 | k+1,i=>by
  show itr (lp mask) k (lp mask (i,0))=_
  have e:lp mask (i,0)=(five mask i,0):=by simp[lp,leap,five]
  rw[e];exact kUg mask k _
def orb (mask:Nat):Nat->Nat->List Nat
 | 0,_=>[]
 | n+1,i=>i::orb mask n (five mask i)
theorem kY6 (mask:Nat):∀(n i k:Nat),k<n->(orb mask n i)[k]? =some (itr (five mask) k i)
 | n+1,i,0,_=>rfl
 | n+1,i,k+1,h=>by
  show (orb mask n (five mask i))[k]? =_
  exact kY6 mask n _ k (by omega)
theorem kQ9 (mask:Nat):∀(n i:Nat),(orb mask n i).length=n
 | 0,_=>rfl
 | n+1,i=>by simp[orb,kQ9 mask n]
theorem kY5 {mask n i j:Nat} (h:j∈orb mask n i):∃k,k<n/\itr (five mask) k i=j:=by
 obtain⟨k,hk,e⟩:=lXi h
 rw[kQ9] at hk
 refine⟨k,hk,?_⟩
 have:=kY6 mask n i k hk
 rw[lJp (by rw[kQ9];exact hk),e] at this
 (exact (lJ0 this).symm)
def Full (mask:Nat):Prop:=(∀j,j<=mask->∃k,k<=mask/\itr (five mask) k 0=j)/\itr (five mask) (mask+1) 0=0
theorem kUk {mask:Nat} (h:(List.range (mask+1)).all (fun j=>(orb mask (mask+1) 0).contains j)=true) (h0:itr (five mask) (mask+1) 0=0):Full mask:=by
 refine⟨fun j hj=> ?_,h0⟩
 rw[lKk] at h
 have:=h j (lJt.mpr (by omega))
 obtain⟨k,hk,e⟩:=kY5 (List.contains_iff_mem.mp this)
 exact⟨k,by omega,e⟩
theorem full7:Full 7:=kUk (by decide +kernel) (by decide +kernel)
theorem full31:Full 31:=kUk (by decide +kernel) (by decide +kernel)
theorem full127:Full 127:=kUk (by decide +kernel) (by decide +kernel)
def bts (mask:Nat):Nat->Nat->Nat->Nat
 | 0,_,acc=>acc
 | n+1,i,acc=>bts mask n (five mask i) (acc ||| 2^i)
theorem qJ1 {mask j:Nat}:∀ {n i acc:Nat},(bts mask n i acc).testBit j=true->acc.testBit j=true\/j∈orb mask n i
 | 0,i,acc,h=> .inl h
 | n+1,i,acc,h=>by
  rcases qJ1 (n:=n) h with h | h
  ·rw[Nat.testBit_or,Bool.or_eq_true] at h
   rcases h with h | h
   ·exact .inl h
   ·rw[Nat.testBit_two_pow] at h
    exact .inr (by rw[show j=i from (lYh h).symm];exact lJ1 ..)
  ·exact .inr (lJ2 _ h)
theorem kVu {mask:Nat} (h:bts mask (mask+1) 0 0=2^(mask+1)-1) (h0:itr (five mask) (mask+1) 0=0):Full mask:=by
 refine⟨fun j hj=> ?_,h0⟩
 have hb:(bts mask (mask+1) 0 0).testBit j=true:=by rw[h,Nat.testBit_two_pow_sub_one];exact lJ5 (by omega)
 rcases qJ1 hb with z | z
 ·rw[Nat.zero_testBit] at z;cases z
 ·obtain⟨k,hk,e⟩:=kY5 z
  exact⟨k,by omega,e⟩
theorem full511:Full 511:=kVu (by decide +kernel) (by decide +kernel)
theorem full2047:Full 2047:=kVu (by decide +kernel) (by decide +kernel)
theorem Full.all {mask:Nat} (h:Full mask) {i j:Nat} (hi:i<=mask) (hj:j<=mask):∃k,k<=mask/\itr (five mask) k i=j:=by
 obtain⟨a,ha,ea⟩:=h.1 i hi
 obtain⟨b,hb,eb⟩:=h.1 j hj
 by_cases c:a<=b
 ·refine⟨b-a,by omega,?_⟩
  rw[<-ea,<-jQq,show a+(b-a)=b by omega,eb]
 ·refine⟨mask+1-a+b,by omega,?_⟩
  rw[<-ea,<-jQq,show a+(mask+1-a+b)=mask+1+b by omega,jQq,h.2,eb]
theorem qJ2 (h:Int):bits h<2^64:=by
 unfold bits
 have h1:=lV0 h (show (2^64:Int)≠0 by decide)
 have h2:=lV1 h (show (0:Int)<2^64 by decide)
 omega
theorem jZ1 (t:SetTable) (h:Int):kJi t (t.probeStart h):=⟨rfl,rfl⟩
theorem met {t:SetTable} (hf:Full t.mask) (h:Int) {j:Nat} (hj:j<=t.mask):∃n,n<=10*(t.mask+14)/\(itr t.advance n (t.probeStart h)).j=j:=by
 obtain⟨m,h1,h2,h3⟩:=jZl t 13 _ (jZ1 t h)
 have hp:(itr t.advance m (t.probeStart h)).perturb=0:=by
  have e:=lKo Prod.snd h3
  rw[kUf] at e
  refine e.trans (Nat.div_eq_of_lt (lJ7 (qJ2 h) (by decide)))
 have hi:(itr t.advance m (t.probeStart h)).i<=t.mask:=by
  have e:=lKo Prod.fst h3
  rw[jYb] at e
  have:(lp t.mask (itr (lp t.mask) 12 ((t.probeStart h).i,(t.probeStart h).perturb))).1<=t.mask:=by
   unfold lp leap
   exact lVj (Nat.mod_lt _ (lVy _))
  rw[<-e] at this
  exact this
 obtain⟨k,hk,ek⟩:=hf.all hi hj
 obtain⟨m',h1',h2',h3'⟩:=jZl t k _ h2
 refine⟨m+m',by omega,?_⟩
 rw[jQq,h2'.1]
 rw[hp,kUg] at h3'
 exact (lKo Prod.fst h3').trans ek
theorem qKb (t:SetTable) (p:Probe):(t.advance p).dummy=p.dummy:=by unfold SetTable.advance;split<;>rfl
def Miss (t:SetTable) (hashAt:Nat->Int) (h:Int) (j:Nat):Prop:=∃i,t.slot j= .live i/\hashAt i≠h
theorem pgo_ok {t:SetTable} (hd:t.dummies= #[]) (hashAt:Nat->Int) (h:Int):∀(n fuel:Nat) (p:Probe),t.slot (itr t.advance n p).j= .empty->n<fuel->p.dummy=none->
  (∃m,m<=n/\t.slot (itr t.advance m p).j= .empty/\(∀k,k<m->Miss t hashAt h (itr t.advance k p).j)/\probe.go t hashAt h fuel p=some (.empty (itr t.advance m p).j none))\/
  (∃m i,m<n/\t.slot (itr t.advance m p).j= .live i/\hashAt i=h/\(∀k,k<m->Miss t hashAt h (itr t.advance k p).j)/\probe.go t hashAt h fuel p=some (.candidate (itr t.advance m p).j i (itr t.advance (m+1) p)))
 | n,0,p,_,hn,_=>absurd hn (lQ5 _)
 | n,fuel+1,p,he,hn,hp=>by
  rcases slot_cases hd p.j with ⟨c,_⟩ | ⟨i,c,_⟩
  ·left
   refine⟨0,lJ6 _,c,fun k hk=>absurd hk (lQ5 _),?_⟩
   unfold probe.go
   rw[c,hp];rfl
  ·by_cases q:hashAt i=h
   ·right
    have n0:n≠0:=by rintro rfl;rw[show itr t.advance 0 p=p from rfl,c] at he;cases he
    refine⟨0,i,by omega,c,q,fun k hk=>absurd hk (lQ5 _),?_⟩
    unfold probe.go
    simp only[c,q,beq_self_eq_true,lKl]
    rfl
   ·have n0:n≠0:=by rintro rfl;rw[show itr t.advance 0 p=p from rfl,c] at he;cases he
    obtain⟨n',rfl⟩:∃n',n=n'+1:=⟨n-1,by omega⟩
    have e:probe.go t hashAt h (fuel+1) p=probe.go t hashAt h fuel (t.advance p):=by
     conv=>lhs;unfold probe.go
     have q':(hashAt i == h)=false:=by simpa using q
     simp only[c,q',lKn,lKj]
    have ih:=pgo_ok hd hashAt h n' fuel (t.advance p) he (by omega) (by rw[qKb];exact hp)
    rw[e]
    rcases ih with ⟨m,h1,h2,h3,h4⟩ | ⟨m,i',h1,h2,h3,h4,h5⟩
    ·left
     refine⟨m+1,by omega,h2,fun k hk=> ?_,h4⟩
     cases k with
     | zero=>exact⟨i,c,q⟩
     | succ k=>exact h3 k (by omega)
    ·right
     refine⟨m+1,i',by omega,h2,h3,fun k hk=> ?_,h5⟩
     cases k with
     | zero=>exact⟨i,c,q⟩
     | succ k=>exact h4 k (by omega)
end St
end L3
namespace L3
open PySem
namespace St
open SetTable
theorem fm_congr {α β:Type} {f g:α->Option β}:∀ {l:List α},(∀x,x∈l->f x=g x)->l.filterMap f=l.filterMap g
 | [],_=>rfl
 | a::l,h=>by rw[lVd,lVd,h a (lJ1 ..),fm_congr fun x hx=>h x (lJ2 _ hx)]
theorem jV4 {g f:Nat->Option Nat} {j k:Nat} (hf:f j=none) (hg:g j=some k) (he:∀i,i≠j->g i=f i):∀ {l:List Nat},l.Nodup->j∈l->(l.filterMap g).Perm (k::l.filterMap f)
 | [],_,h=>absurd h (lKc)
 | a::l,hn,h=>by
  rw[lKu] at hn
  by_cases e:a=j
  ·subst e
   rw[lX7 hg,lY5 hf]
   refine List.Perm.cons _ (List.Perm.of_eq (fm_congr fun x hx=>he x ?_))
   rintro rfl;exact hn.1 hx
  ·have ih:=jV4 hf hg he hn.2 ((lJk.mp h).resolve_left (fun z=>e z.symm))
   cases q:f a with
   | none=>rw[lY5 (by rw[he a e];exact q),lY5 q];exact ih
   | some b=>
    rw[lX7 (by rw[he a e];exact q),lX7 q]
    exact (List.Perm.cons b ih).trans (List.Perm.swap _ _ _)
def jKo (owner:Array (Option Nat)) (j:Nat):Option Nat:=owner.getD j none
def ChainO (t:SetTable) (owner:Array (Option Nat)) (h:Int) (j:Nat):Prop:=∃n,(itr t.advance n (t.probeStart h)).j=j/\∀k,k<n->jKo owner (itr t.advance k (t.probeStart h)).j≠none
structure Own (t:SetTable) (hashes:List Int) (owner:Array (Option Nat)) (n:Nat):Prop where
 size:owner.size=t.mask+1
 perm:((List.range (t.mask+1)).filterMap (jKo owner)).Perm (List.range n)
 chain:∀j i,jKo owner j=some i->∃h,hashes[i]? =some h/\ChainO t owner h j
theorem qXe {mask:Nat} {x:Nat×Nat} (hx:x.1<=mask):∀(k:Nat),(itr (lp mask) k x).1<=mask
 | 0=>hx
 | k+1=>by
  rw[jYb]
  unfold lp leap
  exact lVj (Nat.mod_lt _ (lVy _))
theorem kQ1 {mask i:Nat} (h:i<=mask):runEnd mask i<=mask:=by unfold runEnd;split<;>omega
theorem kYl (mask i:Nat):i<=runEnd mask i:=by unfold runEnd;split<;>omega
theorem qJa {t:SetTable} {owner:Array (Option Nat)} (hz:owner.size=t.mask+1):∀(fuel:Nat) (p:Probe),kJi t p->p.i<=t.mask->∀K,K<fuel->jKo owner (itr (lp t.mask) K (p.i,p.perturb)).1=none->
  ∃n j,layClean.free t.mask owner fuel p.i p.perturb=some j/\(itr t.advance n p).j=j/\j<=t.mask/\jKo owner j=none/\∀k,k<n->jKo owner (itr t.advance k p).j≠none
 | 0,p,_,_,K,hK,_=>absurd hK (lQ5 _)
 | fuel+1,p,hl,hi,K,hK,he=>by
  have hr:=kQ1 hi
  have hg:=kYl t.mask p.i
  have sl:∀k,k<runEnd t.mask p.i+1-p.i->((owner.getD (p.i+k) (some 0)).isNone=true↔jKo owner (p.i+k)=none):=by
   intro k hk
   unfold jKo
   have:p.i+k<owner.size:=by omega
   simp[Array.getD,this]
  have pj:∀k,k<runEnd t.mask p.i+1-p.i->(itr t.advance k p).j=p.i+k:=by
   intro k hk
   rw[jYi t k p (by rw[hl.2];omega)]
   show p.j+k=_
   rw[hl.1]
  unfold layClean.free
  cases q:(List.range (runEnd t.mask p.i+1-p.i)).find? (fun k=>(owner.getD (p.i+k) (some 0)).isNone) with
  | some k=>
   obtain⟨h1,as,bs,h2,h3⟩:=List.find?_eq_some_iff_append.mp q
   have hk:k<runEnd t.mask p.i+1-p.i:=by
    have:k∈List.range (runEnd t.mask p.i+1-p.i):=by rw[h2];simp
    exact lJt.mp this
   have ha:∀x,x<k->x∈as:=by
    intro x hx
    have e:as.length=k:=by
     have e1:(List.range (runEnd t.mask p.i+1-p.i))[as.length]? =some k:=by rw[h2];simp
     rw[lVk (by have:=lKo List.length h2;simp at this;omega)] at e1
     exact lJ0 e1
    have e2:(List.range (runEnd t.mask p.i+1-p.i))[x]? =as[x]? :=by rw[h2,lK9 (by omega)]
    rw[lVk (by omega)] at e2
    exact lJx e2.symm
   refine⟨k,p.i+k,rfl,pj k hk,by omega,(sl k hk).mp h1,fun x hx=> ?_⟩
   rw[pj x (by omega)]
   intro z
   have:=h3 x (ha x hx)
   rw[(sl x (by omega)).mpr z] at this
   exact absurd this (by decide)
  | none=>
   have none_:∀k,k<runEnd t.mask p.i+1-p.i->jKo owner (p.i+k)≠none:=by
    intro k hk z
    have:=lVl.mp q k (lJt.mpr hk)
    exact this ((sl k hk).mpr z)
   have K0:K≠0:=by
    rintro rfl
    exact none_ 0 (by omega) he
   obtain⟨K',rfl⟩:∃K',K=K'+1:=⟨K-1,by omega⟩
   have hm:p.more=runEnd t.mask p.i-p.i:=hl.2
   have e1:itr t.advance (p.more+1) p={p with j:=(leap t.mask p.i p.perturb).1,more:=runEnd t.mask (leap t.mask p.i p.perturb).1-(leap t.mask p.i p.perturb).1,i:=(leap t.mask p.i p.perturb).1,perturb:=(leap t.mask p.i p.perturb).2}:=by
    rw[jYb,jYi t p.more p (lJg _)]
    unfold SetTable.advance
    rw[lJb (by show ¬ p.more-p.more>0;omega)]
   have hl2:kJi t (itr t.advance (p.more+1) p):=by rw[e1];exact⟨rfl,rfl⟩
   have hi2:(itr t.advance (p.more+1) p).i<=t.mask:=by
    rw[e1];exact lVj (Nat.mod_lt _ (lVy _))
   obtain⟨n,j,g1,g2,g3,g4,g5⟩:=qJa hz fuel _ hl2 hi2 K' (by omega) (by rw[e1];exact he)
   refine⟨p.more+1+n,j,?_,?_,g3,g4,fun k hk=> ?_⟩
   ·rw[e1] at g1;exact g1
   ·rw[jQq];exact g2
   ·by_cases c:k<p.more+1
    ·rw[pj k (by omega)];exact none_ k (by omega)
    ·have:=g5 (k-(p.more+1)) (by omega)
     rw[<-jQq,show p.more+1+(k-(p.more+1))=k by omega] at this
     exact this
theorem jVw {owner:Array (Option Nat)} {j k:Nat} (hj:j<owner.size) (i:Nat):jKo (owner.setIfInBounds j (some k)) i=if i=j then some k else jKo owner i:=by
 unfold jKo
 rw[lXj,lXj,lYq]
 by_cases e:j=i
 ·subst e;simp[hj]
 ·rw[lJb e,lJb (fun z=>e z.symm)]
theorem kZ9 {t:SetTable} (hf:Full t.mask) {owner:Array (Option Nat)} {hashes:List Int} {n:Nat} (o:Own t hashes owner n) (hn:n<=t.mask) (h:Int):∃K,K<turns t.mask/\jKo owner (itr (lp t.mask) K ((t.probeStart h).i,(t.probeStart h).perturb)).1=none:=by
 have hex:∃j,j<=t.mask/\jKo owner j=none:=by
  apply lVc
  intro q
  have all:∀j,j∈List.range (t.mask+1)->(jKo owner j).isSome=true:=by
   intro j hj
   cases e:jKo owner j with
   | none=>exact absurd ⟨j,by have:=lJt.mp hj;omega,e⟩ q
   | some _=>rfl
  have len:∀l:List Nat,(∀j,j∈l->(jKo owner j).isSome=true)->(l.filterMap (jKo owner)).length=l.length:=by
   intro l hl
   induction l with
   | nil=>rfl
   | cons a l ih=>
    obtain⟨b,hb⟩:=lVe.mp (hl a (lJ1 ..))
    rw[lX7 hb,lJ9,lJ9,ih fun j hj=>hl j (lJ2 _ hj)]
  have:=o.perm.length_eq
  rw[len _ all,lKi,lKi] at this
  omega
 obtain⟨j,hj,e⟩:=hex
 have hs:(t.probeStart h).i<=t.mask:=lVj (Nat.mod_lt _ (lVy _))
 have h13:=kUf t.mask 13 ((t.probeStart h).i,(t.probeStart h).perturb)
 have z:(t.probeStart h).perturb / 32^13=0:=Nat.div_eq_of_lt (lJ7 (qJ2 h) (by decide))
 obtain⟨k,hk,ek⟩:=hf.all (qXe (x:=((t.probeStart h).i,(t.probeStart h).perturb)) hs 13) hj
 refine⟨13+k,by unfold turns;omega,?_⟩
 rw[jQq]
 generalize hy:itr (lp t.mask) 13 ((t.probeStart h).i,(t.probeStart h).perturb)=y at h13 ek
 obtain⟨y1,y2⟩:=y
 have y0:y2=0:=h13.trans z
 subst y0
 rw[kUg,ek]
 exact e
theorem qQc {t:SetTable} (hf:Full t.mask) {owner:Array (Option Nat)} {hashes:List Int} {n:Nat} {h:Int} (o:Own t hashes owner n) (hn:n<t.mask+1) (hh:hashes[n]? =some h) (hn':n<=t.mask):
  ∃j,layClean.free t.mask owner (turns t.mask) (bits h%(t.mask+1)) (bits h)=some j/\Own t hashes (owner.setIfInBounds j (some n)) (n+1):=by
 obtain⟨K,hK,eK⟩:=kZ9 hf o hn' h
 have hs:(t.probeStart h).i<=t.mask:=lVj (Nat.mod_lt _ (lVy _))
 obtain⟨m,j,g1,g2,g3,g4,g5⟩:=qJa o.size (turns t.mask) (t.probeStart h) (jZ1 t h) hs K hK eK
 have hj:j<owner.size:=by rw[o.size];omega
 have grow:∀i,jKo owner i≠none->jKo (owner.setIfInBounds j (some n)) i≠none:=by
  intro i hi
  rw[jVw hj]
  split
  ·simp
  ·exact hi
 refine⟨j,g1,by rw[lY6];exact o.size,?_,?_⟩
 ·refine (jV4 (f:=jKo owner) (j:=j) (k:=n) g4 (by rw[jVw hj,lJc rfl]) (fun i hi=>by rw[jVw hj,lJb hi]) (lXk) (lJt.mpr (by omega))).trans ?_
  rw[lXl (n:=n)]
  exact (List.Perm.cons n o.perm).trans (List.perm_append_singleton n _).symm
 ·intro i x hx
  rw[jVw hj] at hx
  by_cases e:i=j
  ·subst e
   rw[lJc rfl] at hx;cases hx
   exact⟨h,hh,m,g2,fun k hk=>grow _ (g5 k hk)⟩
  ·rw[lJb e] at hx
   obtain⟨h',e1,n',e2,e3⟩:=o.chain i x hx
   exact⟨h',e1,n',e2,fun k hk=>grow _ (e3 k hk)⟩
theorem kY4 (t:SetTable) (hashes:List Int):Own t hashes (Array.replicate (t.mask+1) none) 0:=by
 have z:∀j,jKo (Array.replicate (t.mask+1) none) j=none:=by
  intro j
  unfold jKo
  rw[lXj,Array.getElem?_replicate]
  split<;>rfl
 refine⟨by simp,?_,fun j i h=>by rw[z] at h;cases h⟩
 have:(List.range (t.mask+1)).filterMap (jKo (Array.replicate (t.mask+1) none))=[]:=by
  rw[List.filterMap_eq_nil_iff];intro j _;exact z j
 rw[this];exact List.Perm.nil
theorem qJb {t:SetTable} (hf:Full t.mask) (all:List Int) (hn:all.length<=t.mask):∀(l:List Int) (done:List Int) (owner:Array (Option Nat)),all=done++l->Own t all owner done.length->
  ∃owner',l.foldl (fun (acc:Option (Array (Option Nat)×Nat)) h=>do
   let (owner,k) <-acc
   let j <-layClean.free t.mask owner (turns t.mask) (bits h%(t.mask+1)) (bits h)
   pure (owner.setIfInBounds j (some k),k+1)) (some (owner,done.length))=some (owner',all.length)/\Own t all owner' all.length
 | [],done,owner,e,o=>by
  rw[lKz] at e;subst e
  exact⟨owner,rfl,o⟩
 | h::l,done,owner,e,o=>by
  have hlt:done.length<all.length:=by rw[e];simp
  obtain⟨j,h1,o'⟩:=qQc (h:=h) hf o (by omega) (by rw[e];simp) (by omega)
  have e':all=(done++[h])++l:=by rw[e];simp
  obtain⟨owner',h2,h3⟩:=qJb hf all hn l (done++[h]) _ e' (by simpa using o')
  refine⟨owner',?_,h3⟩
  rw[lQ4]
  have:(do
   let (owner,k) <-some (owner,done.length)
   let j <-layClean.free t.mask owner (turns t.mask) (bits h%(t.mask+1)) (bits h)
   pure (owner.setIfInBounds j (some k),k+1))=some (owner.setIfInBounds j (some done.length),done.length+1):=by
   show (layClean.free t.mask owner (turns t.mask) (bits h%(t.mask+1)) (bits h)).bind _=_
   rw[h1];rfl
  rw[this]
  simpa using h2
theorem kUj {t:SetTable} (hf:Full t.mask) (hashes:Array Int) (hn:hashes.size<=t.mask):∃owner,layClean t.mask hashes=some owner/\Own t hashes.toList owner hashes.size:=by
 obtain⟨owner,h1,h2⟩:=qJb hf hashes.toList (by simpa using hn) hashes.toList [] _ rfl (kY4 t _)
 refine⟨owner,?_,by simpa using h2⟩
 unfold layClean
 rw[<-Array.foldl_toList]
 have h1':=h1
 simp only[lQa] at h1'
 rw[h1'];rfl
def Chain (t:SetTable) (h:Int) (j:Nat):Prop:=∃n,(itr t.advance n (t.probeStart h)).j=j/\∀k,k<n->(itr t.advance k (t.probeStart h)).j∈t.place.toList
structure Good (t:SetTable) (hs:List Int):Prop where
 len:t.place.size=hs.length
 ris:Ris t.place
 dum:t.dummies= #[]
 chain:∀x,x∈t.place.toList.zip hs->Chain t x.2 x.1
theorem laid_ok {mask:Nat} (hf:Full mask) (finger moves:Nat) (led plain:Bool) (hashes:Array Int) (hn:hashes.size<=mask):
  ∃t order,laid mask finger moves led plain hashes=some (t,order)/\t.mask=mask/\t.led=led/\t.plain=plain/\order.toList.Perm (List.range hashes.size)/\Good t (order.toList.filterMap (hashes[·]?)):=by
 let t0:SetTable:={mask:=mask,place:= #[],dummies:= #[],finger:=finger,led:=led,moves:=moves,plain:=plain}
 obtain⟨owner,h1,o⟩:=kUj (t:=t0) hf hashes hn
 have hl:layClean mask hashes=some owner:=h1
 let live:=(List.range (mask+1)).filterMap fun j=>((owner.getD j none).map (j,·))
 refine⟨{mask:=mask,place:=(live.map (·.1)).toArray,dummies:= #[],finger:=finger,led:=led,moves:=moves,plain:=plain},(live.map (·.2)).toArray,?_,rfl,rfl,rfl,?_,?_⟩
 ·unfold laid
  rw[hl];rfl
 ·have e:live.map (·.2)=(List.range (mask+1)).filterMap (jKo owner):=by
   show ((List.range (mask+1)).filterMap fun j=>(owner.getD j none).map (j,·)).map (·.2)=_
   rw[List.map_filterMap]
   refine fm_congr fun j _=> ?_
   unfold jKo
   cases owner.getD j none<;>rfl
  show (live.map (·.2)).Perm _
  rw[e];exact o.perm
 ·have live_mem:∀j k,(j,k)∈live->jKo owner j=some k/\j<=mask:=by
   intro j k hm
   obtain⟨j',hj',e⟩:=lYk.mp hm
   obtain⟨k',e1,e2⟩:=lVf.mp e
   cases e2
   exact⟨e1,by have:=lJt.mp hj';omega⟩
  have mem_place:∀j,j∈live.map (·.1)↔jKo owner j≠none/\j<=mask:=by
   intro j
   constructor
   ·intro hm
    obtain⟨⟨j',k⟩,h2,rfl⟩:=lJj.mp hm
    obtain⟨h3,h4⟩:=live_mem _ _ h2
    exact⟨by rw[h3];simp,h4⟩
   ·rintro⟨h2,h3⟩
    obtain⟨k,hk⟩:=Option.ne_none_iff_exists'.mp h2
    refine lJj.mpr ⟨(j,k),lYk.mpr ⟨j,lJt.mpr (by omega),?_⟩,rfl⟩
    show (jKo owner j).map _=_
    rw[hk];rfl
  have hin:∀k,k∈live.map (·.2)->k<hashes.size:=by
   intro k hk
   obtain⟨⟨j,k'⟩,h2,rfl⟩:=lJj.mp hk
   obtain⟨h',e1,_⟩:=o.chain j k' (live_mem _ _ h2).1
   have:=(lJq.mp e1).1
   simpa using this
  have fm:∀l:List Nat,(∀k,k∈l->k<hashes.size)->∀i:Nat,(l.filterMap (hashes[·]?)).length=l.length/\(l.filterMap (hashes[·]?))[i]? =(l[i]?).bind (hashes[·]?):=by
   intro l
   induction l with
   | nil=>intro _ i;exact⟨rfl,by simp⟩
   | cons a l ih=>
    intro hl i
    have ha:=hl a (lJ1 ..)
    have e:hashes[a]? =some hashes[a]:=lQb ha
    have ih':=ih (fun k hk=>hl k (lJ2 _ hk))
    rw[lX7 e]
    refine⟨by rw[lJ9,lJ9,(ih' 0).1],?_⟩
    cases i with
    | zero=>simp[e]
    | succ i=>simpa using (ih' i).2
  refine⟨?_,?_,rfl,?_⟩
  ·show (live.map (·.1)).toArray.size=_
   rw[lJu,lJf]
   have:=(fm (live.map (·.2)) hin 0).1
   rw[lJf] at this
   exact this.symm
  ·show (live.map (·.1)).Pairwise (· < ·)
   rw[lXm]
   have:live.Pairwise fun a b=>a.1<b.1:=by
    show ((List.range (mask+1)).filterMap fun j=>(owner.getD j none).map (j,·)).Pairwise _
    rw[List.pairwise_filterMap]
    refine (List.pairwise_lt_range).imp fun {a b} hab x hx y hy=> ?_
    obtain⟨k,_,e⟩:=lVf.mp hx
    obtain⟨k',_,e'⟩:=lVf.mp hy
    rw[<-e,<-e'];exact hab
   exact this
  ·intro x hx
   obtain⟨i,hi,hxe⟩:=lXi hx
   rw[List.getElem_zip] at hxe
   obtain⟨xj,h⟩:=x
   obtain⟨pe,he⟩:=lQp hxe
   have hi':i<live.length:=by rw[lX8] at hi;have:=lJ7 hi (Nat.min_le_left _ _);simpa using this
   have hh:((live.map (·.2)).filterMap (hashes[·]?))[i]? =some h:=by rw[<-he];exact lJp _
   have pl:live[i].1=xj:=by rw[<-pe];simp
   show Chain _ h xj
   rw[<-pl]
   have e2:=(fm (live.map (·.2)) hin i).2
   have hh':((live.map (·.2)).filterMap (hashes[·]?))[i]? =some h:=hh
   rw[hh',lJz,lJp hi'] at e2
   have e3:hashes[live[i].2]? =some h:=e2.symm
   obtain⟨h3,h4⟩:=live_mem live[i].1 live[i].2 (lXn hi')
   obtain⟨h',e4,n,e5,e6⟩:=o.chain _ _ h3
   have:h'=h:=by
    have:hashes.toList[live[i].2]? =some h:=by simpa using e3
    rw[this] at e4;exact (lJ0 e4).symm
   subst this
   refine⟨n,e5,fun k hk=> ?_⟩
   show (itr t0.advance k (t0.probeStart h')).j∈live.map (·.1)
   refine (mem_place _).mpr ⟨e6 k hk,?_⟩
   apply lVc
   intro z
   refine e6 k hk ?_
   unfold jKo
   rw[lXj,lV2 (by rw[o.size];show mask+1<=_;omega)]
   rfl
end St
end L3
namespace L3
open PySem PySem.Spec PyProof.Rows L2
def jZn (h h':Heap):Prop:=∀b o,h.get? b=some o->o.cls= .type "tuple"->h'.get? b=some o
section
variable {prog:Program} {w:World} {K:Type} [DecidableEq K] {c:Nat}
def Stab (V:KeyV prog w K c):Prop:=∀ {h h':Heap} {k:K} {v:Value},jZn h h'->V.is h k v->V.is h' k v
theorem kXb {V:KeyV prog w K c} (hV:Stab V) {h h':Heap} (kp:jZn h h') {ks:List K} {vs:List Value} (hi:ItemsV V h ks vs):ItemsV V h' ks vs:=by
 induction hi with
 | nil=>exact .nil
 | cons a _ ih=>exact .cons (hV kp a) ih
theorem kUz {V:KeyV prog w K c} (hV:Stab V):Stab (jUn V):=by
 rintro h h' k v kp ⟨a,o,items,n,rfl,ho,hc,hd,hi⟩
 exact⟨a,o,items,n,rfl,kp a o ho hc,hc,hd,kXb hV kp hi⟩
theorem kU0 {V:KeyV prog w K c} (hV:Stab V):Stab (qKr V):=by
 rintro h h' (k | k) v kp hx
 ·exact hx
 ·exact kUz hV kp hx
theorem kYf:Stab (kJf prog w):=fun _ hx=>hx
theorem jVt {h h':Heap} {k:TKey} {a:Addr} (kp:jZn h h') (hx:(jJm prog w).is h k a):(jJm prog w).is h' k a:=kUz (kU0 (kU0 kYf)) kp hx
def intK:Key->Bool
 | .inl _=>true
 | .inr _=>false
def intS {α:Type} (f:α->Bool):Key ⊕ List α->Bool
 | .inl k=>intK k
 | .inr ks=>ks.all f
def intT:TKey->Bool:=fun ks=>ks.all (intS (intS intK))
end
section
variable {prog:Program} {w:World} {A:Around} {E:Value->Shared->Prop} {s:Shared}
def hashes (prog:Program) (w:World) (es:List (TKey×Addr)):List Int:=es.map fun e=>(jJm prog w).hash e.1
def MaskOk (mask n:Nat):Prop:=(mask=7/\n<=4)\/(mask=31/\n<=18)\/(mask=127/\n<=76)\/(mask=511/\n<=306)\/(mask=2047/\n<=1228)
theorem MaskOk.full {mask n:Nat} (h:MaskOk mask n):St.Full mask/\n<=mask/\mask%2=1:=by
 rcases h with ⟨rfl,h⟩ | ⟨rfl,h⟩ | ⟨rfl,h⟩ | ⟨rfl,h⟩ | ⟨rfl,h⟩
 ·exact⟨St.full7,by omega,rfl⟩
 ·exact⟨St.full31,by omega,rfl⟩
 ·exact⟨St.full127,by omega,rfl⟩
 ·exact⟨St.full511,by omega,rfl⟩
 ·exact⟨St.full2047,by omega,rfl⟩
theorem free_j {t:SetTable} (hd:t.dummies= #[]) (hn:t.place.size<=t.mask):∃j,j<=t.mask/\t.slot j= .empty:=by
 have:∃j,j<=t.mask/\j∉t.place.toList:=by
  apply lVc
  intro q
  have sub:(List.range (t.mask+1)) ⊆ t.place.toList:=by
   intro j hj
   apply lVc
   intro z
   exact q ⟨j,by have:=lJt.mp hj;omega,z⟩
  have:=lXk.length_le_of_subset sub
  simp at this
  omega
 obtain⟨j,h1,h2⟩:=this
 exact⟨j,h1,St.slot_empty hd h2⟩
end
section
variable {prog:Program} {w:World} {A:Around} {E:Value->Shared->Prop} {s:Shared}
theorem kYx {h:Heap} {a:Addr} {o:Obj} {arr:Array (Int×Value)} {ep:Nat} {t:SetTable} (ho:h.get? a=some o) (hd:o.data= .set arr ep t) (arr':Array (Int×Value)) (t':SetTable):
  (h.update a (Obj.putSet arr' t')).get? a=some {o with data:= .set arr' (ep+1) t'}:=by
 have:=lX0 (Obj.putSet arr' t') ho (by rw[putSet_of arr' t' hd];rfl)
 rw[putSet_of arr' t' hd] at this;exact this
theorem jZ7 {α:Type} {l:List Nat} {xs:List α} (hp:l.Perm (List.range xs.length)):(l.filterMap (xs[·]?)).Perm xs:=by
 have:=hp.filterMap (fun i=>xs[i]?)
 rw[List.filterMap_getElem?_range_length] at this
 exact this
theorem jY8 {α β:Type} (f:α->β) (xs:List α):∀l:List Nat,(l.filterMap (xs[·]?)).map f=l.filterMap ((xs.map f)[·]?)
 | []=>rfl
 | a::l=>by
  rw[lVd,lVd,lJz]
  cases xs[a]? with
  | none=>exact jY8 f xs l
  | some x=>rw[lJo,jY8 f xs l];rfl
end
section
variable {w:World} {prog:Program}
def bt (w:World):Bool:=w.params.followText "set-order"
section
variable {A:Around} {R:Result->Shared->Prop} {I:Addr} {fp:List Addr} {G:Array GenState->Array GenState->Prop} {n:Nat} {P:Nat->Value->Prop} {St:Nat->Shared->Prop}
end
section
variable {E:Value->Shared->Prop} {s:Shared} {A:Around}
theorem qKt (a:Value) {Q₁:Value->Shared->Prop}
  (h:Q₁ (.ref s.heap.objs.size) {s with heap:=s.heap.push {cls:= .type "set",dict:=none,data:= .set #[] 0 (.fresh 0 0 (!bt w))} }):codeAny (model prog w) A (.call (.builtin "set.__new__") ⟨[.type "set",a],[]⟩) (wants Q₁ E) s:=by
 refine codeAny_of_tree ?_
 refine (show wpAny _ A.in1 (do checkBuiltinCall "set.__new__" ⟨[.type "set",a],[]⟩;again (.builtin "set.__new__" ⟨[.type "set",a],[]⟩)) _ _ s from ?_)
 (refine lJa (wpAny_of_eq (F.newCall_set_1 a) (lJd ⟨lQt F.plain_set_new _,lQm F.entry_set_new ?_⟩)))
 (rw[lQq F.plain_set_new _])
 (unfold Builtin.«set.__new__» Builtin.Frozenset.newClass)
 have hsub:=sub_set_self
 (obtain⟨hp,g,d,tk,os⟩:=s)
 dsimp only
 wp_walk
 (refine lYi (lJd ?_))
 dsimp only
 simp only[newObj]
 (refine lJa (wpAny_alloc (lJd ?_)))
 exact lJd h
def jVe (w:World):Obj:={cls:= .type "set",dict:=none,data:= .set #[] 0 (.fresh 0 0 (!bt w))}
end
end
namespace Si
theorem own:Manifest.owners.lookup (String.ofList ['r','o','t','a','r','e','t','i','_','t','e','s'].reverse)=some Manifest.sig_set_iterator:=by kernel_rfl
theorem slot_next:Slot "set_iterator" "__next__" "set_iterator.__next__":=
 .of (owner:="set_iterator") (n:="__next__") (by rw[typeLookup_type,builtinLookup_eq_fast];kernel_rfl) (by decide +kernel) (by decide +kernel) (by decide +kernel) (by first | exact .inl (by decide +kernel) | exact .inr (by decide +kernel)) (by rw[isSubtype_type];kernel_rfl)
theorem entry_next:entryFor table "set_iterator.__next__"=some Builtin.«set_iterator.__next__» :=entryFor_of_tree (by kernel_rfl)
theorem args_next (a:Value):argsOk "set_iterator.__next__" ⟨[a],[]⟩:=by
 unfold argsOk;rw[signature?_of (id:="set_iterator.__next__") (n:=['_','_','t','x','e','n','_','_']) (o:=['r','o','t','a','r','e','t','i','_','t','e','s']) (by kernel_rfl) own];kernel_rfl
theorem entry_iter:entryFor table "set.__iter__"=some Builtin.«frozenset.__iter__» :=entryFor_alias (id':="frozenset.__iter__") (by kernel_rfl) rfl (by decide +kernel) (by kernel_rfl)
theorem slot_iter:Slot "set_iterator" "__iter__" "set_iterator.__iter__":=
 .of (owner:="set_iterator") (n:="__iter__") (by rw[typeLookup_type,builtinLookup_eq_fast];kernel_rfl) (by decide +kernel) (by decide +kernel) (by decide +kernel) (by first | exact .inl (by decide +kernel) | exact .inr (by decide +kernel)) (by rw[isSubtype_type];kernel_rfl)
theorem entry_it:entryFor table "set_iterator.__iter__"=some Builtin.«dict_keyiterator.__iter__» :=entryFor_alias (id':="dict_keyiterator.__iter__") (by kernel_rfl) rfl (by decide +kernel) (by kernel_rfl)
theorem args_it (a:Value):argsOk "set_iterator.__iter__" ⟨[a],[]⟩:=by
 unfold argsOk;rw[signature?_of (id:="set_iterator.__iter__") (n:=['_','_','r','e','t','i','_','_']) (o:=['r','o','t','a','r','e','t','i','_','t','e','s']) (by kernel_rfl) own];kernel_rfl
end Si
section
variable {prog:Program} {w:World} {A:Around} {E:Value->Shared->Prop} {s:Shared}
theorem kJd {α:Type}:∀ {l:List α} {i:Nat} (h:i<l.length),(l[i]::l.eraseIdx i).Perm l
 | a::l,0,_=> .refl _
 | a::l,i+1,h=>by
  have hi:i<l.length:=by simpa using h
  exact (List.Perm.swap _ _ _).trans (List.Perm.cons a (kJd hi))
theorem kY1 {α:Type} (next:Nat->Nat):∀(fuel k:Nat) (left:List α) (out:Array α),fuel=left.length->(pickOrder.go next fuel k left out).toList.Perm (out.toList++left)
 | 0,k,left,out,h=>by
  have:left=[]:=List.eq_nil_of_length_eq_zero h.symm
  subst this
  rw[lKz];exact .refl _
 | fuel+1,k,left,out,h=>by
  have hl:next k%left.length<left.length:=Nat.mod_lt _ (by omega)
  unfold pickOrder.go
  rw[lJp hl]
  dsimp only
  refine (kY1 next fuel (k+1) _ _ (by rw[List.length_eraseIdx_of_lt hl];omega)).trans ?_
  rw[Array.toList_push,lJn]
  (refine lV3 _ ?_)
  rw[List.singleton_append]
  exact kJd hl
theorem kY0 {α:Type} (next:Nat->Nat) (xs:Array α):(pickOrder next xs).toList.Perm xs.toList:=by
 have:=kY1 next xs.size 0 xs.toList #[] (by simp)
 rw[show (#[]:Array α).toList++xs.toList=xs.toList from rfl] at this
 exact this
def ordS (w:World) (S:Addr) (ep:Nat) (arr:Array (Int×Value)):Array (Int×Value):=if bt w=true then pickOrder (w.params.setOrder S ep) arr else arr
theorem jVz (w:World) (S:Addr) (ep:Nat) (arr:Array (Int×Value)):(ordS w S ep arr).toList.Perm arr.toList:=by
 unfold ordS
 split
 ·exact kY0 _ _
 ·exact .refl _
def jVb (w:World) (t:SetTable) (i:Nat):Nat:=if bt w=true then 0 else if i=0 then 0 else t.place.getD (i-1) 0+1
def kXr (S:Addr) (ep n slot i:Nat):Obj:={cls:= .type "set_iterator",dict:=none,data:= .fields #[.int slot 0,.int i 0,.ref S,.int n 0,.int ep 0],slots:= #[]}
theorem qQx {S:Addr} {o:Obj} (hg:s.heap.get? S=some o) (hc:o.cls= .type "set") {Q:Bool->Shared->Prop} (h:Q false s):wpAny (model prog w) A (Builtin.List.listLengthHint (.ref S)) Q E s:=by
 have hT:s.TypeIs (.ref S) "set":=⟨o,hg,hc⟩
 (unfold Builtin.List.listLengthHint)
 refine lJa (wpAny_specialOf hT PySem.F.slot_set_len.lookup ?_)
 generalize hn:("set.__len__":String)=nm
 wp_delta
 rw[show splitId nm=some ("set","__len__") by subst hn;decide +kernel];subst hn
 refine lJa (wpAny_isInstance (T:="set") (b:=true) hT (by rw[isSubtype_type];kernel_rfl) (wpAny_ite_split (fun z=>absurd z (by decide)) fun _=> ?_))
 refine wpAny_ite_split (fun _=> ?_) fun z=>absurd (by decide +kernel) z
 exact lJa (lVs hT (lJd h))
end
end L3
namespace L3
open PySem PySem.Spec PyProof.Rows L2
noncomputable def lexLt {K:Type} [DecidableEq K] (lt:K->K->Option Bool):List K->List K->Option Bool
 | [],[]=>some false
 | [],_::_=>some true
 | _::_,[]=>some false
 | x::xs,y::ys=>if x=y then lexLt lt xs ys else lt x y
def ltI:Key->Key->Option Bool
 | .inl i,.inl j=>some (decide (i<j))
 | _,_=>none
def ltS {K:Type} [DecidableEq K] (lt:K->K->Option Bool):Key ⊕ List K->Key ⊕ List K->Option Bool
 | .inl x,.inl y=>ltI x y
 | .inr x,.inr y=>lexLt lt x y
 | _,_=>none
def ltK:TKey->TKey->Option Bool:=lexLt (ltS (ltS ltI))
section
variable {prog:Program} {w:World} {K:Type} [DecidableEq K] {c:Nat}
def LtV (V:KeyV prog w K c) (lt:K->K->Option Bool):Prop:=∀ {A:Around} {E:Value->Shared->Prop} {s:Shared} {x y:K} {u v:Value} {b:Bool} {Q:Value->Shared->Prop},A.units+c<cLine->V.is s.heap x u->V.is s.heap y v->lt x y=some b->Q (.bool b) s->wpAny (model prog w) A (compareOp .Lt u v) Q E s
theorem kZm:LtV (kJf prog w) ltI:=by
 intro A E s x y u v b Q _ hx hy hl h
 rcases jJl (show jXm x u=true from hx) with ⟨i,t,rfl,rfl⟩ | ⟨i,t,rfl,rfl⟩
 ·rcases jJl (show jXm y v=true from hy) with ⟨j,t',rfl,rfl⟩ | ⟨j,t',rfl,rfl⟩
  ·cases hl
   exact PyProof.Rows.lt_int h
  ·cases hl
 ·cases hl
open PySem.SeqAt in
open PySem.AutoSeq1 (wpAny_loadPart') in
open PySem.MeetsSeq PySem.MeetsSeq2 PySem.MeetsSeq3 in
theorem lt_tup {V:KeyV prog w K c} {lt:K->K->Option Bool} (hV:LtV V lt):LtV (jUn V) (lexLt lt):=by
 rintro A E s x y u v b Q hu ⟨a1,o1,its1,n1,rfl,ho1,hc1,hd1,hi1⟩ ⟨a2,o2,its2,n2,rfl,ho2,hc2,hd2,hi2⟩ hl h
 obtain⟨cls,dd,data,sl⟩:=o1
 obtain⟨cls2,dd2,data2,sl2⟩:=o2
 simp only at hc1 hd1 hc2 hd2
 subst hc1 hd1 hc2 hd2
 have hT1:s.TypeIs (.ref a1) "tuple":=⟨_,ho1,rfl⟩
 have hT2:s.TypeIs (.ref a2) "tuple":=⟨_,ho2,rfl⟩
 refine (show wpAny _ _ (richCompare .Lt (.ref a1) (.ref a2)) _ _ s from wpAny_richCompare_same_room hT1 hT2 PySem.F.slot_tuple_lt (lQs PySem.F.slot_tuple_lt hT1 PySem.F.entry_tuple_lt ?_ (PySem.F.args_tuple_lt_2 _ _)) (by omega))
 have f2:=AutoSeq1.sub_tuple_tuple
 (obtain⟨hp,g,d,tk,os⟩:=s)
 have z1:its1.size=x.length:=by rw[hi1.length];simp
 have z2:its2.size=y.length:=by rw[hi2.length];simp
 wp_walk using wpAny_loadPart' ho1,wpAny_loadPart' ho2,wpAny_forIn_list _ (fun rest bb s'=>bb.1=none/\s'=⟨hp,g,d,tk,os⟩/\∃(vs ws:List Value) (x' y':List K),rest=vs.zip ws/\ItemsV V hp x' vs/\ItemsV V hp y' ws/\x'.length+its2.size=y'.length+its1.size/\lexLt lt x' y'=some b) _
 case turn=>
  rintro⟨p,q⟩ rest bb s' ⟨hb',rfl,vs,ws,x',y',hz,hv1,hv2,hlen,hR⟩
  cases hv1 with
  | nil=>rw[List.zip_nil_left] at hz;cases hz
  | @cons k1 v1 ks1 vs1 h1 hv1'=>
   cases hv2 with
   | nil=>rw[List.zip_nil_right] at hz;cases hz
   | @cons k2 v2 ks2 vs2 h2 hv2'=>
    rw[lXf] at hz
    injection hz with hyx hrest
    injection hyx with hy hx
    subst hy hx
    simp only[lJ9] at hlen
    have he:=V.eqAt (A:=A.in1) (s:=⟨hp,g,d,tk,os⟩) (by rw[lQ1];omega) h1 h2
    refine lJa (he prog w _ _ ?_)
    by_cases e:k1=k2
    ·have hR':lexLt lt ks1 ks2=some b:=by
      have:=hR
      unfold lexLt at this
      rw[lJc e] at this;exact this
     rw[lJ5 e]
     wp_walk
     exact⟨rfl,rfl,_,_,_,_,hrest,hv1',hv2',by omega,hR'⟩
    ·have hR':lt k1 k2=some b:=by
      have:=hR
      unfold lexLt at this
      rw[lJb e] at this;exact this
     rw[lJw e]
     have hri:∀ {Q':Value->Shared->Prop} {E':Value->Shared->Prop},Q' (.bool b) ⟨hp,g,d,tk,os⟩->wpAny (model prog w) A.in1 (richCompare .Lt p q) Q' E' ⟨hp,g,d,tk,os⟩:=fun hq=>(hV (A:=A.in1) (s:=⟨hp,g,d,tk,os⟩) (by rw[lQ1];omega) h1 h2 hR' hq:wpAny (model prog w) A.in1 (compareOp .Lt p q) _ _ _)
     wp_walk using hri
     exact⟨_,rfl,(fun z=>nomatch z),h⟩
 case fin=>
  rintro⟨b1,b2⟩ s' ⟨hb',rfl,vs,ws,x',y',hz,hv1,hv2,hlen,hR⟩
  simp only at hb'
  subst hb'
  have hv:b=decide (its1.size<its2.size):=by
   cases hv1 with
   | nil=>
    cases hv2 with
    | nil=>simp only[lQa] at hlen;cases hR;exact (lJw (by omega)).symm
    | cons _ _=>simp only[lQa,lJ9] at hlen;cases hR;exact (lJ5 (by omega)).symm
   | cons _ hv1'=>
    cases hv2 with
    | nil=>simp only[lQa,lJ9] at hlen;cases hR;exact (lJw (by omega)).symm
    | cons _ _=>rw[lXf] at hz;cases hz
  wp_walk
  refine⟨_,rfl,(fun z=>nomatch z),?_⟩
  simpa[Builtin.Tuple.tupleCompareSizes,<-hv] using h
 case h=>
  exact⟨rfl,rfl,its1.toList,its2.toList,x,y,rfl,hi1,hi2,by omega,hl⟩
theorem qU6 {V:KeyV prog w K c} {lt:K->K->Option Bool} (hV:LtV V lt):LtV (qKr V) (ltS lt):=by
 rintro A E s (x | x) (y | y) u v b Q hu hx hy hl h
 ·exact kZm (by omega) hx hy hl h
 ·cases hl
 ·cases hl
 ·exact lt_tup hV hu hx hy hl h
end
end L3
namespace L3
open PySem PySem.Spec PyProof.Rows L2 PySem.W
section
variable {n:Nat} {lt:Nat->Nat->Bool}
end
structure KOrd {K:Type} (lt:K->K->Option Bool):Prop where
 neg:∀ {a b},a≠b->∀ {c},lt a b=some c->lt b a=some !c
 tr:∀ {a b c},a≠b->b≠c->lt a b=some true->lt b c=some true->lt a c=some true
 ir:∀ {a b},a≠b->lt a b=some true->lt b a=some true->False
theorem kord_I:KOrd ltI:=by
 refine⟨?_,?_,?_⟩
 ·rintro (a | a) (b | b) h c e
  ·have hab:a≠b:=fun z=>h (by rw[z])
   simp only[ltI,lYr] at e ⊢
   rw[<-e]
   by_cases q:a<b
   ·rw[lJ5 q,lJw (by omega)];rfl
   ·rw[lJw q,lJ5 (by omega)];rfl
  ·cases e
  ·cases e
  ·cases e
 ·rintro (a | a) (b | b) (c | c) _ _ e1 e2<;>first | cases e1;done | cases e2;done | skip
  simp only[ltI,lYr,lQg] at e1 e2 ⊢
  omega
 ·rintro (a | a) (b | b) _ e1 e2<;>first | cases e1;done | skip
  simp only[ltI,lYr,lQg] at e1 e2
  omega
section
variable {K:Type} [DecidableEq K] {lt:K->K->Option Bool}
theorem kUh (o:KOrd lt):∀ {a b:List K},a≠b->∀ {c},lexLt lt a b=some c->lexLt lt b a=some !c
 | [],[],h,_,_=>absurd rfl h
 | [],_::_,_,c,e=>by cases e;rfl
 | _::_,[],_,c,e=>by cases e;rfl
 | x::xs,y::ys,h,c,e=>by
  unfold lexLt at e ⊢
  by_cases q:x=y
  ·rw[lJc q] at e;rw[lJc q.symm]
   exact kUh o (fun z=>h (by rw[q,z])) e
  ·rw[lJb q] at e;rw[lJb (fun z=>q z.symm)]
   exact o.neg q e
theorem kVh:∀(a:List K),lexLt lt a a=some false
 | []=>rfl
 | x::xs=>by unfold lexLt;rw[lJc rfl];exact kVh xs
theorem kVg (o:KOrd lt):∀ {a b c:List K},lexLt lt a b=some true->lexLt lt b c=some true->lexLt lt a c=some true
 | [],[],_,e,_=>by cases e
 | _::_,[],_,e,_=>by cases e
 | [],_::_,[],_,e=>by cases e
 | [],_::_,_::_,_,_=>(rfl)
 | _::_,_::_,[],_,e=>by cases e
 | x::xs,y::ys,z::zs,e1,e2=>by
  unfold lexLt at e1 e2 ⊢
  by_cases q1:x=y
  ·subst q1
   rw[lJc rfl] at e1
   by_cases q2:x=z
   ·rw[lJc q2] at e2 ⊢
    exact kVg o e1 e2
   ·rw[lJb q2] at e2 ⊢
    exact e2
  ·rw[lJb q1] at e1
   by_cases q2:y=z
   ·subst q2
    rw[lJb q1]
    exact e1
   ·rw[lJb q2] at e2
    by_cases q3:x=z
    ·subst q3
     exact (o.ir q1 e1 e2).elim
    ·rw[lJb q3]
     exact o.tr q1 q2 e1 e2
theorem kJ6 (o:KOrd lt):KOrd (lexLt lt):=by
 refine⟨?_,?_,?_⟩
 ·intro a b h c e;exact kUh o h e
 ·intro a b c _ _ e1 e2;exact kVg o e1 e2
 ·intro a b h e1 e2
  have:=kUh o h e1
  rw[e2] at this;cases this
theorem kVj (o:KOrd lt):KOrd (ltS lt):=by
 refine⟨?_,?_,?_⟩
 ·rintro (a | a) (b | b) h c e
  ·exact kord_I.neg (fun z=>h (by rw[z])) e
  ·cases e
  ·cases e
  ·exact (kJ6 o).neg (fun z=>h (by rw[z])) e
 ·rintro (a | a) (b | b) (c | c) h1 h2 e1 e2<;>first | cases e1;done | cases e2;done | skip
  ·exact kord_I.tr (fun z=>h1 (by rw[z])) (fun z=>h2 (by rw[z])) e1 e2
  ·exact kVg o e1 e2
 ·rintro (a | a) (b | b) h e1 e2<;>first | cases e1;done | skip
  ·exact kord_I.ir (fun z=>h (by rw[z])) e1 e2
  ·exact (kJ6 o).ir (fun z=>h (by rw[z])) e1 e2
end
theorem kord:KOrd ltK:=kJ6 (kVj (kVj kord_I))
theorem kZr {a b c:TKey} (h1:ltK a b=some true) (h2:ltK b c=some true):ltK a c=some true:=kVg (kVj (kVj kord_I)) h1 h2
def kK7:TKey->Bool->Prop
 | .inl _::_,b=>b=true
 | .inr _::_,b=>b=false
 | [],_=>False
section
variable {prog:Program} {w:World} {A:Around} {E:Value->Shared->Prop} {s:Shared}
theorem kK5 {Q:Bool->Shared->Prop} {b:Bool} {n1 n2:Nat} {c:Bool} (hu:A.units+6<cLine) (hq:Q c s):∀(i:Nat) (x y:TKey) (vs ws:List Value),ItemsV (vk2 prog w) s.heap x vs->ItemsV (vk2 prog w) s.heap y ws->x.length+n2=y.length+n1->lexLt (ltS (ltS ltI)) x y=some c->((b&&i == 0)=true->(∀k,k∈x->i=0->x.head? =some k->∃z,k= .inl z)/\(∀k,k∈y->i=0->y.head? =some k->∃z,k= .inl z))->
  KatLex prog w A b (decide (n1<n2)) Q (vs.zip ws) i s
 | i,_,_,_,_,.nil,.nil,hn,hl,_=>by
  simp only[lQa] at hn
  cases hl
  refine kat_nil ?_
  rw[lJw (by omega)];exact hq
 | i,_,_,_,_,.nil,.cons _ _,hn,hl,_=>by
  simp only[lQa,lJ9] at hn
  cases hl
  refine kat_nil ?_
  rw[lJ5 (by omega)];exact hq
 | i,_,_,_,_,.cons _ _,.nil,hn,hl,_=>by
  simp only[lQa,lJ9] at hn
  cases hl
  refine kat_nil ?_
  rw[lJw (by omega)];exact hq
 | i,_,_,_,_,@ItemsV.cons _ _ _ _ _ _ _ k1 v1 ks1 vs1 h1 t1,@ItemsV.cons _ _ _ _ _ _ _ k2 v2 ks2 vs2 h2 t2,hn,hl,hb=>by
  simp only[lJ9] at hn
  rw[lXf]
  refine kat_cons (((vk2 prog w).eqAt (by omega) h1 h2) prog w _ _ ?_)
  unfold lexLt at hl
  by_cases e:k1=k2
  ·rw[lJc e] at hl
   rw[lJ5 e]
   refine kat_yes (kK5 hu hq (i+1) _ _ _ _ t1 t2 (by omega) hl fun z=> ?_)
   simp at z
  ·rw[lJb e] at hl
   rw[lJw e]
   refine kat_no ?_
   cases q:(b&&i == 0) with
   | false=>exact kat_one _ _ (qU6 (qU6 kZm) (by omega) h1 h2 hl hq)
   | true=>
    have hi:i=0:=by simp at q;exact q.2
    obtain⟨z1,z2⟩:=hb q
    obtain⟨a,rfl⟩:=z1 k1 (lJ1 ..) hi rfl
    obtain⟨a',rfl⟩:=z2 k2 (lJ1 ..) hi rfl
    rcases jJl (show jXm a v1=true from h1) with ⟨p,t,rfl,rfl⟩ | ⟨p,t,rfl,rfl⟩
    ·rcases jJl (show jXm a' v2=true from h2) with ⟨p',t',rfl,rfl⟩ | ⟨p',t',rfl,rfl⟩
     ·cases hl
      exact oneLt_int hq
     ·cases hl
    ·cases hl
theorem ask_ok {b:Bool} {x y:TKey} {a1 a2:Addr} {c:Bool} {Q:Bool->Shared->Prop} (hu:A.units+6<cLine) (h1:(jJm prog w).is s.heap x a1) (h2:(jJm prog w).is s.heap y a2) (hl:ltK x y=some c) (hx:kK7 x b) (hy:kK7 y b) (hq:Q c s):wpAny (model prog w) A (keyLt' (tuples' b) (.ref a1) (.ref a2)) Q E s:=by
 obtain⟨p1,o1,its1,n1,e1,ho1,hc1,hd1,hi1⟩:=(show jZp _ _ _ _ from h1)
 obtain⟨p2,o2,its2,n2,e2,ho2,hc2,hd2,hi2⟩:=(show jZp _ _ _ _ from h2)
 cases e1;cases e2
 refine kat_lt ho1 hd1 ho2 hd2 (kK5 hu hq 0 x y _ _ hi1 hi2 ?_ hl fun z=> ?_)
 ·have l1:=hi1.length
  have l2:=hi2.length
  simp at l1 l2
  omega
 ·have hb:b=true:=by simpa using z
  subst hb
  refine⟨fun k _ _ hk=> ?_,fun k _ _ hk=> ?_⟩
  ·match x,hx,hk with
   | .inl u::_,_,e=>cases e;exact⟨u,rfl⟩
  ·match y,hy,hk with
   | .inl u::_,_,e=>cases e;exact⟨u,rfl⟩
def tyOf (b:Bool):Value:=if b=true then .type "int" else .type "tuple"
theorem kK4 {b:Bool}:∀(es:List (TKey×Addr)),(∀e,e∈es->(jJm prog w).is s.heap e.1 e.2/\kK7 e.1 b/\intT e.1=true)->∃fs,KatTups s.heap (es.map fun e=> .ref e.2) fs/\fs.length=es.length/\∀v,v∈fs->Looks (model prog w) s.heap (typeOf v) (tyOf b)
 | [],_=>⟨[],.nil,rfl,fun v hv=>absurd hv (lKc)⟩
 | (k,a)::es,h=>by
  obtain⟨fs,t,l,hf⟩:=kK4 es fun e he=>h e (lJ2 _ he)
  obtain⟨h1,h2,h3⟩:=h (k,a) (lJ1 ..)
  obtain⟨p1,o1,its1,n1,e1,ho1,hc1,hd1,hi1⟩:=(show jZp _ _ _ _ from h1)
  cases e1
  match k,h2,h3,hi1 with
  | .inl u::ks,hb,h3,hi=>
   cases (show b=true from hb)
   generalize hits:its1.toList=its at hi
   cases hi with
   | @cons _ v _ vs hv ht=>
    refine⟨v::fs,.cons ho1 hc1 hd1 (by rw[<-lKa,hits];rfl) t,by simp[l],fun x hx=> ?_⟩
    (rcases lJk.mp hx with rfl | hx)
    ·rcases jJl (show jXm u x=true from hv) with ⟨i,tk,_,rfl⟩ | ⟨i,tk,rfl,rfl⟩
     ·exact Looks.of_pure rfl
     ·simp[intT,intS,intK] at h3
    ·exact hf x hx
  | .inr u::ks,hb,h3,hi=>
   cases (show b=false from hb)
   generalize hits:its1.toList=its at hi
   cases hi with
   | @cons _ v _ vs hv ht=>
    obtain⟨p2,o2,its2,n2,e2,ho2,hc2,hd2,hi2⟩:=(show jZp _ _ u v from hv)
    subst e2
    refine⟨.ref p2::fs,.cons ho1 hc1 hd1 (by rw[<-lKa,hits];rfl) t,by simp[l],fun x hx=> ?_⟩
    (rcases lJk.mp hx with rfl | hx)
    ·have:=(Looks.ld (M:=model prog w) (part:=none) ho2).andThen (f:=fun o=>pure o.cls) .now
     rw[hc2] at this
     exact this
    ·exact hf x hx
theorem qXi {b:Bool} {es:List (TKey×Addr)} (h:∀e,e∈es->(jJm prog w).is s.heap e.1 e.2/\kK7 e.1 b/\intT e.1=true) (hne:0<es.length) {Q:SortKind->Shared->Prop} (hq:Q (tuples' b) s):wpAny (model prog w) A (keyKind' (List.toArray (es.map fun e=>Value.ref e.2))) Q E s:=by
 obtain⟨fs,t,l,hf⟩:=kK4 es h
 refine kat_kind (T:=tyOf b) t (by omega) hf (by cases b<;>decide) ?_
 rw[show (tyOf b != Value.type "tuple")=b by cases b<;>decide]
 exact hq
end
theorem jVm {α β:Type} {f:α->β} {l l':List β} (h:l.Perm l'):∀es:List α,l'=es.map f->∃es':List α,es'.Perm es/\l=es'.map f:=by
 induction h with
 | nil=>intro es e;cases es with | nil=>exact⟨[],.refl _,rfl⟩ | cons _ _=>cases e
 | cons x _ ih=>
  intro es e
  cases es with
  | nil=>cases e
  | cons a es=>
   rw[lJo,lXo] at e
   obtain⟨es',h1,h2⟩:=ih es e.2
   exact⟨a::es',h1.cons a,by rw[lJo,e.1,h2]⟩
 | swap x y l=>
  intro es e
  match es,e with
  | a::b::es,e=>
   rw[lJo,lJo,lXo,lXo] at e
   exact⟨b::a::es,.swap _ _ _,by rw[lJo,lJo,e.1,e.2.1,e.2.2]⟩
 | trans _ _ ih1 ih2=>
  intro es e
  obtain⟨es',h1,h2⟩:=ih2 es e
  obtain⟨es'',h3,h4⟩:=ih1 es' h2
  exact⟨es'',h3.trans h1,h4⟩
section
variable {prog:Program} {w:World} {A:Around} {E:Value->Shared->Prop} {s:Shared}
end
def SKey (b:Bool) (ts:List T) (k:TKey):Prop:=jUj ts=some k/\kK7 k b/\intT k=true
theorem kYa {K:PySem.W.Frag} {H:Hp} {b:Bool}:∀ {tks:List (List T×TKey)} {vs:List V} {its:List Value},(∀e,e∈tks->SKey b e.1 e.2)->Reps K H (tks.map fun e=> .tup e.1) vs->Vals vs its->
  ∃tb:List ((List T×TKey)×Addr),tb.map (·.1)=tks/\vs=tb.map (fun e=> .ref e.2)/\its=tb.map (fun e=>Value.ref e.2)/\∀e,e∈tb->TKeyAt H e.1.2 e.2/\Rep K H (.tup e.1.1) (.ref e.2)
 | [],_,_,_,r,v=>by
  cases (show _=[] from r)
  cases v
  exact⟨[],rfl,rfl,rfl,fun e he=>absurd he (lKc)⟩
 | (ts,k)::tks,_,its,hk,⟨v,ws,e,r1,r2⟩,vv=>by
  subst e
  cases vv with
  | @cons _ u _ us hr hrs=>
  obtain⟨tb,h1,h2,h3,h4⟩:=kYa (fun e he=>hk e (lJ2 _ he)) r2 hrs
  obtain⟨a,vs',e,ha,hrep⟩:=(show ∃a vs',v= .ref a/\H a=some (.tup vs')/\Reps K H ts vs' from r1)
  subst e
  cases (show u=Value.ref a from hr)
  refine⟨((ts,k),a)::tb,by rw[lJo,h1],by rw[lJo,h2],by rw[lJo,h3],fun e he=> ?_⟩
  (rcases lJk.mp he with rfl | he)
  ·exact⟨jQg (hk _ (lJ1 ..)).1 ha hrep,r1⟩
  ·exact h4 e he
theorem kYo {K:PySem.W.Frag} {H:Hp}:∀(tb:List ((List T×TKey)×Addr)),(∀e,e∈tb->Rep K H (.tup e.1.1) (.ref e.2))->Reps K H (tb.map fun e=> .tup e.1.1) (tb.map fun e=>V.ref e.2)
 | [],_=>rfl
 | e::tb,h=>⟨_,_,rfl,h e (lJ1 ..),kYo tb fun x hx=>h x (lJ2 _ hx)⟩
theorem jZy:∀(bs:List ((List T×TKey)×Addr)),Vals (bs.map fun e=>V.ref e.2) (bs.map fun e=>Value.ref e.2)
 | []=> .nil
 | e::bs=> .cons rfl (jZy bs)
section
variable {X:Cx}
end
end L3
namespace L3
open PySem PySem.Spec PyProof.Rows L2
section
variable {X:Cx}
noncomputable def jY0:T->List T->Gp->VK3->Prop:=fun x as G Q=>∃p q xs ys,x= .ref p/\as=[.ref q]/\G p=some (.lst xs)/\G q=some (.lst ys)/\xs.length+ys.length<=sizeLine/\Q .non (gup G p (.lst (xs++ys)))
theorem jX8:Mt3 X "list.extend" jY0:=by
 rintro pins s τ G H x as v us Q ⟨σ,I,hs,hg⟩ ⟨a,ra,rv⟩ ⟨bs,rbs,rus⟩ ⟨p,q,xs,ys,ex,ea,hp,hq,hz,k⟩
 subst ex;subst ea
 cases (show a= .ref p from ra);cases rv
 obtain⟨b1,rfl,r1⟩:=jUs rbs
 cases (show b1= .ref q from r1)
 obtain⟨u1,rfl,ru1⟩:=rus.one
 cases ru1
 obtain⟨vs,h1,h2⟩:=hg.lst hp
 obtain⟨ws,h3,h4⟩:=hg.lst hq
 obtain⟨z,its,n,r,hl,e⟩:=I.lstM h1
 obtain⟨z',its',n',r',hl',e'⟩:=I.lstM h3
 have hlen:=h2.length
 have hlen':=h4.length
 have q1:=r.length
 have q2:=r'.length
 have hc:¬(!its.toArray.isEmpty&&Builtin.List.listTooLong (its.toArray.size+its'.toArray.size))=true:=by
  have:Builtin.List.listTooLong (its.toArray.size+its'.toArray.size)=false:=by
   unfold Builtin.List.listTooLong
   (rw[lJu,lJu])
   exact lJw (by omega)
  rw[this,Bool.and_false];exact lJv
 refine lV7 F.slot_list_extend ⟨_,e,rfl⟩ F.entry_list_extend (F.args_list_extend_2 _ _) (AutoSeq1.list_extend_list_list_0 p its.toArray n q its'.toArray n' hc (by rw[lJu];omega) (by rw[lJu,lJu];omega)) ⟨e,e',?_⟩
 have e2:Ext H (upd H p (.lst (vs++ws))):= .upd (.lst h1)
 refine⟨.non,_,_,e2,⟨σ,I.lset (its':=its++its') h1 e ?_ (r.append r') ?_,hs.mono e2,hg.lstNew (xs:=xs++ys) (h2.append h4) (.lst h1)⟩,⟨.non,rfl,rfl⟩,k⟩
 ·simp
 ·rw[lKb];omega
end
section
variable {X:Cx}
end
section
variable {X:Cx}
end
section
variable {X:Cx}
end
section
variable {X:Cx}
end
section
variable {X:Cx}
end
section
variable {P:Program} {w:World} {d:Addr}
end
section
variable {X:Cx}
end
section
variable {prog:Program} {w:World} {A:Around} {E:Value->Shared->Prop} {s:Shared}
end
section
variable {P:Program} {w:World} {A:Around} {E:Value->Shared->Prop} {s:Shared} {it l:Addr} {xs:Array Value}
end
section
variable {X:Cx}
end
end L3
namespace PySem
open Sem (wp)
set_option maxRecDepth 100000
theorem qYb:typeLookup (.type "list") "keys"=pure none:=by rw[typeLookup_type,builtinLookup_eq_fast];kernel_rfl
theorem kQb {prog:Program} {w:World} {A:Around} {E:Value->Shared->Prop} {s:Shared} {a:Addr} {xs:Array Value} {k:Nat} {Q:Option Value->Shared->Prop} (hA:A.handled=none) (hx:s.heap.get? a=some {cls:= .type "list",dict:=none,data:= .seq xs k,slots:= #[]})
  (h:∀h' tk,(∀b o,s.heap.get? b=some o->h'.get? b=some o)->Q none {s with heap:=h',toks:=tk}):wpAny (model prog w) A (getAttr? (.ref a) "keys") Q E s:=by
 (obtain⟨hp,g,d,tk,os⟩:=s)
 (have hT:∀tk',(⟨hp,g,d,tk',os⟩:Shared).TypeIs (.ref a) "list":=fun _=>⟨_,hx,rfl⟩)
 have f1:=sub_AttributeError
 (have f3:=lY7.lookup)
 (have f4:=lY7.bind (.ref a))
 (have f5:=am_list_getattr_none)
 unfold getAttr? getAttrBy?
 (refine lJa (wpAny_mkText ?_))
 (refine lJa (wpAny_attempt ?_))
 unfold getAttrBy
 repeat (any_goals (first | assumption | exact hT _ | ((with_reducible show wpAny _ _ (call (Value.builtin "list.__getattribute__") _ _) _ _ _);refine lV7 lY7 (hT _) am_entry_list_getattribute (F.args_list_getattribute_2 _ _) (meets_getattribute_miss_list a xs k #[] _ _ qYb (by decide +kernel) (by show 4+100<=sizeLine;rw[lKs];decide)) ⟨hx,hA,fun h' tk' e hx'=> ?_⟩) | wp_step))
 (obtain⟨t',u',he⟩:=hx'.there)
 refine (show wpAny _ _ (getattributeRaised _ _ _ _ _ _ _) _ _ _ from ?_)
 unfold getattributeRaised
 (repeat (any_goals (first | assumption | wp_step)))
 exact h _ _ hx'.keeps
end PySem
namespace L3
open PySem PySem.Spec PyProof.Rows L2
section
variable {prog:Program} {w:World} {A:Around} {E:Value->Shared->Prop} {s:Shared}
theorem jYe:entryFor table "dict.update.loop"=some Builtin.«dict.update.loop» :=entryFor_of_tree (by kernel_rfl)
theorem jQx:plainId "dict.update.loop"=true:=by decide +kernel
theorem qJt {p:Addr} {x y:Value} {Q:List Value->Shared->Prop} (hp:IsTup s.heap p #[x,y]) (k:Q [x,y] s):wpAny (model prog w) A (Builtin.Dict.pairItems (.ref p)) Q E s:=by
 obtain⟨o,ho,hc,n,hd⟩:=id hp
 unfold Builtin.Dict.pairItems
 refine lJa (lVs hp.typeIs ?_)
 rw[lJc (by decide)]
 exact lJa (lV5 ho hd (lJd k))
theorem qJs {kvs:List (Key×Value)} {i:Int} {y:Value} (h:(Sum.inl i:Key)∉kvs.map (·.1)):stored kvs (.inl i) y=kvs++[(.inl i,y)]:=by
 unfold stored
 rw[lJb]
 intro z
 obtain⟨x,hx,e⟩:=lQ7.mp z
 exact h (lJj.mpr ⟨x,hx,lYh e⟩)
structure DlAt (h:Heap) (l:Addr) (ts:List Addr) (ps:List ((Int×Tok)×Value)):Prop where
 li:h.IsList l (ts.map Value.ref).toArray
 len:ts.length=ps.length
 at_:∀(i:Nat) t p,ts[i]? =some t->ps[i]? =some p->IsTup h t #[.int p.1.1 p.1.2,p.2]
theorem DlAt.moved {h h':Heap} {l:Addr} {ts:List Addr} {ps:List ((Int×Tok)×Value)} (a:DlAt h l ts ps) (k:∀b o,h.get? b=some o->(o.cls= .type "tuple"\/b=l)->h'.get? b=some o):DlAt h' l ts ps:=
 ⟨a.li.at fun o e=>k _ o e (.inr rfl),a.len,fun i t p e1 e2=>let ⟨o,ho,hc,r⟩:=a.at_ i t p e1 e2;⟨o,k _ o ho (.inl hc),hc,r⟩⟩
def dlK (ps:List ((Int×Tok)×Value)):List (Key×Value):=ps.map fun p=>(Sum.inl p.1.1,p.2)
theorem qYa {R:Result->Shared->Prop} {it l d:Addr} {ts:List Addr} {ps:List ((Int×Tok)×Value)} (hh:A.handled=none) (dl:d≠l) (di:d≠it) (li:l≠it) (hn:(ps.map (·.1.1)).Nodup) (hs:ps.length<=sizeLine):
  ∀(k i:Nat) (s:Shared) (j:Int) (jt:Tok),ps.length-i=k->i<=ps.length->DlAt s.heap l ts ps->s.heap.IsListIter it l i->s.heap.DictOf (jJ7 prog w) d ((dlK ps).take i)->
   (∀h' t',h'.DictOf (jJ7 prog w) d (dlK ps)->(∀b o,b≠d->b≠it->s.heap.get? b=some o->h'.get? b=some o)->R (.ok (.ret .none)) {s with heap:=h',toks:=t'})->
   codeAny (model prog w) A (.builtin "dict.update.loop" ⟨[.ref d,.ref it,.int j jt,.none],[]⟩) R s:=by
 have zl:(dlK ps).length=ps.length:=by simp[dlK]
 intro k
 induction k with
 | zero=>
  intro i s j jt hk hi a hit hd hR
  have hin:i=ps.length:=by omega
  subst hin
  refine lQm jYe ?_
  rw[lQq jQx _]
  refine (show wpAny _ A.in1 (pyNext (.ref it) >>= _) _ _ s from ?_)
  refine lJa (wpAny_pyNext_list_end (A:=A.in1) (by simpa using hh) hit a.li (by have:=a.len;simp;omega) fun h' kp=> ?_)
  refine (show wpAny _ A.in1 (Builtin.Dict.addKeywords d [] >>= _) _ _ _ from lJa (lJd (lJd ?_)))
  rw[<-zl,lQo] at hd
  have hd':h'.DictOf (jJ7 prog w) d (dlK ps):=by
   obtain⟨o',es,ep,ho',r⟩:=hd
   exact⟨o',es,ep,kp d o' di ho',r⟩
  exact hR h' s.toks hd' fun b o _ c1 e=>kp b o c1 e
 | succ k ih=>
  intro i s j jt hk hi a hit hd hR
  have hlt:i<ps.length:=by omega
  have hlt2:i<ts.length:=by rw[a.len];exact hlt
  have tp:=a.at_ i ts[i] ps[i] (lJp hlt2) (lJp hlt)
  refine lQm jYe ?_
  rw[lQq jQx _]
  refine (show wpAny _ A.in1 (pyNext (.ref it) >>= _) _ _ s from ?_)
  refine lJa (wpAny_pyNext_list_item (A:=A.in1) hit a.li (x:= .ref ts[i]) (by simp[hlt2]) fun h' hit' sb=> ?_)
  have tne:∀b o,s.heap.get? b=some o->o.cls= .type "tuple"->b≠it:=fun b o ho hc=>by
   rintro rfl
   obtain⟨o',ho',hc',_⟩:=hit
   rw[ho] at ho';cases ho'
   rw[hc] at hc'
   exact absurd hc' (by decide)
  have kp1:∀b o,s.heap.get? b=some o->(o.cls= .type "tuple"\/b=l)->h'.get? b=some o:=fun b o e z=>(sb.2 b (z.elim (fun hc=>tne b o e hc) fun q=>by rw[q];exact li)).trans e
  have a':=a.moved kp1
  have hd':h'.DictOf (jJ7 prog w) d ((dlK ps).take i):=by
   obtain⟨o',es,ep,ho',r⟩:=hd
   exact⟨o',es,ep,(sb.2 d di).trans ho',r⟩
  have tp':IsTup h' ts[i] #[.int ps[i].1.1 ps[i].1.2,ps[i].2]:=a'.at_ i _ _ (lJp hlt2) (lJp hlt)
  have nk:(Sum.inl ps[i].1.1:Key)∉((dlK ps).take i).map (·.1):=by
   rw[lXp,dlK,lJ4]
   intro z
   obtain⟨m,hm,e⟩:=lXi z
   rw[lK1] at hm
   have hm':m<ps.length:=by simp at hm;omega
   rw[lYp,List.getElem_map] at e
   have e':ps[m].1.1=ps[i].1.1:=Sum.inl.inj e
   have:=(List.getElem_inj (i:=m) (j:=i) (h₀:=by simpa using hm') (h₁:=by simpa using hlt) hn).mp (by simpa using e')
   simp at hm;omega
  have tk1:(dlK ps).take i++[(.inl ps[i].1.1,ps[i].2)]=(dlK ps).take (i+1):=by
   rw[lK3,lJp (by rw[zl];exact hlt)]
   simp[dlK]
  refine lJa (lKy (lJa (wpAny_tryCatch (qJt (s:={s with heap:=h'}) tp' (lKy (wpAny_dictSet_pairs (s:={s with heap:=h'}) (jY7 prog w _ _) hd' (fun h2 hd2 sb2=> ?_) (by rw[lK1];omega)))))))
  rw[qJs nk,tk1] at hd2
  have dne:∀b o,h'.get? b=some o->o.cls= .type "tuple"->b≠d:=fun b o ho hc=>by
   rintro rfl
   obtain⟨o',ho',hc'⟩:=hd'.typeIs (s:={s with heap:=h'})
   rw[show h'.get? b=some o' from ho'] at ho;cases ho
   rw[hc] at hc'
   exact absurd hc' (by decide)
  refine lJd ⟨lQt jQx _,ih (i+1) _ _ _ (by omega) hlt (a'.moved fun b o e z=>(sb2.2 b (z.elim (fun hc=>dne b o e hc) fun q=>by rw[q];exact dl.symm)).trans e) (hit'.at fun o e=>(sb2.2 it di.symm).trans e) hd2 fun h3 t3 hd3 kp3=>hR h3 t3 hd3 fun b o c1 c2 e=>kp3 b o c1 c2 ((sb2.2 b c1).trans ((sb.2 b c2).trans e))⟩
theorem qYc {l:Addr} {ts:List Addr} {ps:List ((Int×Tok)×Value)} {c:Nat} (hh:A.handled=none) (hl:s.heap.get? l=some {cls:= .type "list",dict:=none,data:= .seq (ts.map Value.ref).toArray c,slots:= #[]}) (a:DlAt s.heap l ts ps) (hn:(ps.map (·.1.1)).Nodup) (hs:ps.length<=sizeLine) {Q:Value->Shared->Prop}
  (k:∀h' t',h'.DictOf (jJ7 prog w) s.heap.objs.size (dlK ps)->(∀b o,s.heap.get? b=some o->h'.get? b=some o)->Q (.ref s.heap.objs.size) {s with heap:=h',toks:=t'}):
  wpAny (model prog w) A (call (.type "dict") [.ref l]) Q E s:=by
 refine callType_codes (Q₁:=fun obj s₁=>obj= .ref s.heap.objs.size/\s₁={s with heap:=s.heap.push {cls:= .type "dict",data:= .dict #[]} }) PySem.F.kt_called_dict (PySem.F.kt_typeCall_dict_1 _) PySem.F.entry_dict_init (kt_code_dict_new _ ⟨rfl,rfl⟩) ?_
 rintro obj s₁ ⟨rfl,rfl⟩
 have hnew:(s.heap.push {cls:= .type "dict",data:= .dict #[]}).DictOf (jJ7 prog w) s.heap.objs.size []:=Heap.DictOf.new s.heap
 refine⟨hnew.typeIs,PySem.F.args_dict_init_2 _ _,?_⟩
 (unfold Builtin.«dict.__init__»)
 refine lJa ?_
 (unfold Builtin.Dict.selfAndRest)
 (refine lJa (wpAny_notOrdered_dict hnew.typeIs ?_))
 refine (show wpAny _ _ (pure (s.heap.objs.size,[Value.ref l])) _ _ _ from ?_)
 refine lJd ?_
 refine (show wpAny _ _ (Builtin.Dict.updateFrom "dict.__init__" s.heap.objs.size (.ref l) [] .none) _ _ _ from ?_)
 (unfold Builtin.Dict.updateFrom)
 have up:∀b o,s.heap.get? b=some o->(s.heap.push {cls:= .type "dict",data:= .dict #[]}).get? b=some o:=fun b o e=>lJl _ e
 have hl0:=up _ _ hl
 have hTl:Shared.TypeIs {s with heap:=s.heap.push {cls:= .type "dict",data:= .dict #[]} } (.ref l) "list":=⟨_,hl0,rfl⟩
 refine lJa (lVs hTl ?_)
 rw[lJc (by decide)]
 refine lJa (kQb (s:={s with heap:=s.heap.push {cls:= .type "dict",data:= .dict #[]} }) (by simpa using hh) hl0 fun g tk kp=> ?_)
 simp only[Option.isNone_none,lKl]
 refine lJa (lK6 ?_)
 have kp':∀b o,s.heap.get? b=some o->g.get? b=some o:=fun b o e=>kp b o (up b o e)
 have a1:DlAt g l ts ps:=a.moved fun b o e _=>kp' b o e
 refine lJa (lXy (s:={s with heap:=g,toks:=tk}) a1.li ?_)
 have hd0:g.DictOf (jJ7 prog w) s.heap.objs.size []:=by
  obtain⟨o',es,ep,ho',r⟩:=hnew
  exact⟨o',es,ep,kp _ o' ho',r⟩
 have gd:s.heap.objs.size<g.objs.size:=by obtain⟨o',es,ep,ho',r⟩:=hd0;exact lJi ho'
 have ll:l<s.heap.objs.size:=lJi hl
 refine lJd ⟨lQt jQx _,qYa (A:=A.in1) (ts:=ts) (ps:=ps) (l:=l) (by simpa using hh) (lK0 ll) (lJm gd) (lJm (lQw ll gd)) hn hs ps.length 0 _ _ _ (by omega) (lJ6 _) (a1.moved fun b o e _=>lJl _ e) ⟨_,lJ8 _ rfl,rfl,rfl⟩ ?_ fun h4 t4 hd4 kp4=>⟨rfl,k h4 t4 hd4 fun b o e=>kp4 b o (lJm (lJi e)) (lJm (lQw (lJi e) gd)) (lJl _ (kp' b o e))⟩⟩
 obtain⟨o',es,ep,ho',r⟩:=hd0
 exact⟨o',es,ep,lJl _ ho',r⟩
end
theorem kVb {K:PySem.W.Frag} {H:Hp}:∀ {kvs:List (Int×T)} {vs:List V},Reps K H (kvs.map fun kv=>T.tup [.int kv.1,kv.2]) vs->∃qs:List (Addr×V),vs=qs.map (fun q=>V.ref q.1)/\Reps K H (kvs.map (·.2)) (qs.map (·.2))/\Paired (fun (kv:Int×T) (q:Addr×V)=>H q.1=some (.tup [.int kv.1,q.2])) kvs qs
 | [],_,h=>by cases h;exact⟨[],rfl,rfl,.nil⟩
 | kv::kvs,_,⟨v,ws,e,r,rs⟩=>by
  subst e
  obtain⟨a,us,e,h1,h2⟩:=(show ∃a us,v= .ref a/\H a=some (.tup us)/\Reps K H [.int kv.1,kv.2] us from r)
  subst e
  obtain⟨x,y,rfl,r1,r2⟩:=kXf h2
  cases (show x= .int kv.1 from r1)
  obtain⟨qs,e1,e2,e3⟩:=kVb rs
  exact⟨(a,y)::qs,by rw[e1];rfl,⟨_,_,rfl,r2,e2⟩,.cons h1 e3⟩
theorem qQb {X:Cx} {pins:List (Addr×Obj)} {σ:L2.St} {H:Hp} {s:Shared} (I:Inv X pins σ H s) {kvs:List (Int×T)} {qs:List (Addr×V)} (h:Paired (fun (kv:Int×T) (q:Addr×V)=>H q.1=some (.tup [.int kv.1,q.2])) kvs qs):
  ∃ps:List ((Int×Tok)×Value),ps.map (·.1.1)=kvs.map (·.1)/\Vals (qs.map (·.2)) (ps.map (·.2))/\Paired (fun (q:Addr×V) (p:(Int×Tok)×Value)=>IsTup s.heap q.1 #[.int p.1.1 p.1.2,p.2]) qs ps:=by
 induction h with
 | nil=>exact⟨[],rfl,.nil,.nil⟩
 | @cons kv q kvs qs h t ih=>
  obtain⟨ps,e1,e2,e3⟩:=ih
  obtain⟨its,r,tp,_⟩:=I.tuple (.of h)
  obtain⟨u,v,rfl,ru,rv⟩:=r.two
  obtain⟨tk,rfl⟩:=ru
  exact⟨((kv.1,tk),v)::ps,by rw[lJo,e1];rfl,.cons rv e2,.cons tp e3⟩
theorem kY2 {α β:Type} {R:α->β->Prop} {l:List α} {m:List β} (h:Paired R l m):∀(i:Nat) a b,l[i]? =some a->m[i]? =some b->R a b:=by
 induction h with
 | nil=>intro i a b e;simp at e
 | @cons x y l m r t ih=>
  intro i a b e1 e2
  cases i with
  | zero=>cases e1;cases e2;exact r
  | succ i=>exact ih i a b (by simpa using e1) (by simpa using e2)
theorem jYk:∀ {ts:List Addr} {us:List Value},Vals (ts.map V.ref) us->us=ts.map Value.ref
 | [],_,.nil=>rfl
 | t::ts,_,.cons r rs=>by rw[lJo,<-jYk rs];exact lKo (· ::_) r
theorem kv_of {kvs:List (Int×T)} {ws:List V} {ps:List ((Int×Tok)×Value)} (h1:ps.map (·.1.1)=kvs.map (·.1)) (h2:Vals ws (ps.map (·.2))):KV ((kvs.map fun kv=>(Sum.inl kv.1:Key)).zip ws) (dlK ps):=by
 induction ps generalizing kvs ws with
 | nil=>cases kvs with
  | nil=>exact .nil
  | cons=>simp at h1
 | cons p ps ih=>cases kvs with
  | nil=>simp at h1
  | cons kv kvs=>
   cases h2 with
   | cons r rs=>
    simp only[lJo,lXo] at h1
    exact .cons ⟨(lKo Sum.inl h1.1).symm,r⟩ (ih h1.2 rs)
theorem qU1 {K:PySem.W.Frag} {H:Hp}:∀ {kvs:List (Int×T)} {ws:List V},Reps K H (kvs.map (·.2)) ws->PKV K H (kvs.map fun kv=>((Sum.inl kv.1:Key),kv.2)) ((kvs.map fun kv=>(Sum.inl kv.1:Key)).zip ws)
 | [],_,h=>by cases h;exact .nil
 | kv::kvs,_,⟨v,ws,e,r,rs⟩=>by subst e;exact .cons ⟨rfl,r⟩ (qU1 rs)
section
variable {X:Cx}
noncomputable def kYu:List T->Gp->VK3->Prop:=fun vs G1 Q=>∃(p:Addr) (kvs:List (Int×T)),vs=[.ref p]/\G1 p=some (.lst (kvs.map fun kv=> .tup [.int kv.1,kv.2]))/\(kvs.map (·.1)).Nodup/\kvs.length<=1000/\∀q,G1 q=none->Q (.ref q) (gup G1 q (.dck (kvs.map fun kv=>(.inl kv.1,kv.2))))
theorem qYm (hc:X.calm=true):Call3 X (.type "dict") kYu:=by
 rintro pins s τ G H xs us Q ⟨σ,I,hs,hg⟩ ⟨as,ras,rvs⟩ ⟨p,kvs,ex,hp,hnd,hl,q⟩
 subst ex
 obtain⟨v,rfl,rv⟩:=jUs ras
 obtain⟨u,rfl,ru⟩:=rvs.one
 cases (show v= .ref p from rv)
 cases ru
 obtain⟨vs,h1,h2⟩:=hg.lst hp
 obtain⟨qs,rfl,r2,pr⟩:=kVb h2
 obtain⟨hz,its,n,r,hlen,e⟩:=I.lstM h1
 obtain⟨ps,p1,p2,p3⟩:=qQb I pr
 have ei:=jYk (ts:=qs.map (·.1)) (us:=its) (by rw[lJ4];exact r)
 subst ei
 have lq:qs.length=ps.length:=lQ2 p3
 have lk:kvs.length=qs.length:=lQ2 pr
 have big:=I.big
 have hsl:=lKs
 refine qYc (s:=s) (ts:=qs.map (·.1)) (ps:=ps) (I.ok.hd hc) e ⟨⟨_,e,rfl,_,rfl⟩,by rw[lJf];exact lq,fun i t p e1 e2=> ?_⟩ (by rw[p1];exact hnd) (by omega) fun h' t' dd kp=> ?_
 ·rw[lJz] at e1
  cases e3:qs[i]? with
  | none=>rw[e3] at e1;cases e1
  | some q=>rw[e3] at e1;cases e1;exact kY2 p3 i q p e3 e2
 ·have fr:=I.hok.fresh (lJg s.heap.objs.size)
  have I3:=I.laid (a:=s.heap.objs.size) (o:= .dK ((kvs.map fun kv=>(Sum.inl kv.1:Key)).zip (qs.map (·.2)))) (h':=h') (t':=t') kp (lJg _) ⟨by rw[lX8,lJf,lJf];omega,beq_eq_false_iff_ne.mpr (Ne.symm (lJm big)),dlK ps,kv_of p1 p2,dd⟩
  have ext:Ext H (upd H s.heap.objs.size (.dK ((kvs.map fun kv=>(Sum.inl kv.1:Key)).zip (qs.map (·.2))))):= .upd (.none fr)
  exact⟨.ref _,_,_,ext,⟨σ,I3,hs.mono ext,hg.upd (.none fr) (go:= .dck (kvs.map fun kv=>(.inl kv.1,kv.2))) ⟨_,jJ3,(qU1 r2).mono ext⟩⟩,⟨.ref _,rfl,rfl⟩,q _ (hg.fresh fr)⟩
end
end L3
namespace L3
open PySem PySem.Spec PyProof.Rows L2 PySem.W
section
variable {prog:Program} {w:World} {A:Around} {E:Value->Shared->Prop} {s:Shared} {d:Addr} {o:Obj} {es:Array DictEntry} {ep:Nat}
end
def hf (r d:Nat):Int:=reduceHash (Builtin.Tuple.tupleHashOf [hashInt r,hashInt d])
def hfs:List Int:=(List.range 24).flatMap fun r=>(List.range 12).map (hf r)
section
variable {X:Cx}
end
end L3
namespace L3
open PySem PyProof.Rows
def qXy:Bool->Keyed->Array Keyed->Nat->Nat->Nat->StateT SortSt Sem (Option Nat):=sortPriv%PySem.Builtin.gallop
def qQm:Array Keyed->Array Keyed->StateT SortSt Sem (Array Keyed):=sortPriv%PySem.Builtin.mergeLo
def qQn:Array Keyed->Array Keyed->StateT SortSt Sem (Array Keyed):=sortPriv%PySem.Builtin.mergeHi
section
variable {A:Around} {E:Value->Shared->Prop} {s:Shared} {M:Model}
structure Asks (M:Model) (A:Around) (s:Shared) (κ:SortKind) (mem:Keyed->Prop) (le:Keyed->Keyed->Prop) [∀x y,Decidable (le x y)]:Prop where
 ask:∀x y,mem x->mem y->∀(E:Value->Shared->Prop) (Q:Bool->Shared->Prop),Q (!decide (le y x)) s->wpAny M A (keyLt' κ x.1 y.1) Q E s
 tot:∀x y,mem x->mem y->le x y\/le y x
 tr:∀x y z,mem x->mem y->mem z->le x y->le y z->le x z
variable {κ:SortKind} {mem:Keyed->Prop} {le:Keyed->Keyed->Prop} [∀x y,Decidable (le x y)]
theorem kZl (H:Asks M A s κ mem le) {x y:Keyed} (hx:mem x) (hy:mem y) {st:SortSt} (hk:kindOf st=κ) {Q:Option Bool->SortSt->Prop} (h:Q (some (!decide (le y x))) st):wpS M A E s (lt' x y) Q st:=by
 rw[lt'_eq]
 refine lJe (lQh ?_)
 rw[hk]
 refine lJe (wpS_lift (wpAny_attempt (H.ask x y hx hy _ _ ?_)))
 exact⟨rfl,lJh h⟩
theorem jJ2 {arr:Array Keyed} {i:Nat} {x:Keyed} {st:SortSt} {Q:Keyed->SortSt->Prop} (hi:arr[i]? =some x) (h:Q x st):wpS M A E s (elem' arr i) Q st:=by
 rw[elem'_eq,hi];exact lJh h
def bey (le:Keyed->Keyed->Prop) [∀x y,Decidable (le x y)] (left:Bool) (key x:Keyed):Bool:=if left=true then !decide (le key x) else decide (le x key)
theorem qJ5 (H:Asks M A s κ mem le) {left:Bool} {key x:Keyed} {arr:Array Keyed} {b:Nat} {st:SortSt} {Q:Option Bool->SortSt->Prop} (hk:kindOf st=κ) (hkey:mem key) (hx:arr[b]? =some x) (hm:mem x) (h:Q (some (bey le left key x)) st):
  wpS M A E s (do let y <-elem' arr b;if left=true then lt' y key else do let r <-lt' key y;pure (r.map fun z=> !z)) Q st:=by
 refine lJe (jJ2 hx ?_)
 cases left with
 | true=>rw[lJc rfl];exact kZl H hm hkey hk h
 | false=>
  rw[lJb (by decide)]
  refine lJe (kZl H hkey hm hk (lJh ?_))
  simpa[bey] using h
theorem jQ6 {left:Bool} {key:Keyed} {arr:Array Keyed} {base n hint:Nat} {st:SortSt} {Q:Option Nat->SortSt->Prop} (H:Asks M A s κ mem le) (hk:kindOf st=κ) (hkey:mem key) {f:Nat->Keyed} (hf:∀i,i<n->arr[base+i]? =some (f i)) (hm:∀i,i<n->mem (f i)) (hs:∀i j,i<=j->j<n->le (f i) (f j)) (hh:hint<n)
  (h:∀k,k<=n->(∀i,i<k->bey le left key (f i)=true)->(∀i,k<=i->i<n->bey le left key (f i)=false)->Q (some k) st):
  wpS M A E s (qXy left key arr base n hint) Q st:=by
 have ask:∀(i:Nat) {Q:Option Bool->SortSt->Prop},i<n->Q (some (bey le left key (f i))) st->wpS M A E s (do let y <-elem' arr (base+i);if left=true then lt' y key else do let r <-lt' key y;pure (r.map fun z=> !z)) Q st:=fun i {Q} hi q=>qJ5 H hk hkey (hf i hi) (hm i hi) q
 have mono:∀i j,i<=j->j<n->bey le left key (f j)=true->bey le left key (f i)=true:=by
  intro i j hij hj hb
  unfold bey at hb ⊢
  cases left with
  | true=>
   rw[lJc rfl] at hb ⊢
   simp only[lYs,lV9] at hb ⊢
   exact fun z=>hb (H.tr _ _ _ hkey (hm i (by omega)) (hm j hj) z (hs i j hij hj))
  | false=>
   rw[lJb (by decide)] at hb ⊢
   rw[lQg] at hb ⊢
   exact H.tr _ _ _ (hm i (by omega)) (hm j hj) hkey (hs i j hij hj) hb
 refine lJe (ask hint hh ?_)
 cases hbh:bey le left key (f hint) with
 | true=>
  dsimp only
  rw[lJc rfl]
  refine lJe (lKp (lKq (I:=fun i (c:Option (Option Nat)×Nat×Nat) st'=>st=st'/\c.1=none/\c.2.1<c.2.2/\i+1<=c.2.2/\hint+c.2.1<n/\bey le left key (f (hint+c.2.1))=true)
   (Q:=fun (c:Option (Option Nat)×Nat×Nat) st'=>st=st'/\c.1=none/\c.2.1<c.2.2/\hint+c.2.1<n/\bey le left key (f (hint+c.2.1))=true/\(c.2.2<n-hint->bey le left key (f (hint+c.2.2))=false)) ?_ ?_ ⟨rfl,rfl,by decide,by decide,hh,hbh⟩) ?_)
  ·rintro x ⟨r,la,of⟩ st' _ hx ⟨rfl,rfl,i1,i2,i3,i4⟩
   dsimp only at i1 i2 i3 i4 ⊢
   by_cases c:of>=n-hint
   ·rw[lJc c]
    exact wpS_pure ⟨rfl,rfl,i1,i3,i4,fun z=>absurd c (by dsimp only at z;omega)⟩
   ·rw[lJb c]
    refine lJe (ask _ (by omega) ?_)
    cases hbo:bey le left key (f (hint+of)) with
    | false=>
     dsimp only
     (rw[lJc (show (!false)=true from rfl)])
     exact lJh ⟨rfl,rfl,i1,i3,i4,fun _=>hbo⟩
    | true=>
     dsimp only
     rw[lJb (by decide)]
     exact wpS_pure ⟨rfl,rfl,by dsimp only;omega,by dsimp only;omega,by dsimp only;omega,hbo⟩
  ·rintro⟨r,la,of⟩ st' ⟨rfl,rfl,i1,i2,i3,i4⟩
   dsimp only at i1 i2 i3 i4 ⊢
   exact⟨rfl,rfl,i1,i3,i4,fun z=>absurd z (by omega)⟩
  ·rintro⟨r,la,of⟩ st' ⟨rfl,rfl,i1,i3,i4,i5⟩
   dsimp only at i1 i3 i4 i5 ⊢
   have PL:∀i,i<hint+la+1->bey le left key (f i)=true:=fun i hi=>mono i _ (by omega) i3 i4
   have PH:∀i,hint+min of (n-hint)<=i->i<n->bey le left key (f i)=false:=fun i hi hin=>by
    have hon:=i5 (by omega)
    cases hbi:bey le left key (f i) with
    | false=>rfl
    | true=>rw[mono (hint+of) i (by omega) hin hbi] at hon;cases hon
   have LO:hint+la+1<=hint+min of (n-hint):=by omega
   have HI:hint+min of (n-hint)<=n:=by omega
   refine lJe (lKp (lKq (I:=fun i (c:Option (Option Nat)×Nat×Nat) st'=>st=st'/\c.1=none/\c.2.1<=c.2.2/\c.2.2<=n/\c.2.2-c.2.1<=n-i/\(∀i,i<c.2.1->bey le left key (f i)=true)/\(∀i,c.2.2<=i->i<n->bey le left key (f i)=false))
    (Q:=fun (c:Option (Option Nat)×Nat×Nat) st'=>st=st'/\c.1=none/\c.2.2<=n/\(∀i,i<c.2.2->bey le left key (f i)=true)/\(∀i,c.2.2<=i->i<n->bey le left key (f i)=false)) ?_ ?_ ⟨rfl,rfl,LO,HI,by dsimp only;omega,PL,PH⟩) ?_)
   ·rintro x ⟨r,lo,hi⟩ st' _ hx ⟨rfl,rfl,i1,i2,i3,i4,i5⟩
    dsimp only at i1 i2 i3 i4 i5 ⊢
    by_cases c:lo>=hi
    ·rw[lJc c]
     exact wpS_pure ⟨rfl,rfl,i2,fun i hi'=>i4 i (by dsimp only at hi';omega),i5⟩
    ·rw[lJb c]
     have hmm:lo+(hi-lo) / 2<hi:=by omega
     refine lJe (ask _ (by omega) ?_)
     cases hbm:bey le left key (f (lo+(hi-lo) / 2)) with
     | true=>
      dsimp only
      rw[lJc rfl]
      exact wpS_pure ⟨rfl,rfl,by dsimp only;omega,i2,by dsimp only;omega,fun i hi'=>mono i _ (by dsimp only at hi';omega) (by omega) hbm,i5⟩
     | false=>
      dsimp only
      rw[lJb (by decide)]
      refine wpS_pure ⟨rfl,rfl,by dsimp only;omega,by dsimp only;omega,by dsimp only;omega,i4,fun i hi' hin=> ?_⟩
      dsimp only at hi'
      cases hbi:bey le left key (f i) with
      | false=>rfl
      | true=>rw[mono _ i hi' hin hbi] at hbm;cases hbm
   ·rintro⟨r,lo,hi⟩ st' ⟨rfl,rfl,i1,i2,i3,i4,i5⟩
    dsimp only at i1 i2 i3 i4 i5 ⊢
    exact⟨rfl,rfl,i2,fun i hi'=>i4 i (by omega),i5⟩
   ·rintro⟨r,lo,hi⟩ st' ⟨rfl,rfl,i1,i2,i3⟩
    dsimp only at i1 i2 i3 ⊢
    exact lJh (h hi i1 i2 i3)
 | false=>
  dsimp only
  rw[lJb (by decide)]
  refine lJe (lKp (lKq (I:=fun i (c:Option (Option Nat)×Nat×Nat) st'=>st=st'/\c.1=none/\c.2.1<c.2.2/\i+1<=c.2.2/\c.2.1<=hint/\bey le left key (f (hint-c.2.1))=false)
   (Q:=fun (c:Option (Option Nat)×Nat×Nat) st'=>st=st'/\c.1=none/\c.2.1<c.2.2/\c.2.1<=hint/\bey le left key (f (hint-c.2.1))=false/\(c.2.2<hint+1->bey le left key (f (hint-c.2.2))=true)) ?_ ?_ ⟨rfl,rfl,by decide,by decide,lJ6 _,hbh⟩) ?_)
  ·rintro x ⟨r,la,of⟩ st' _ hx ⟨rfl,rfl,i1,i2,i3,i4⟩
   dsimp only at i1 i2 i3 i4 ⊢
   by_cases c:of>=hint+1
   ·rw[lJc c]
    exact wpS_pure ⟨rfl,rfl,i1,i3,i4,fun z=>absurd c (by dsimp only at z;omega)⟩
   ·rw[lJb c]
    refine lJe (ask _ (by omega) ?_)
    cases hbo:bey le left key (f (hint-of)) with
    | true=>
     dsimp only
     rw[lJc rfl]
     exact lJh ⟨rfl,rfl,i1,i3,i4,fun _=>hbo⟩
    | false=>
     dsimp only
     rw[lJb (by decide)]
     exact wpS_pure ⟨rfl,rfl,by dsimp only;omega,by dsimp only;omega,by dsimp only;omega,hbo⟩
  ·rintro⟨r,la,of⟩ st' ⟨rfl,rfl,i1,i2,i3,i4⟩
   dsimp only at i1 i2 i3 i4 ⊢
   exact⟨rfl,rfl,i1,i3,i4,fun z=>absurd z (by omega)⟩
  ·rintro⟨r,la,of⟩ st' ⟨rfl,rfl,i1,i3,i4,i5⟩
   dsimp only at i1 i3 i4 i5 ⊢
   have PL:∀i,i<hint+1-min of (hint+1)->bey le left key (f i)=true:=fun i hi=>mono i (hint-of) (by omega) (by omega) (i5 (by omega))
   have PH:∀i,hint-la<=i->i<n->bey le left key (f i)=false:=fun i hi hin=>by
    cases hbi:bey le left key (f i) with
    | false=>rfl
    | true=>rw[mono (hint-la) i hi hin hbi] at i4;cases i4
   have LO:hint+1-min of (hint+1)<=hint-la:=by omega
   have HI:hint-la<=n:=by omega
   refine lJe (lKp (lKq (I:=fun i (c:Option (Option Nat)×Nat×Nat) st'=>st=st'/\c.1=none/\c.2.1<=c.2.2/\c.2.2<=n/\c.2.2-c.2.1<=n-i/\(∀i,i<c.2.1->bey le left key (f i)=true)/\(∀i,c.2.2<=i->i<n->bey le left key (f i)=false))
    (Q:=fun (c:Option (Option Nat)×Nat×Nat) st'=>st=st'/\c.1=none/\c.2.2<=n/\(∀i,i<c.2.2->bey le left key (f i)=true)/\(∀i,c.2.2<=i->i<n->bey le left key (f i)=false)) ?_ ?_ ⟨rfl,rfl,LO,HI,by dsimp only;omega,PL,PH⟩) ?_)
   ·rintro x ⟨r,lo,hi⟩ st' _ hx ⟨rfl,rfl,i1,i2,i3,i4,i5⟩
    dsimp only at i1 i2 i3 i4 i5 ⊢
    by_cases c:lo>=hi
    ·rw[lJc c]
     exact wpS_pure ⟨rfl,rfl,i2,fun i hi'=>i4 i (by dsimp only at hi';omega),i5⟩
    ·rw[lJb c]
     have hmm:lo+(hi-lo) / 2<hi:=by omega
     refine lJe (ask _ (by omega) ?_)
     cases hbm:bey le left key (f (lo+(hi-lo) / 2)) with
     | true=>
      dsimp only
      rw[lJc rfl]
      exact wpS_pure ⟨rfl,rfl,by dsimp only;omega,i2,by dsimp only;omega,fun i hi'=>mono i _ (by dsimp only at hi';omega) (by omega) hbm,i5⟩
     | false=>
      dsimp only
      rw[lJb (by decide)]
      refine wpS_pure ⟨rfl,rfl,by dsimp only;omega,by dsimp only;omega,by dsimp only;omega,i4,fun i hi' hin=> ?_⟩
      dsimp only at hi'
      cases hbi:bey le left key (f i) with
      | false=>rfl
      | true=>rw[mono _ i hi' hin hbi] at hbm;cases hbm
   ·rintro⟨r,lo,hi⟩ st' ⟨rfl,rfl,i1,i2,i3,i4,i5⟩
    dsimp only at i1 i2 i3 i4 i5 ⊢
    exact⟨rfl,rfl,i2,fun i hi'=>i4 i (by omega),i5⟩
   ·rintro⟨r,lo,hi⟩ st' ⟨rfl,rfl,i1,i2,i3⟩
    dsimp only at i1 i2 i3 ⊢
    exact lJh (h hi i1 i2 i3)
end
section
variable {le:Keyed->Keyed->Prop} {a b out:Array Keyed} {ia ib k:Nat}
def Fin2 (le:Keyed->Keyed->Prop) (a b r:Array Keyed):Prop:=r.toList.Perm (a.toList++b.toList)/\r.toList.Pairwise le
structure Lw (le:Keyed->Keyed->Prop) (a b out:Array Keyed) (ia ib:Nat):Prop where
 perm:(out.toList++(a.toList.drop ia++b.toList.drop ib)).Perm (a.toList++b.toList)
 srt:out.toList.Pairwise le
 up:∀x,x∈out.toList->∀y,y∈a.toList.drop ia++b.toList.drop ib->le x y
theorem Lw.size (h:Lw le a b out ia ib):out.size+((a.size-ia)+(b.size-ib))=a.size+b.size:=by
 have:=h.perm.length_eq
 simpa using this
theorem jU4 {arr:Array Keyed} {i j:Nat}:(arr.extract i j).toList=(arr.toList.drop i).take (j-i):=by simp[List.extract]
theorem qVa (h:k<=a.size):(a.extract ia (ia+k)).toList=(a.toList.drop ia).take k:=by rw[jU4];congr 1;omega
theorem kJ9:(a.extract ia).toList=a.toList.drop ia:=by
 rw[jU4]
 (exact lQd (by simp))
theorem Lw.takeA (h:Lw le a b out ia ib) (sa:a.toList.Pairwise le) {o:Array Keyed} (ho:o.toList=out.toList++(a.toList.drop ia).take k) (hx:∀x,x∈(a.toList.drop ia).take k->∀y,y∈b.toList.drop ib->le x y):Lw le a b o (ia+k) ib:=by
 have e:a.toList.drop ia=(a.toList.drop ia).take k++a.toList.drop (ia+k):=by rw[<-List.drop_drop];exact (lKx k _).symm
 have sd:(a.toList.drop ia).Pairwise le:=sa.sublist (lQ6 ..)
 have up:=h.up
 have perm:=h.perm
 rw[e] at sd up perm
 obtain⟨s1,s2,s3⟩:=lKh.mp sd
 refine⟨?_,?_,?_⟩
 ·rw[ho,lJn,<-lJn _ _ (b.toList.drop ib)];exact perm
 ·rw[ho]
  exact lKh.mpr ⟨h.srt,s1,fun x hx' y hy=>up x hx' y (lKe _ (lKe _ hy))⟩
 ·intro x hx' y hy
  rw[ho] at hx'
  rcases (lJr.mp hx') with z | z
  ·refine up x z y ?_
   rcases (lJr.mp hy) with w | w
   ·exact lKe _ (lJy _ w)
   ·exact lJy _ w
  ·rcases (lJr.mp hy) with w | w
   ·exact s3 x z y w
   ·exact hx x z y w
theorem Lw.takeB (h:Lw le a b out ia ib) (sb:b.toList.Pairwise le) {o:Array Keyed} (ho:o.toList=out.toList++(b.toList.drop ib).take k) (hx:∀x,x∈(b.toList.drop ib).take k->∀y,y∈a.toList.drop ia->le x y):Lw le a b o ia (ib+k):=by
 have e:b.toList.drop ib=(b.toList.drop ib).take k++b.toList.drop (ib+k):=by rw[<-List.drop_drop];exact (lKx k _).symm
 have sd:(b.toList.drop ib).Pairwise le:=sb.sublist (lQ6 ..)
 have up:=h.up
 have perm:=h.perm
 rw[e] at sd up perm
 obtain⟨s1,s2,s3⟩:=lKh.mp sd
 refine⟨?_,?_,?_⟩
 ·rw[ho,lJn]
  refine List.Perm.trans (lV3 _ ?_) perm
  (rw[<-lJn,<-lJn])
  (exact lX9 _ lYt)
 ·rw[ho]
  exact lKh.mpr ⟨h.srt,s1,fun x hx' y hy=>up x hx' y (lJy _ (lKe _ hy))⟩
 ·intro x hx' y hy
  rw[ho] at hx'
  rcases (lJr.mp hx') with z | z
  ·refine up x z y ?_
   rcases (lJr.mp hy) with w | w
   ·exact lKe _ w
   ·exact lJy _ (lJy _ w)
  ·rcases (lJr.mp hy) with w | w
   ·exact hx x z y w
   ·exact s3 x z y w
theorem jUg {arr:Array Keyed} {i:Nat} {x:Keyed} (h:arr[i]? =some x):arr.toList.drop i=x::arr.toList.drop (i+1):=by
 have hl:arr.toList[i]? =some x:=by rw[lKa];exact h
 obtain⟨h1,h2⟩:=lJq.mp hl
 rw[lVm h1,h2]
theorem Lw.pushA (h:Lw le a b out ia ib) (sa:a.toList.Pairwise le) {x:Keyed} (hi:a[ia]? =some x) (hx:∀y,y∈b.toList.drop ib->le x y):Lw le a b (out.push x) (ia+1) ib:=by
 have e:(a.toList.drop ia).take 1=[x]:=by rw[jUg hi];rfl
 refine h.takeA sa (k:=1) (by rw[e];simp) fun z hz y hy=> ?_
 rw[e,lJs] at hz
 rw[hz];exact hx y hy
theorem Lw.pushB (h:Lw le a b out ia ib) (sb:b.toList.Pairwise le) {x:Keyed} (hi:b[ib]? =some x) (hx:∀y,y∈a.toList.drop ia->le x y):Lw le a b (out.push x) ia (ib+1):=by
 have e:(b.toList.drop ib).take 1=[x]:=by rw[jUg hi];rfl
 refine h.takeB sb (k:=1) (by rw[e];simp) fun z hz y hy=> ?_
 rw[e,lJs] at hz
 rw[hz];exact hx y hy
theorem Lw.done (h:Lw le a b out ia ib) (sa:a.toList.Pairwise le) (sb:b.toList.Pairwise le) (hi:ib=b.size\/ia=a.size):Fin2 le a b (out++a.extract ia++b.extract ib):=by
 have e:(out++a.extract ia++b.extract ib).toList=out.toList++(a.toList.drop ia++b.toList.drop ib):=by rw[lQj,lQj,kJ9,kJ9,lJn]
 unfold Fin2
 rw[e]
 refine⟨h.perm,lKh.mpr ⟨h.srt,?_,h.up⟩⟩
 refine lKh.mpr ⟨sa.sublist (lQ6 ..),sb.sublist (lQ6 ..),fun x hx y hy=> ?_⟩
 rcases hi with z | z
 ·rw[z,lVn (by simp)] at hy;cases hy
 ·rw[z,lVn (by simp)] at hx;cases hx
theorem Lw.lastA (h:Lw le a b out ia ib) (sa:a.toList.Pairwise le) (sb:b.toList.Pairwise le) (hi:ia+1=a.size) (hl:∀x,a[ia]? =some x->∀y,y∈b.toList->le y x):Fin2 le a b (out++b.extract ib++a.extract ia):=by
 have e:(out++b.extract ib++a.extract ia).toList=out.toList++(b.toList.drop ib++a.toList.drop ia):=by rw[lQj,lQj,kJ9,kJ9,lJn]
 unfold Fin2
 rw[e]
 have hx:a[ia]? =some a[ia]:=lQb (by omega)
 have ed:a.toList.drop ia=[a[ia]]:=by rw[jUg hx,lVn (by simp;omega)]
 refine⟨(lV3 _ lYt).trans h.perm,lKh.mpr ⟨h.srt,?_,fun x hx' y hy=>h.up x hx' y ?_⟩⟩
 ·refine lKh.mpr ⟨sb.sublist (lQ6 ..),sa.sublist (lQ6 ..),fun x hx' y hy=> ?_⟩
  rw[ed,lJs] at hy
  rw[hy]
  exact hl _ hx x (lVi hx')
 ·rcases (lJr.mp hy) with w | w
  ·exact lJy _ w
  ·exact lKe _ w
end
section
variable {M:Model} {A:Around} {E:Value->Shared->Prop} {s:Shared} {κ:SortKind} {mem:Keyed->Prop} {le:Keyed->Keyed->Prop} [∀x y,Decidable (le x y)]
abbrev jKf (st:SortSt) (g:Nat):SortSt:=SortSt.mk' (kindOf st) (arrOf st) (pendingOf st) g (failedOf st)
theorem kJy {l:List Keyed} {i j:Nat} {x y:Keyed} (h:l.Pairwise le) (hi:l[i]? =some x) (hij:i<j) (hj:l[j]? =some y):le x y:=by
 obtain⟨a1,a2⟩:=lJq.mp hi
 obtain⟨b1,b2⟩:=lJq.mp hj
 have:=lY4.mp h i j a1 b1 hij
 rwa [a2,b2] at this
theorem jXo (H:Asks M A s κ mem le) {arr:Array Keyed} {i:Nat} {x y:Keyed} (hs:arr.toList.Pairwise le) (hm:∀x,x∈arr.toList->mem x) (hx:arr[i]? =some x) (hy:mem y) (h:le y x):∀z,z∈arr.toList.drop i->le y z:=by
 intro z hz
 rw[jUg hx] at hz
 rcases (lJk.mp hz) with rfl | hz
 ·exact h
 ·have hxl:x∈arr.toList:=by rw[Array.mem_toList_iff];exact Array.mem_of_getElem? hx
  have hzl:z∈arr.toList:=lVi hz
  have hd:(arr.toList.drop i).Pairwise le:=hs.sublist (lQ6 ..)
  rw[jUg hx] at hd
  exact H.tr _ _ _ hy (hm x hxl) (hm z hzl) h (List.rel_of_pairwise_cons hd hz)
theorem jJ9 {arr:Array Keyed} {i:Nat} {x:Keyed} (hx:arr[i]? =some x):x∈arr.toList:=by rw[Array.mem_toList_iff];exact Array.mem_of_getElem? hx
theorem jVf {arr:Array Keyed} {i:Nat} (h:i<arr.size):∃x,arr[i]? =some x:=⟨arr[i],lQb h⟩
theorem kUy {arr:Array Keyed} {i k:Nat} {x:Keyed} (h:x∈(arr.toList.drop i).take k):∃j,j<k/\arr[i+j]? =some x:=by
 obtain⟨j,hj⟩:=lKw h
 rw[lQz] at hj
 split at hj
 ·rename_i hl
  rw[lYa,lKa] at hj
  exact⟨j,hl,hj⟩
 ·cases hj
theorem jJy {α:Type} {m n:Nat} {p q:StateT SortSt Sem α} {Q:α->SortSt->Prop} {st:SortSt} (h1:m=n->wpS M A E s p Q st) (h2:¬ m=n->wpS M A E s q Q st):wpS M A E s (if (m == n)=true then p else q) Q st:=by
 by_cases c:m=n
 ·rw[lJc (by simpa using c)];exact h1 c
 ·rw[lJb (by simpa using c)];exact h2 c
theorem qXr {α:Type} {c:Prop} [Decidable c] {F:Nat->StateT SortSt Sem α} {x y:Nat} {p q:StateT SortSt Sem α} {Q:α->SortSt->Prop} {st:SortSt} (h2:q=F y) (h1:p=F x) (h:∀z,wpS M A E s (F z) Q st):wpS M A E s (if c then p else q) Q st:=by
 split
 ·rw[h1];exact h x
 ·rw[h2];exact h y
theorem qU7 {α γ δ:Type} {c:Prop} [Decidable c] {F:γ->δ->StateT SortSt Sem α} {p q:StateT SortSt Sem α} {Q:α->SortSt->Prop} {st:SortSt} (y1:γ) (y2:δ) (h2:q=F y1 y2) (R:γ->δ->Prop) (hn:¬ c->R y1 y2) (hp:c->(∀z1 z2,R z1 z2->wpS M A E s (F z1 z2) Q st)->wpS M A E s p Q st) (key:∀z1 z2,R z1 z2->wpS M A E s (F z1 z2) Q st):wpS M A E s (if c then p else q) Q st:=by
 by_cases h:c
 ·rw[lJc h];exact hp h key
 ·rw[lJb h,h2];exact key y1 y2 (hn h)
abbrev kd:Keyed:=(Value.none,Value.none)
theorem at_d {a:Array Keyed} {ja:Nat} (i:Nat) (hi:i<a.size-ja):a[ja+i]? =some (a.getD (ja+i) kd):=by simp[Array.getD,show ja+i<a.size by omega]
theorem srt_d (H:Asks M A s κ mem le) {a:Array Keyed} {ja:Nat} (sa:a.toList.Pairwise le) (ma:∀x,x∈a.toList->mem x) (i j:Nat) (hij:i<=j) (hj:j<a.size-ja):le (a.getD (ja+i) kd) (a.getD (ja+j) kd):=by
 have h1:=at_d (a:=a) (ja:=ja) i (by omega)
 have h2:=at_d (a:=a) (ja:=ja) j hj
 rcases lQe hij with q | rfl
 ·exact kJy sa (i:=ja+i) (j:=ja+j) (by rw[lKa];exact h1) (by omega) (by rw[lKa];exact h2)
 ·exact (H.tot _ _ (ma _ (jJ9 h1)) (ma _ (jJ9 h1))).elim id id
variable {a b:Array Keyed}
theorem galA (H:Asks M A s κ mem le) {ja jb k:Nat} {y:Keyed} (sa:a.toList.Pairwise le) (ma:∀x,x∈a.toList->mem x) (sb:b.toList.Pairwise le) (mb:∀x,x∈b.toList->mem x) (hy:b[jb]? =some y) (hk1:k<=a.size-ja) (hk2:∀i,i<k->bey le false y (a.getD (ja+i) kd)=true) (hk3:∀i,k<=i->i<a.size-ja->bey le false y (a.getD (ja+i) kd)=false):
  (∀x,x∈(a.toList.drop ja).take k->∀z,z∈b.toList.drop jb->le x z)/\(ja+k<a.size->∀z,z∈a.toList.drop (ja+k)->le y z):=by
 have my:=mb y (jJ9 hy)
 simp only[bey,lKn,lKj,lQg,lV9] at hk2 hk3
 refine⟨fun x hx z hz=> ?_,fun hlt=> ?_⟩
 ·obtain⟨j,hj,hxj⟩:=kUy hx
  have e:=at_d (a:=a) (ja:=ja) j (by omega)
  rw[hxj] at e
  have hle:=hk2 j hj
  rw[<-lJ0 e] at hle
  exact jXo H sb mb hy (ma x (jJ9 hxj)) hle z hz
 ·have e:=at_d (a:=a) (ja:=ja) k (by omega)
  have hm:=ma _ (jJ9 e)
  exact jXo H sa ma e my ((H.tot _ _ hm my).resolve_left (hk3 k (lJg _) (by omega)))
theorem galB (H:Asks M A s κ mem le) {ja jb k:Nat} {x:Keyed} (sa:a.toList.Pairwise le) (ma:∀x,x∈a.toList->mem x) (sb:b.toList.Pairwise le) (mb:∀x,x∈b.toList->mem x) (hx:a[ja]? =some x) (hk1:k<=b.size-jb) (hk2:∀i,i<k->bey le true x (b.getD (jb+i) kd)=true) (hk3:∀i,k<=i->i<b.size-jb->bey le true x (b.getD (jb+i) kd)=false):
  (∀y,y∈(b.toList.drop jb).take k->∀z,z∈a.toList.drop ja->le y z)/\(jb+k<b.size->∀z,z∈b.toList.drop (jb+k)->le x z):=by
 have mx:=ma x (jJ9 hx)
 simp only[bey,lKl,lYs,lV9,Bool.not_eq_false',lQg] at hk2 hk3
 refine⟨fun y hy z hz=> ?_,fun hlt=> ?_⟩
 ·obtain⟨j,hj,hyj⟩:=kUy hy
  have e:=at_d (a:=b) (ja:=jb) j (by omega)
  rw[hyj] at e
  have hle:=hk2 j hj
  rw[<-lJ0 e] at hle
  have my:=mb y (jJ9 hyj)
  exact jXo H sa ma hx my ((H.tot _ _ mx my).resolve_left hle) z hz
 ·have e:=at_d (a:=b) (ja:=jb) k (by omega)
  exact jXo H sb mb e mx (hk3 k (lJg _) (by omega))
theorem kXl {st:SortSt} {Q:Array Keyed->SortSt->Prop} (H:Asks M A s κ mem le) (hk:kindOf st=κ) (hA:1<=a.size) (hB:1<=b.size) (sa:a.toList.Pairwise le) (sb:b.toList.Pairwise le) (ma:∀x,x∈a.toList->mem x) (mb:∀x,x∈b.toList->mem x)
  (hf:∀x,b[0]? =some x->∀y,y∈a.toList->le x y) (hl:∀x,a[a.size-1]? =some x->∀y,y∈b.toList->le y x) (h:∀r g,Fin2 le a b r->Q r (jKf st g)):
  wpS M A E s (qQm a b) Q st:=by
 obtain⟨x0,hb0⟩:=jVf (arr:=b) (i:=0) (by omega)
 have hl':∀i,i+1=a.size->∀x,a[i]? =some x->∀y,y∈b.toList->le y x:=fun i hi x hx=>hl x (by rw[show a.size-1=i by omega];exact hx)
 have L0:Lw le a b #[x0] 0 1:=by
  refine⟨?_,by simp,?_⟩
  ·rw[lXq]
   have:b.toList=x0::b.toList.drop 1:=by have:=jUg hb0;rwa [lXq] at this
   conv=>rhs;rw[this]
   show (x0::(a.toList++List.drop 1 b.toList)).Perm _
   exact List.perm_middle.symm
  ·intro x hx y hy
   simp at hx;subst hx
   rcases (lJr.mp hy) with z | z
   ·exact hf x hb0 y (lVi z)
   ·have hd:=sb
    have e:b.toList=x::b.toList.drop 1:=by have:=jUg hb0;rwa [lXq] at this
    rw[e] at hd
    exact List.rel_of_pairwise_cons hd z
 have fin0:∀r,Fin2 le a b r->Q r st:=fun r hr=>h r (gallopOf st) hr
 (refine lJe (wpS_lift (lK6 ⟨rfl,?_⟩)))
 refine lJe (jJ2 hb0 ?_)
 dsimp only
 by_cases c1:1=b.size
 ·rw[lJc (by simpa using c1)]
  exact lJh (fin0 _ (L0.done sa sb (.inl c1)))
 rw[lJb (by simpa using c1)]
 by_cases c2:0+1=a.size
 ·rw[lJc (by simpa using c2)]
  exact lJh (fin0 _ (L0.lastA sa sb c2 (hl' 0 c2)))
 rw[lJb (by simpa using c2)]
 refine lJe (lQh ?_)
 refine lJe (lKp (lKq (I:=fun i (c:Option (Array Keyed)×Array Keyed×Nat×Nat×Nat) st'=>(∃g,jKf st g=st')/\c.1=none/\Lw le a b c.2.1 c.2.2.1 c.2.2.2.1/\c.2.2.1+1<a.size/\c.2.2.2.1<b.size/\i+1<=c.2.1.size)
  (Q:=fun (c:Option (Array Keyed)×Array Keyed×Nat×Nat×Nat) st'=>(∃g,jKf st g=st')/\∃r,c.1=some r/\Fin2 le a b r) ?_ ?_ ⟨⟨_,rfl⟩,rfl,L0,by dsimp only;omega,by dsimp only;omega,by simp⟩) ?_)
 ·rintro i ⟨r,out,ia,ib,mg⟩ st' _ hi ⟨⟨g,rfl⟩,rfl,L,ha,hb,hsz⟩
  dsimp only at L ha hb hsz ⊢
  refine lJe (lKp (lKq (I:=fun i1 (c:Option (Array Keyed)×Array Keyed×Nat×Nat×Nat×Nat) st'=>jKf st g=st'/\c.1=none/\Lw le a b c.2.1 c.2.2.1 c.2.2.2.1/\c.2.2.1+1<a.size/\c.2.2.2.1<b.size/\out.size+i1<=c.2.1.size)
   (Q:=fun (c:Option (Array Keyed)×Array Keyed×Nat×Nat×Nat×Nat) st'=>jKf st g=st'/\((∃r,c.1=some r/\Fin2 le a b r)\/(c.1=none/\Lw le a b c.2.1 c.2.2.1 c.2.2.2.1/\c.2.2.1+1<a.size/\c.2.2.2.1<b.size/\out.size+1<=c.2.1.size))) ?_ ?_ ⟨rfl,rfl,L,ha,hb,lJg _⟩) ?_)
  ·rintro i1 ⟨r,out1,ia1,ib1,ac,bc⟩ st' _ hi1 ⟨rfl,rfl,L1,ha1,hb1,hsz1⟩
   dsimp only at L1 ha1 hb1 hsz1 ⊢
   obtain⟨y,hy⟩:=jVf hb1
   obtain⟨x,hx⟩:=jVf (arr:=a) (i:=ia1) (by omega)
   have my:=mb y (jJ9 hy)
   have mx:=ma x (jJ9 hx)
   refine lJe (jJ2 hy (lJe (jJ2 hx (lJe (kZl (st:=jKf st g) H my mx hk ?_)))))
   by_cases w:le x y
   ·rw[lJ5 w]
    dsimp only
    rw[lJb (by decide)]
    refine lJe (jJ2 hx ?_)
    have L2:=L1.pushA sa hx (jXo H sb mb hy mx w)
    by_cases c3:ia1+1+1=a.size
    ·rw[lJc (by simpa using c3)]
     exact lJh ⟨rfl,.inl ⟨_,rfl,L2.lastA sa sb c3 (hl' _ c3)⟩⟩
    ·rw[lJb (by simpa using c3)]
     by_cases c4:ac+1>=mg
     ·rw[lJc c4]
      exact wpS_pure ⟨rfl,.inr ⟨rfl,L2,by dsimp only;omega,hb1,by simp;omega⟩⟩
     ·rw[lJb c4]
      exact wpS_pure ⟨rfl,rfl,L2,by dsimp only;omega,hb1,by simp;omega⟩
   ·rw[lJw w]
    dsimp only
    (rw[lJc (show (!false)=true from rfl)])
    refine lJe (jJ2 hy ?_)
    have w':le y x:=(H.tot x y mx my).resolve_left w
    have L2:=L1.pushB sb hy (jXo H sa ma hx my w')
    by_cases c3:ib1+1=b.size
    ·rw[lJc (by simpa using c3)]
     exact lJh ⟨rfl,.inl ⟨_,rfl,L2.done sa sb (.inl c3)⟩⟩
    ·rw[lJb (by simpa using c3)]
     by_cases c4:bc+1>=mg
     ·rw[lJc c4]
      exact wpS_pure ⟨rfl,.inr ⟨rfl,L2,ha1,by dsimp only;omega,by simp;omega⟩⟩
     ·rw[lJb c4]
      exact wpS_pure ⟨rfl,rfl,L2,ha1,by dsimp only;omega,by simp;omega⟩
  ·rintro⟨r,out1,ia1,ib1,ac,bc⟩ st' ⟨rfl,rfl,L1,ha1,hb1,hsz1⟩
   dsimp only at L1 ha1 hb1 hsz1 ⊢
   exact⟨rfl,.inr ⟨rfl,L1,ha1,hb1,by omega⟩⟩
  ·rintro⟨r,out1,ia1,ib1,ac,bc⟩ st' ⟨rfl,⟨r',rfl,fr⟩ | ⟨rfl,L1,ha1,hb1,hsz1⟩⟩
   ·dsimp only
    exact lJh ⟨⟨g,rfl⟩,r',rfl,fr⟩
   dsimp only at L1 ha1 hb1 hsz1 ⊢
   (refine lJe (wpS_lift (lK6 ⟨rfl,?_⟩)))
   refine lJe (lKp (lKq (I:=fun _ (c:Option (Array Keyed)×Array Keyed×Nat×Nat×Nat×Nat×Nat) st'=>(∃g,jKf st g=st')/\c.1=none/\Lw le a b c.2.1 c.2.2.1 c.2.2.2.1/\c.2.2.1+1<a.size/\c.2.2.2.1<b.size/\out.size+1<=c.2.1.size)
    (Q:=fun (c:Option (Array Keyed)×Array Keyed×Nat×Nat×Nat×Nat×Nat) st'=>(∃g,jKf st g=st')/\((∃r,c.1=some r/\Fin2 le a b r)\/(c.1=none/\Lw le a b c.2.1 c.2.2.1 c.2.2.2.1/\c.2.2.1+1<a.size/\c.2.2.2.1<b.size/\out.size+1<=c.2.1.size))) ?_ ?_ ⟨⟨g,rfl⟩,rfl,L1,ha1,hb1,hsz1⟩) ?_)
   ·clear L1 ha1 hb1 hsz1
    rintro i1 ⟨r,o,ja,jb,mg1,ac1,bc1⟩ st' _ hi1 ⟨⟨g1,rfl⟩,rfl,L1,ha1,hb1,hsz1⟩
    dsimp only at L1 ha1 hb1 hsz1 ⊢
    obtain⟨y,hy⟩:=jVf hb1
    have my:=mb y (jJ9 hy)
    apply qXr (x:=mg1-1) (y:=mg1)
    case h2=>rfl
    case h1=>rfl
    intro mg2
    refine lJe (lKm ?_)
    refine lJe (jJ2 hy ?_)
    refine lJe (jQ6 (st:=jKf st _) (f:=fun i=>a.getD (ja+i) kd) H hk my at_d (fun i hi=>ma _ (jJ9 (at_d i hi))) (srt_d H sa ma) (by omega) fun k hk1 hk2 hk3=> ?_)
    obtain⟨takeK,beyK⟩:=galA H sa ma sb mb hy hk1 hk2 hk3
    clear hk2 hk3
    dsimp only
    apply qU7 o ja (R:=fun o2 ja2=>Lw le a b o2 ja2 jb/\ja2+1<a.size/\out.size+1<=o2.size/\∀z,z∈a.toList.drop ja2->le y z)
    case h2=>rfl
    ·intro ck
     obtain rfl:k=0:=by omega
     have bk:=beyK (by omega)
     rw[Nat.add_zero] at bk
     exact⟨L1,ha1,hsz1,bk⟩
    ·intro ck key
     have L2:Lw le a b (o++a.extract ja (ja+k)) (ja+k) jb:=L1.takeA sa (by rw[lQj,qVa (by omega)]) takeK
     refine jJy (fun d1=> ?_) fun d1=> ?_
     ·exact lJh ⟨⟨_,rfl⟩,.inl ⟨_,rfl,L2.lastA sa sb d1 (hl' _ d1)⟩⟩
     refine jJy (fun d2=> ?_) fun d2=> ?_
     ·exact lJh ⟨⟨_,rfl⟩,.inl ⟨_,rfl,L2.done sa sb (.inr d2)⟩⟩
     exact key _ _ ⟨L2,by omega,by rw[Array.size_append];omega,beyK (by omega)⟩
    intro o2 ja2 hR
    obtain⟨L2,hja,hos,bk⟩:=hR
    clear L1 takeK beyK hk1 ha1 hsz1
    refine lJe (jJ2 hy ?_)
    have L3:=L2.pushB sb hy bk
    refine jJy (fun d3=> ?_) fun d3=> ?_
    ·exact lJh ⟨⟨_,rfl⟩,.inl ⟨_,rfl,L3.done sa sb (.inl d3)⟩⟩
    obtain⟨x,hx⟩:=jVf (Nat.lt_of_succ_lt hja)
    have mx:=ma x (jJ9 hx)
    have hps:out.size+1<=(o2.push y).size:=by rw[Array.size_push];omega
    have hjb:jb+1<b.size:=by omega
    clear L2 bk hos d3 hb1
    refine lJe (jJ2 hx ?_)
    generalize o2.push y=o3 at *
    generalize jb+1=jb1 at *
    refine lJe (jQ6 (st:=jKf st _) (f:=fun i=>b.getD (jb1+i) kd) H hk mx at_d (fun i hi=>mb _ (jJ9 (at_d i hi))) (srt_d H sb mb) (by omega) fun k2 e1 e2 e3=> ?_)
    obtain⟨takeK,beyK⟩:=galB H sa ma sb mb hx e1 e2 e3
    clear e2 e3
    dsimp only
    apply qU7 o3 jb1 (R:=fun o4 jb2=>Lw le a b o4 ja2 jb2/\jb2<b.size/\out.size+1<=o4.size/\∀z,z∈b.toList.drop jb2->le x z)
    case h2=>rfl
    ·intro ck
     obtain rfl:k2=0:=by omega
     have bk:=beyK (by omega)
     rw[Nat.add_zero] at bk
     exact⟨L3,hjb,hps,bk⟩
    ·intro ck key
     have L4:=L3.takeB sb (k:=k2) (lQj.trans (lKo _ (qVa (ia:=jb1) (a:=b) (by omega)))) takeK
     refine jJy (fun d4=> ?_) fun d4=> ?_
     ·exact lJh ⟨⟨_,rfl⟩,.inl ⟨_,rfl,L4.done sa sb (.inl d4)⟩⟩
     exact key _ _ ⟨L4,by omega,by rw[Array.size_append];omega,beyK (by omega)⟩
    intro o4 jb2 hR
    obtain⟨L4,hjb2,hos,bk⟩:=hR
    clear L3 takeK beyK e1 hjb hps
    have L5:=L4.pushA sa hx bk
    refine lJe (jJ2 hx ?_)
    refine jJy (fun d5=> ?_) fun d5=> ?_
    ·exact lJh ⟨⟨_,rfl⟩,.inl ⟨_,rfl,L5.lastA sa sb d5 (hl' _ d5)⟩⟩
    have g5:ja2+1+1<a.size:=by omega
    have g6:out.size+1<=(o4.push x).size:=by rw[Array.size_push];omega
    split
    ·exact lJh ⟨⟨_,rfl⟩,.inr ⟨rfl,L5,g5,hjb2,g6⟩⟩
    ·exact lJh ⟨⟨_,rfl⟩,rfl,L5,g5,hjb2,g6⟩
   ·rintro⟨r,o,ja,jb,mg1,ac1,bc1⟩ st' ⟨⟨g1,rfl⟩,rfl,L1,ha1,hb1,hsz1⟩
    dsimp only at L1 ha1 hb1 hsz1 ⊢
    exact⟨⟨g1,rfl⟩,.inr ⟨rfl,L1,ha1,hb1,hsz1⟩⟩
   ·rintro⟨r,o,ja,jb,mg1,ac1,bc1⟩ st' ⟨⟨g1,rfl⟩,⟨r',rfl,fr⟩ | ⟨rfl,L1,ha1,hb1,hsz1⟩⟩
    ·dsimp only
     exact lJh ⟨⟨g1,rfl⟩,r',rfl,fr⟩
    ·dsimp only at L1 ha1 hb1 hsz1 ⊢
     refine lJe (lKm ?_)
     exact wpS_pure ⟨⟨_,rfl⟩,rfl,L1,ha1,hb1,by dsimp only;omega⟩
 ·rintro⟨r,out,ia,ib,mg⟩ st' ⟨⟨g,rfl⟩,rfl,L,ha,hb,hsz⟩
  have:=L.size
  dsimp only at this hsz ha hb
  exfalso
  rw[Nat.zero_max] at hsz
  omega
 ·rintro⟨r,out,ia,ib,mg⟩ st' ⟨⟨g,rfl⟩,r',rfl,fr⟩
  dsimp only
  exact lJh (h _ _ fr)
end
section
variable {le:Keyed->Keyed->Prop} {a b out:Array Keyed} {na nb k:Nat}
structure Hw (le:Keyed->Keyed->Prop) (a b out:Array Keyed) (na nb:Nat):Prop where
 perm:((a.toList.take na++b.toList.take nb)++out.toList.reverse).Perm (a.toList++b.toList)
 srt:out.toList.reverse.Pairwise le
 up:∀x,x∈a.toList.take na++b.toList.take nb->∀y,y∈out.toList->le x y
theorem Hw.size (h:Hw le a b out na nb) (h1:na<=a.size) (h2:nb<=b.size):na+nb+out.size=a.size+b.size:=by
 have:=h.perm.length_eq
 simp at this
 omega
theorem jZ0 {l:List Keyed} (h:k<=na):l.take na=l.take k++(l.take na).drop k:=by
 conv=>lhs;rw[<-lKx k (l.take na)]
 rw[List.take_take,Nat.min_eq_left h]
theorem Hw.takeA (h:Hw le a b out na nb) (sa:a.toList.Pairwise le) (hk:k<=na) {o:Array Keyed} (ho:o.toList.reverse=(a.toList.take na).drop k++out.toList.reverse) (hx:∀x,x∈b.toList.take nb->∀y,y∈(a.toList.take na).drop k->le x y):Hw le a b o k nb:=by
 have sd:(a.toList.take na).Pairwise le:=sa.sublist (lQu ..)
 have up:=h.up
 have perm:=h.perm
 have e:=jZ0 (l:=a.toList) hk
 generalize hd:(a.toList.take na).drop k=d at *
 rw[e] at sd up perm
 obtain⟨s1,s2,s3⟩:=lKh.mp sd
 have mo:∀y,y∈o.toList->y∈d\/y∈out.toList:=fun y hy=>by
  have:y∈o.toList.reverse:=lVo.mpr hy
  rw[ho] at this
  exact (lJr.mp this).imp id lVo.mp
 refine⟨?_,?_,?_⟩
 ·rw[ho]
  refine List.Perm.trans ?_ perm
  rw[<-lJn,lJn,lJn,lJn,lJn]
  (refine lV3 _ ?_)
  (rw[<-lJn,<-lJn])
  (exact lX9 _ lYt)
 ·rw[ho]
  exact lKh.mpr ⟨s2,h.srt,fun x hx' y hy=>up x (lKe _ (lJy _ hx')) y (lVo.mp hy)⟩
 ·intro x hx' y hy
  rcases mo y hy with z | z
  ·rcases (lJr.mp hx') with w | w
   ·exact s3 x w y z
   ·exact hx x w y z
  ·refine up x ?_ y z
   rcases (lJr.mp hx') with w | w
   ·exact lKe _ (lKe _ w)
   ·exact lJy _ w
theorem Hw.takeB (h:Hw le a b out na nb) (sb:b.toList.Pairwise le) (hk:k<=nb) {o:Array Keyed} (ho:o.toList.reverse=(b.toList.take nb).drop k++out.toList.reverse) (hx:∀x,x∈a.toList.take na->∀y,y∈(b.toList.take nb).drop k->le x y):Hw le a b o na k:=by
 have sd:(b.toList.take nb).Pairwise le:=sb.sublist (lQu ..)
 have up:=h.up
 have perm:=h.perm
 have e:=jZ0 (l:=b.toList) hk
 generalize hd:(b.toList.take nb).drop k=d at *
 rw[e] at sd up perm
 obtain⟨s1,s2,s3⟩:=lKh.mp sd
 have mo:∀y,y∈o.toList->y∈d\/y∈out.toList:=fun y hy=>by
  have:y∈o.toList.reverse:=lVo.mpr hy
  rw[ho] at this
  exact (lJr.mp this).imp id lVo.mp
 refine⟨?_,?_,?_⟩
 ·rw[ho]
  refine List.Perm.trans ?_ perm
  rw[<-lJn,lJn,lJn,lJn,lJn]
 ·rw[ho]
  exact lKh.mpr ⟨s2,h.srt,fun x hx' y hy=>up x (lJy _ (lJy _ hx')) y (lVo.mp hy)⟩
 ·intro x hx' y hy
  rcases mo y hy with z | z
  ·rcases (lJr.mp hx') with w | w
   ·exact hx x w y z
   ·exact s3 x w y z
  ·refine up x ?_ y z
   rcases (lJr.mp hx') with w | w
   ·exact lKe _ w
   ·exact lJy _ (lKe _ w)
theorem jYa {arr:Array Keyed} {i:Nat} {x:Keyed} (h:arr[i]? =some x):(arr.toList.take (i+1)).drop i=[x]:=by
 have hl:arr.toList[i]? =some x:=by rw[lKa];exact h
 obtain⟨h1,h2⟩:=lJq.mp hl
 have hs:i<arr.size:=by simpa using h1
 rw[lK3,hl,lY8 (by simp;omega),lVn (by simp;omega)]
 rfl
theorem Hw.pushA (h:Hw le a b out (na+1) nb) (sa:a.toList.Pairwise le) {x:Keyed} (hi:a[na]? =some x) (hx:∀y,y∈b.toList.take nb->le y x):Hw le a b (out.push x) na nb:=by
 refine h.takeA sa (k:=na) (by omega) (by rw[jYa hi];simp) fun z hz y hy=> ?_
 rw[jYa hi,lJs] at hy
 rw[hy];exact hx z hz
theorem Hw.pushB (h:Hw le a b out na (nb+1)) (sb:b.toList.Pairwise le) {x:Keyed} (hi:b[nb]? =some x) (hx:∀y,y∈a.toList.take na->le y x):Hw le a b (out.push x) na nb:=by
 refine h.takeB sb (k:=nb) (by omega) (by rw[jYa hi];simp) fun z hz y hy=> ?_
 rw[jYa hi,lJs] at hy
 rw[hy];exact hx z hz
theorem jYd:(a.extract 0 na).toList=a.toList.take na:=by rw[jU4];simp
theorem Hw.done (h:Hw le a b out na nb) (sa:a.toList.Pairwise le) (sb:b.toList.Pairwise le) (hi:na=0\/nb=0):Fin2 le a b (a.extract 0 na++b.extract 0 nb++out.reverse):=by
 have e:(a.extract 0 na++b.extract 0 nb++out.reverse).toList=(a.toList.take na++b.toList.take nb)++out.toList.reverse:=by rw[lQj,lQj,jYd,jYd,Array.toList_reverse]
 unfold Fin2
 rw[e]
 refine⟨h.perm,lKh.mpr ⟨?_,h.srt,fun x hx y hy=>h.up x hx y (lVo.mp hy)⟩⟩
 refine lKh.mpr ⟨sa.sublist (lQu ..),sb.sublist (lQu ..),fun x hx y hy=> ?_⟩
 rcases hi with z | z
 ·rw[z] at hx;cases hx
 ·rw[z] at hy;cases hy
theorem Hw.firstB (h:Hw le a b out na nb) (sa:a.toList.Pairwise le) (sb:b.toList.Pairwise le) (hi:nb=1) (hl:∀x,b[0]? =some x->∀y,y∈a.toList->le x y):Fin2 le a b (b.extract 0 nb++a.extract 0 na++out.reverse):=by
 have e:(b.extract 0 nb++a.extract 0 na++out.reverse).toList=(b.toList.take nb++a.toList.take na)++out.toList.reverse:=by rw[lQj,lQj,jYd,jYd,Array.toList_reverse]
 unfold Fin2
 rw[e]
 refine⟨(lX9 _ lYt).trans h.perm,lKh.mpr ⟨?_,h.srt,fun x hx y hy=>h.up x ?_ y (lVo.mp hy)⟩⟩
 ·refine lKh.mpr ⟨sb.sublist (lQu ..),sa.sublist (lQu ..),fun x hx y hy=> ?_⟩
  rw[hi] at hx
  (obtain⟨j,hj⟩:=lKw hx)
  rw[lQz] at hj
  split at hj
  ·rename_i hlt
   obtain rfl:j=0:=by omega
   rw[lKa] at hj
   exact hl x hj y (lQk hy)
  ·cases hj
 ·rcases (lJr.mp hx) with w | w
  ·exact lJy _ w
  ·exact lKe _ w
end
section
variable {M:Model} {A:Around} {E:Value->Shared->Prop} {s:Shared} {κ:SortKind} {mem:Keyed->Prop} {le:Keyed->Keyed->Prop} [∀x y,Decidable (le x y)] {a b:Array Keyed}
theorem kJm (H:Asks M A s κ mem le) {arr:Array Keyed} {i:Nat} {x y:Keyed} (hs:arr.toList.Pairwise le) (hm:∀x,x∈arr.toList->mem x) (hx:arr[i]? =some x) (hy:mem y) (h:le x y):∀z,z∈arr.toList.take (i+1)->le z y:=by
 intro z hz
 have hzl:z∈arr.toList:=lQk hz
 obtain⟨j,hj⟩:=lKw hz
 rw[lQz] at hj
 split at hj
 ·rename_i hlt
  rcases lQe (lVj hlt) with q | rfl
  ·exact H.tr _ _ _ (hm z hzl) (hm x (jJ9 hx)) hy (kJy hs hj q (by rw[lKa];exact hx)) h
  ·rw[lKa,hx] at hj;cases hj;exact h
 ·cases hj
theorem qVb {arr:Array Keyed} {n k:Nat} {x:Keyed} (h:x∈(arr.toList.take n).drop k):∃j,k<=j/\j<n/\arr[j]? =some x:=by
 obtain⟨j,hj⟩:=lKw h
 rw[lYa,lQz] at hj
 split at hj
 ·rename_i hl
  rw[lKa] at hj
  exact⟨k+j,by omega,hl,hj⟩
 ·cases hj
theorem qUp {arr:Array Keyed} {n:Nat} {x:Keyed} (h:x∈arr.toList.take n):∃j,j<n/\arr[j]? =some x:=by
 obtain⟨j,hj⟩:=lKw h
 rw[lQz] at hj
 split at hj
 ·rename_i hl
  rw[lKa] at hj
  exact⟨j,hl,hj⟩
 ·cases hj
theorem at_e {a:Array Keyed} {n:Nat} (hn:n<=a.size) (i:Nat) (hi:i<n):a[0+i]? =some (a.getD i kd):=by rw[lVh];simp[Array.getD,show i<a.size by omega]
theorem srt_e (H:Asks M A s κ mem le) {a:Array Keyed} {n:Nat} (hn:n<=a.size) (sa:a.toList.Pairwise le) (ma:∀x,x∈a.toList->mem x) (i j:Nat) (hij:i<=j) (hj:j<n):le (a.getD i kd) (a.getD j kd):=by
 have h1:=at_e hn i (by omega)
 have h2:=at_e hn j hj
 rw[lVh] at h1 h2
 rcases lQe hij with q | rfl
 ·exact kJy sa (i:=i) (j:=j) (by rw[lKa];exact h1) q (by rw[lKa];exact h2)
 ·exact (H.tot _ _ (ma _ (jJ9 h1)) (ma _ (jJ9 h1))).elim id id
theorem galAh (H:Asks M A s κ mem le) {na nb k:Nat} {y:Keyed} (ma:∀x,x∈a.toList->mem x) (sb:b.toList.Pairwise le) (mb:∀x,x∈b.toList->mem x) (hna:na<=a.size) (hy:b[nb]? =some y) (hk1:k<=na) (hk2:∀i,i<k->bey le false y (a.getD i kd)=true) (hk3:∀i,k<=i->i<na->bey le false y (a.getD i kd)=false):
  (∀z,z∈b.toList.take (nb+1)->∀x,x∈(a.toList.take na).drop k->le z x)/\(∀z,z∈a.toList.take k->le z y):=by
 have my:=mb y (jJ9 hy)
 simp only[bey,lKn,lKj,lQg,lV9] at hk2 hk3
 refine⟨fun z hz x hx=> ?_,fun z hz=> ?_⟩
 ·obtain⟨j,h1,h2,h3⟩:=qVb hx
  have e:=at_e hna j h2
  rw[lVh,h3] at e
  have hle:=hk3 j h1 h2
  rw[<-lJ0 e] at hle
  have mx:=ma x (jJ9 h3)
  exact kJm H sb mb hy mx ((H.tot _ _ mx my).resolve_left hle) z hz
 ·obtain⟨j,h1,h2⟩:=qUp hz
  have e:=at_e hna j (by omega)
  rw[lVh,h2] at e
  have hle:=hk2 j h1
  rwa [<-lJ0 e] at hle
theorem galBh (H:Asks M A s κ mem le) {na nb k:Nat} {x:Keyed} (sa:a.toList.Pairwise le) (ma:∀x,x∈a.toList->mem x) (mb:∀x,x∈b.toList->mem x) (hnb:nb<=b.size) (hx:a[na]? =some x) (hk1:k<=nb) (hk2:∀i,i<k->bey le true x (b.getD i kd)=true) (hk3:∀i,k<=i->i<nb->bey le true x (b.getD i kd)=false):
  (∀z,z∈a.toList.take (na+1)->∀y,y∈(b.toList.take nb).drop k->le z y)/\(∀z,z∈b.toList.take k->le z x):=by
 have mx:=ma x (jJ9 hx)
 simp only[bey,lKl,lYs,lV9,Bool.not_eq_false',lQg] at hk2 hk3
 refine⟨fun z hz y hy=> ?_,fun z hz=> ?_⟩
 ·obtain⟨j,h1,h2,h3⟩:=qVb hy
  have e:=at_e hnb j h2
  rw[lVh,h3] at e
  have hle:=hk3 j h1 h2
  rw[<-lJ0 e] at hle
  exact kJm H sa ma hx (mb y (jJ9 h3)) hle z hz
 ·obtain⟨j,h1,h2⟩:=qUp hz
  have e:=at_e hnb j (by omega)
  rw[lVh,h2] at e
  have hle:=hk2 j h1
  rw[<-lJ0 e] at hle
  exact (H.tot _ _ mx (mb z (jJ9 h2))).resolve_left hle
theorem kYn {arr o:Array Keyed} {n k:Nat}:(o++(arr.extract k n).reverse).toList.reverse=(arr.toList.take n).drop k++o.toList.reverse:=by
 rw[lQj,List.reverse_append,Array.toList_reverse,List.reverse_reverse,jU4,List.drop_take]
theorem kXm {st:SortSt} {Q:Array Keyed->SortSt->Prop} (H:Asks M A s κ mem le) (hk:kindOf st=κ) (hA:1<=a.size) (hB:1<=b.size) (sa:a.toList.Pairwise le) (sb:b.toList.Pairwise le) (ma:∀x,x∈a.toList->mem x) (mb:∀x,x∈b.toList->mem x)
  (hf:∀x,b[0]? =some x->∀y,y∈a.toList->le x y) (hl:∀x,a[a.size-1]? =some x->∀y,y∈b.toList->le y x) (h:∀r g,Fin2 le a b r->Q r (jKf st g)):
  wpS M A E s (qQn a b) Q st:=by
 obtain⟨x0,hb0⟩:=jVf (arr:=a) (i:=a.size-1) (by omega)
 have La:Hw le a b #[] (a.size-1+1) b.size:=by
  refine⟨?_,by simp,fun x _ y hy=> ?_⟩
  ·rw[lQd (by simp;omega),lQd (by simp)];simp
  ·simp at hy
 have L0:Hw le a b #[x0] (a.size-1) b.size:=La.pushA sa hb0 fun y hy=>hl x0 hb0 y (lQk hy)
 have fin0:∀r,Fin2 le a b r->Q r st:=fun r hr=>h r (gallopOf st) hr
 (refine lJe (wpS_lift (lK6 ⟨rfl,?_⟩)))
 refine lJe (jJ2 hb0 ?_)
 dsimp only
 refine jJy (fun c1=> ?_) fun c1=> ?_
 ·exact lJh (fin0 _ (L0.done sa sb (.inl c1)))
 refine jJy (fun c2=> ?_) fun c2=> ?_
 ·exact lJh (fin0 _ (L0.firstB sa sb c2 hf))
 refine lJe (lQh ?_)
 refine lJe (lKp (lKq (I:=fun i (c:Option (Array Keyed)×Nat×Nat×Array Keyed×Nat) st'=>(∃g,jKf st g=st')/\c.1=none/\Hw le a b c.2.2.2.1 c.2.1 c.2.2.1/\1<=c.2.1/\c.2.1<=a.size/\2<=c.2.2.1/\c.2.2.1<=b.size/\i+1<=c.2.2.2.1.size)
  (Q:=fun (c:Option (Array Keyed)×Nat×Nat×Array Keyed×Nat) st'=>(∃g,jKf st g=st')/\∃r,c.1=some r/\Fin2 le a b r) ?_ ?_ ⟨⟨_,rfl⟩,rfl,L0,by dsimp only;omega,by dsimp only;omega,by dsimp only;omega,by dsimp only;omega,by simp⟩) ?_)
 ·rintro i ⟨r,na,nb,out,mg⟩ st' _ hi ⟨⟨g,rfl⟩,rfl,L,ha,ha',hb,hb',hsz⟩
  dsimp only at L ha ha' hb hb' hsz ⊢
  refine lJe (lKp (lKq (I:=fun i1 (c:Option (Array Keyed)×Nat×Nat×Array Keyed×Nat×Nat) st'=>jKf st g=st'/\c.1=none/\Hw le a b c.2.2.2.1 c.2.1 c.2.2.1/\1<=c.2.1/\c.2.1<=a.size/\2<=c.2.2.1/\c.2.2.1<=b.size/\out.size+i1<=c.2.2.2.1.size)
   (Q:=fun (c:Option (Array Keyed)×Nat×Nat×Array Keyed×Nat×Nat) st'=>jKf st g=st'/\((∃r,c.1=some r/\Fin2 le a b r)\/(c.1=none/\Hw le a b c.2.2.2.1 c.2.1 c.2.2.1/\1<=c.2.1/\c.2.1<=a.size/\2<=c.2.2.1/\c.2.2.1<=b.size/\out.size+1<=c.2.2.2.1.size))) ?_ ?_ ⟨rfl,rfl,L,ha,ha',hb,hb',lJg _⟩) ?_)
  ·rintro i1 ⟨r,n1,m1,out1,ac,bc⟩ st' _ hi1 ⟨rfl,rfl,L1,p1,p2,p3,p4,hsz1⟩
   dsimp only at L1 p1 p2 p3 p4 hsz1 ⊢
   obtain⟨n1,rfl⟩:∃k,n1=k+1:=⟨n1-1,by omega⟩
   obtain⟨m1,rfl⟩:∃k,m1=k+1:=⟨m1-1,by omega⟩
   simp only[lYu]
   obtain⟨y,hy⟩:=jVf (arr:=b) (i:=m1) (by omega)
   obtain⟨x,hx⟩:=jVf (arr:=a) (i:=n1) (by omega)
   have my:=mb y (jJ9 hy)
   have mx:=ma x (jJ9 hx)
   refine lJe (jJ2 hy (lJe (jJ2 hx (lJe (kZl (st:=jKf st g) H my mx hk ?_)))))
   by_cases w:le x y
   ·rw[lJ5 w]
    dsimp only
    rw[lJb (by decide)]
    refine lJe (jJ2 hy ?_)
    have L2:=L1.pushB sb hy (kJm H sa ma hx my w)
    refine jJy (fun c3=> ?_) fun c3=> ?_
    ·exact lJh ⟨rfl,.inl ⟨_,rfl,L2.firstB sa sb c3 hf⟩⟩
    ·split
     ·exact wpS_pure ⟨rfl,.inr ⟨rfl,L2,p1,p2,by dsimp only;omega,by dsimp only;omega,by simp;omega⟩⟩
     ·exact wpS_pure ⟨rfl,rfl,L2,p1,p2,by dsimp only;omega,by dsimp only;omega,by simp;omega⟩
   ·rw[lJw w]
    dsimp only
    (rw[lJc (show (!false)=true from rfl)])
    refine lJe (jJ2 hx ?_)
    have L2:=L1.pushA sa hx (kJm H sb mb hy mx ((H.tot x y mx my).resolve_left w))
    refine jJy (fun c3=> ?_) fun c3=> ?_
    ·exact lJh ⟨rfl,.inl ⟨_,rfl,L2.done sa sb (.inl c3)⟩⟩
    ·split
     ·exact wpS_pure ⟨rfl,.inr ⟨rfl,L2,by dsimp only;omega,by dsimp only;omega,p3,p4,by simp;omega⟩⟩
     ·exact wpS_pure ⟨rfl,rfl,L2,by dsimp only;omega,by dsimp only;omega,p3,p4,by simp;omega⟩
  ·rintro⟨r,n1,m1,out1,ac,bc⟩ st' ⟨rfl,rfl,L1,p1,p2,p3,p4,hsz1⟩
   dsimp only at L1 p1 p2 p3 p4 hsz1 ⊢
   exact⟨rfl,.inr ⟨rfl,L1,p1,p2,p3,p4,by omega⟩⟩
  ·rintro⟨r,n1,m1,out1,ac,bc⟩ st' ⟨rfl,⟨r',rfl,fr⟩ | ⟨rfl,L1,p1,p2,p3,p4,hsz1⟩⟩
   ·dsimp only
    exact lJh ⟨⟨g,rfl⟩,r',rfl,fr⟩
   dsimp only at L1 p1 p2 p3 p4 hsz1 ⊢
   (refine lJe (wpS_lift (lK6 ⟨rfl,?_⟩)))
   refine lJe (lKp (lKq (I:=fun _ (c:Option (Array Keyed)×Nat×Nat×Array Keyed×Nat×Nat×Nat) st'=>(∃g,jKf st g=st')/\c.1=none/\Hw le a b c.2.2.2.1 c.2.1 c.2.2.1/\1<=c.2.1/\c.2.1<=a.size/\2<=c.2.2.1/\c.2.2.1<=b.size/\out.size+1<=c.2.2.2.1.size)
    (Q:=fun (c:Option (Array Keyed)×Nat×Nat×Array Keyed×Nat×Nat×Nat) st'=>(∃g,jKf st g=st')/\((∃r,c.1=some r/\Fin2 le a b r)\/(c.1=none/\Hw le a b c.2.2.2.1 c.2.1 c.2.2.1/\1<=c.2.1/\c.2.1<=a.size/\2<=c.2.2.1/\c.2.2.1<=b.size/\out.size+1<=c.2.2.2.1.size))) ?_ ?_ ⟨⟨g,rfl⟩,rfl,L1,p1,p2,p3,p4,hsz1⟩) ?_)
   ·clear L1 p1 p2 p3 p4 hsz1
    rintro i1 ⟨r,ja,jb,o,mg1,ac1,bc1⟩ st' _ hi1 ⟨⟨g1,rfl⟩,rfl,L1,p1,p2,p3,p4,hsz1⟩
    dsimp only at L1 p1 p2 p3 p4 hsz1 ⊢
    obtain⟨jb,rfl⟩:∃k,jb=k+1:=⟨jb-1,by omega⟩
    simp only[lYu]
    obtain⟨y,hy⟩:=jVf (arr:=b) (i:=jb) (by omega)
    have my:=mb y (jJ9 hy)
    by_cases cg:mg1>1
    all_goals first | rw[lJc cg] | rw[lJb cg]
    all_goals refine lJe (lKm ?_)
    all_goals refine lJe (jJ2 hy ?_)
    all_goals refine lJe (jQ6 (st:=jKf st _) (f:=fun i=>a.getD i kd) H hk my (at_e p2) (fun i hi=>ma _ (jJ9 (at_e p2 i hi))) (srt_e H p2 sa ma) (by omega) fun k hk1 hk2 hk3=> ?_)
    all_goals obtain⟨takeK,beyK⟩:=galAh H ma sb mb p2 hy hk1 hk2 hk3
    all_goals dsimp only
    all_goals by_cases ck:ja-k>0
    all_goals first | rw[lJc ck] | rw[lJb ck]
    all_goals first
     | (have L2:Hw le a b (o++(a.extract k ja).reverse) k (jb+1):=L1.takeA sa hk1 kYn takeK
        refine jJy (fun d1=> ?_) fun d1=> ?_
        ·exact lJh ⟨⟨_,rfl⟩,.inl ⟨_,rfl,L2.done sa sb (.inl d1)⟩⟩
        have q1:1<=k:=by omega
        have q2:k<=a.size:=by omega
        have hos:out.size+1<=(o++(a.extract k ja).reverse).size:=by rw[Array.size_append];omega
        have bk:=beyK
        clear L1 hk1 hk2 hk3 takeK beyK
        generalize ja-k=kk at *
        generalize o++(a.extract k ja).reverse=o2 at *
        skip)
     | (obtain rfl:k=ja:=by omega
        have L2:=L1
        have q1:=p1
        have q2:=p2
        have hos:=hsz1
        have bk:=beyK
        clear L1 hk1 hk2 hk3 takeK beyK
        skip)
    all_goals refine lJe (jJ2 hy ?_)
    all_goals have L3:=L2.pushB sb hy bk
    all_goals refine jJy (fun d3=> ?_) fun d3=> ?_
    all_goals first
     | exact lJh ⟨⟨_,rfl⟩,.inl ⟨_,rfl,L3.firstB sa sb d3 hf⟩⟩
     | skip
    all_goals obtain⟨k',rfl⟩:∃n,k=n+1:=⟨k-1,by omega⟩
    all_goals obtain⟨x,hx⟩:=jVf (arr:=a) (i:=k') (by omega)
    all_goals have mx:=ma x (jJ9 hx)
    all_goals have r4:jb<=b.size:=by omega
    all_goals simp only[lYu]
    all_goals refine lJe (jJ2 hx ?_)
    all_goals refine lJe (jQ6 (st:=jKf st _) (f:=fun i=>b.getD i kd) H hk mx (at_e r4) (fun i hi=>mb _ (jJ9 (at_e r4 i hi))) (srt_e H r4 sb mb) (by omega) fun k2 e1 e2 e3=> ?_)
    all_goals obtain⟨takeK,beyK⟩:=galBh H sa ma mb r4 hx e1 e2 e3
    all_goals dsimp only
    all_goals by_cases ck2:jb-k2>0
    all_goals first | rw[lJc ck2] | rw[lJb ck2]
    all_goals first
     | (have L4:=L3.takeB sb e1 kYn takeK
        refine jJy (fun d4=> ?_) fun d4=> ?_
        ·exact lJh ⟨⟨_,rfl⟩,.inl ⟨_,rfl,L4.firstB sa sb d4 hf⟩⟩
        refine jJy (fun d5=> ?_) fun d5=> ?_
        ·exact lJh ⟨⟨_,rfl⟩,.inl ⟨_,rfl,L4.done sa sb (.inr d5)⟩⟩
        have L5:=L4.pushA sa hx beyK
        have r1:2<=k2:=by omega
        have r2:k2<=b.size:=by omega
        skip)
     | (obtain rfl:k2=jb:=by omega
        have L5:=L3.pushA sa hx beyK
        have r1:2<=k2:=by omega
        have r2:k2<=b.size:=by omega
        skip)
    all_goals refine lJe (jJ2 hx ?_)
    all_goals clear takeK beyK e1 e2 e3
    all_goals first
     | (refine jJy (fun d5=> ?_) fun d5=> ?_
        ·exact lJh ⟨⟨_,rfl⟩,.inl ⟨_,rfl,L5.done sa sb (.inl d5)⟩⟩
        ·split
         ·exact wpS_pure ⟨⟨_,rfl⟩,.inr ⟨rfl,L5,by dsimp only;omega,by dsimp only;omega,r1,r2,by simp;omega⟩⟩
         ·exact wpS_pure ⟨⟨_,rfl⟩,rfl,L5,by dsimp only;omega,by dsimp only;omega,r1,r2,by simp;omega⟩)
     | trace_state
   ·rintro⟨r,ja,jb,o,mg1,ac1,bc1⟩ st' ⟨⟨g1,rfl⟩,rfl,L1,p1,p2,p3,p4,hsz1⟩
    dsimp only at L1 p1 p2 p3 p4 hsz1 ⊢
    exact⟨⟨g1,rfl⟩,.inr ⟨rfl,L1,p1,p2,p3,p4,hsz1⟩⟩
   ·rintro⟨r,ja,jb,o,mg1,ac1,bc1⟩ st' ⟨⟨g1,rfl⟩,⟨r',rfl,fr⟩ | ⟨rfl,L1,p1,p2,p3,p4,hsz1⟩⟩
    ·dsimp only
     exact lJh ⟨⟨g1,rfl⟩,r',rfl,fr⟩
    ·dsimp only at L1 p1 p2 p3 p4 hsz1 ⊢
     refine lJe (lKm ?_)
     exact wpS_pure ⟨⟨_,rfl⟩,rfl,L1,p1,p2,p3,p4,by dsimp only;omega⟩
 ·rintro⟨r,na,nb,out,mg⟩ st' ⟨⟨g,rfl⟩,rfl,L,ha,ha',hb,hb',hsz⟩
  dsimp only at L ha ha' hb hb' hsz
  have:=L.size ha' hb'
  exfalso
  rw[Nat.zero_max] at hsz
  omega
 ·rintro⟨r,na,nb,out,mg⟩ st' ⟨⟨g,rfl⟩,r',rfl,fr⟩
  dsimp only
  exact lJh (h _ _ fr)
end
section
theorem jYr {α:Type}:∀(m:List α) (base:Nat) (arr:Array α) (k:Nat),base+k+m.length<=arr.size->
  ((m.zipIdx k).foldl (fun (a:Array α) (x:α×Nat)=>a.setIfInBounds (base+x.2) x.1) arr).toList=arr.toList.take (base+k)++m++arr.toList.drop (base+k+m.length)
 | [],base,arr,k,h=>by simp
 | p::m,base,arr,k,h=>by
  rw[List.zipIdx_cons,lQ4]
  have hl:base+k<arr.size:=by simp at h;omega
  rw[jYr m base _ (k+1) (by rw[lY6];simp at h;omega)]
  rw[Array.toList_setIfInBounds,show base+(k+1)=(base+k)+1 by omega]
  have h1:(arr.toList.set (base+k) p).take (base+k+1)=arr.toList.take (base+k)++[p]:=by
   rw[lK3,List.take_set_of_le (lJg _),lXz (by simpa using hl)];rfl
  have h2:(arr.toList.set (base+k) p).drop (base+k+1+m.length)=arr.toList.drop (base+k+1+m.length):=List.drop_set_of_lt (by omega)
  rw[h1,h2]
  simp only[lJ9,lJn,List.singleton_append,List.cons_append]
  rw[show base+k+(m.length+1)=base+k+1+m.length by omega]
  rfl
end
section
variable {M:Model} {A:Around} {E:Value->Shared->Prop} {s:Shared} {κ:SortKind} {mem:Keyed->Prop} {le:Keyed->Keyed->Prop} [∀x y,Decidable (le x y)]
theorem qVh {σ:Type} {Q:PUnit->σ->Prop} {st st':σ} (h:Q ⟨⟩ st'):wpS M A E s (set st':StateT σ Sem PUnit) Q st:=by
 unfold wpS;rw[StateT.run_set];exact lJd ⟨rfl,h⟩
theorem jJ4 {l:List Keyed} {i:Nat} (h:i<l.length):l[i]? =some (l.getD i kd):=by simp[List.getD,h]
theorem jX4 (H:Asks M A s κ mem le) {l:List Keyed} (hs:l.Pairwise le) (hm:∀x,x∈l->mem x) (i j:Nat) (hij:i<=j) (hj:j<l.length):le (l.getD i kd) (l.getD j kd):=by
 have h1:=jJ4 (l:=l) (i:=i) (by omega)
 have h2:=jJ4 hj
 rcases lQe hij with q | rfl
 ·exact kJy hs h1 q h2
 ·exact (H.tot _ _ (hm _ (lJx h1)) (hm _ (lJx h1))).elim id id
theorem kXn {st:SortSt} {Q:Bool->SortSt->Prop} {i sa na sb nb pw pw2:Nat} {P X Y S:List Keyed} (H:Asks M A s κ mem le) (hk:kindOf st=κ) (hfl:failedOf st=none) (hp1:(pendingOf st)[i]? =some (sa,na,pw)) (hp2:(pendingOf st)[i+1]? =some (sb,nb,pw2))
  (harr:(arrOf st).toList=P++(X++Y)++S) (h1:P.length=sa) (h2:X.length=na) (h3:sb=sa+na) (h4:Y.length=nb) (hX:1<=na) (hY:1<=nb) (sX:X.Pairwise le) (sY:Y.Pairwise le) (mX:∀x,x∈X->mem x) (mY:∀x,x∈Y->mem x)
  (h:∀Z st',Z.Perm (X++Y)->Z.Pairwise le->(arrOf st').toList=P++Z++S->kindOf st'=κ->failedOf st'=none->pendingOf st'=((pendingOf st).setIfInBounds i (sa,na+nb,pw)).eraseIdxIfInBounds (i+1)->Q true st'):wpS M A E s (mergeAt' i) Q st:=by
 have fX:∀j,j<na->(arrOf st)[sa+j]? =some (X.getD j kd):=fun j hj=>by
  rw[<-lKa,harr,lJn,lK8 (by omega),h1,lYv,lJn,lK9 (by omega)]
  exact jJ4 (by omega)
 have fY:∀j,j<nb->(arrOf st)[sb+j]? =some (Y.getD j kd):=fun j hj=>by
  rw[<-lKa,harr,lJn,lK8 (by omega),h1,lJn,lK8 (by omega),h2,lK9 (by omega),show sb+j-sa-na=j by omega]
  exact jJ4 (by omega)
 have mX':∀j,j<na->mem (X.getD j kd):=fun j hj=>mX _ (lJx (jJ4 (by omega)))
 have mY':∀j,j<nb->mem (Y.getD j kd):=fun j hj=>mY _ (lJx (jJ4 (by omega)))
 refine lJe (lQh ?_)
 simp only[hp1,hp2]
 refine lJe (qVh ?_)
 have hy0:=fY 0 (by omega)
 rw[Nat.add_zero] at hy0
 refine lJe (jJ2 hy0 ?_)
 refine lJe (jQ6 (f:=fun j=>X.getD j kd) H (by exact hk) (mY' 0 (by omega)) fX mX' (fun p q hpq hq=>jX4 H sX mX p q hpq (by omega)) (by omega) fun k hk1 hk2 hk3=> ?_)
 dsimp only
 simp only[bey,lKn,lKj,lQg,lV9] at hk2 hk3
 have inX:∀x,x∈X->∃j,j<na/\x=X.getD j kd:=fun x hx=>by
  (obtain⟨j,hj⟩:=lKw hx)
  have hl:=(lJq.mp hj).1
  exact⟨j,by omega,by rw[jJ4 hl] at hj;exact (lJ0 hj).symm⟩
 have inY:∀x,x∈Y->∃j,j<nb/\x=Y.getD j kd:=fun x hx=>by
  (obtain⟨j,hj⟩:=lKw hx)
  have hl:=(lJq.mp hj).1
  exact⟨j,by omega,by rw[jJ4 hl] at hj;exact (lJ0 hj).symm⟩
 have y0:∀y,y∈Y->le (Y.getD 0 kd) y:=fun y hy=>by
  obtain⟨j,hj,rfl⟩:=inY y hy
  exact jX4 H sY mY 0 j (lJ6 _) (by omega)
 have xl:∀x,x∈X->le x (X.getD (na-1) kd):=fun x hx=>by
  obtain⟨j,hj,rfl⟩:=inX x hx
  exact jX4 H sX mX j (na-1) (by omega) (by omega)
 have lowX:∀x,x∈X.take k->∀y,y∈Y->le x y:=fun x hx y hy=>by
  (obtain⟨j,hj⟩:=lKw hx)
  rw[lQz] at hj
  split at hj
  ·rename_i hjk
   rw[jJ4 (by omega)] at hj
   have:=hk2 j hjk
   rw[lJ0 hj] at this
   exact H.tr _ _ _ (mX _ (lQk hx)) (mY' 0 (by omega)) (mY _ hy) this (y0 y hy)
  ·cases hj
 refine jJy (fun d1=> ?_) fun d1=> ?_
 ·refine lJh (h (X++Y) _ (.refl _) (lKh.mpr ⟨sX,sY,fun x hx y hy=>lowX x ?_ y hy⟩) harr hk hfl rfl)
  rw[lQd (by omega)];exact hx
 refine lJe (jJ2 (x:=X.getD (na-1) kd) (by rw[show sa+k+(na-k)-1=sa+(na-1) by omega];exact fX _ (by omega)) ?_)
 have mk:=mX' (na-1) (by omega)
 refine lJe (jQ6 (f:=fun j=>Y.getD j kd) H (by exact hk) mk fY mY' (fun p q hpq hq=>jX4 H sY mY p q hpq (by omega)) (by omega) fun k2 e1 e2 e3=> ?_)
 dsimp only
 simp only[bey,lKl,lYs,lV9,Bool.not_eq_false',lQg] at e2 e3
 have highY:∀y,y∈Y.drop k2->∀x,x∈X->le x y:=fun y hy x hx=>by
  obtain⟨j,hj⟩:=lKw hy
  rw[lYa] at hj
  have hl:=(lJq.mp hj).1
  rw[jJ4 hl] at hj
  have:=e3 (k2+j) (by omega) (by omega)
  rw[lJ0 hj] at this
  exact H.tr _ _ _ (mX _ hx) mk (mY _ (lVi hy)) (xl x hx) this
 refine jJy (fun d2=> ?_) fun d2=> ?_
 ·refine lJh (h (X++Y) _ (.refl _) (lKh.mpr ⟨sX,sY,fun x hx y hy=>highY y ?_ x hx⟩) harr hk hfl rfl)
  rw[d2];exact hy
 have exX:((arrOf st).extract (sa+k) sb).toList=X.drop k:=by
  rw[jU4,harr,lJn,lJn,<-h1,List.drop_append,lVn (by omega),lXd,lYv,lY8 (by omega),lQ0 (by simp;omega),lQd (by simp;omega)]
 have exY:((arrOf st).extract sb (sb+k2)).toList=Y.take k2:=by
  rw[jU4,harr,lJn,lJn,<-lJn P,List.drop_append,lVn (by simp;omega),lXd,show sb-(P++X).length=0 by simp;omega,lXq,lQ0 (by omega),lYv]
 have szX:((arrOf st).extract (sa+k) sb).size=na-k:=by rw[<-lKf,exX,lVw,h2]
 have szY:((arrOf st).extract sb (sb+k2)).size=k2:=by rw[<-lKf,exY,lK1,h4];omega
 have fin:∀(r:Array Keyed) g,Fin2 le ((arrOf st).extract (sa+k) sb) ((arrOf st).extract sb (sb+k2)) r->Q (failedOf (jKf st g)).isNone (SortSt.mk' (kindOf st) (r.toList.zipIdx.foldl (fun a x=>a.setIfInBounds (sa+k+x.snd) x.fst) (arrOf st)) (((pendingOf st).setIfInBounds i (sa,na+nb,pw)).eraseIdxIfInBounds (i+1)) g (failedOf st)):=by
  rintro r g ⟨fp,fs⟩
  rw[exX,exY] at fp
  have hrl:r.toList.length=(na-k)+k2:=by rw[fp.length_eq,lKb,lVw,lK1];omega
  have hal:(arrOf st).size=sa+(na+nb)+S.length:=by rw[<-lKf,harr];simp;omega
  have e:=jYr r.toList (sa+k) (arrOf st) 0 (by omega)
  have e2':(failedOf (jKf st g)).isNone=true:=by show (failedOf st).isNone=true;rw[hfl];rfl
  rw[e2']
  have inr:∀z,z∈r.toList->z∈X.drop k\/z∈Y.take k2:=fun z hz=>lJr.mp (fp.mem_iff.mp hz)
  refine h (X.take k++r.toList++Y.drop k2) _ ?_ ?_ ?_ hk hfl rfl
  ·have:(X.take k++r.toList++Y.drop k2).Perm (X.take k++(X.drop k++Y.take k2)++Y.drop k2):=lX9 _ (lV3 _ fp)
   refine this.trans (List.Perm.of_eq ?_)
   rw[<-lJn,lKx,lJn,lKx]
  ·have sX':(X.take k++X.drop k).Pairwise le:=by rw[lKx];exact sX
   have sY':(Y.take k2++Y.drop k2).Pairwise le:=by rw[lKx];exact sY
   obtain⟨a1,a2,a3⟩:=lKh.mp sX'
   obtain⟨b1,b2,b3⟩:=lKh.mp sY'
   refine lKh.mpr ⟨lKh.mpr ⟨a1,fs,fun x hx z hz=> ?_⟩,b2,fun x hx y hy=> ?_⟩
   ·rcases inr z hz with w | w
    ·exact a3 x hx z w
    ·exact lowX x hx z (lQk w)
   ·rcases (lJr.mp hx) with w | w
    ·exact highY y hy x (lQk w)
    ·rcases inr x w with w | w
     ·exact highY y hy x (lVi w)
     ·exact b3 x w y hy
  ·show (List.foldl _ _ _:Array Keyed).toList=_
   rw[e,Nat.add_zero,hrl,show sa+k+(na-k+k2)=sb+k2 by omega]
   have t1:(arrOf st).toList.take (sa+k)=P++X.take k:=by
    rw[harr,lJn,lJn,<-h1,List.take_append,lQd (by omega),lYv,lQ0 (by omega)]
   have t2:(arrOf st).toList.drop (sb+k2)=Y.drop k2++S:=by
    rw[harr,lJn,lJn,<-lJn P,List.drop_append,lVn (by simp;omega),lXd,show sb+k2-(P++X).length=k2 by simp;omega,lY8 (by omega)]
   rw[t1,t2]
   simp only[lJn]
 have pa:((arrOf st).extract (sa+k) sb).toList.Pairwise le:=by rw[exX];exact sX.sublist (lQ6 ..)
 have pb:((arrOf st).extract sb (sb+k2)).toList.Pairwise le:=by rw[exY];exact sY.sublist (lQu ..)
 have pma:∀x,x∈((arrOf st).extract (sa+k) sb).toList->mem x:=fun x hx=>by rw[exX] at hx;exact mX x (lVi hx)
 have pmb:∀x,x∈((arrOf st).extract sb (sb+k2)).toList->mem x:=fun x hx=>by rw[exY] at hx;exact mY x (lQk hx)
 have pf:∀x,((arrOf st).extract sb (sb+k2))[0]? =some x->∀y,y∈((arrOf st).extract (sa+k) sb).toList->le x y:=fun x hx y hy=>by
  rw[<-lKa,exY,lQz,lJc (by omega),jJ4 (by omega)] at hx
  rw[<-lJ0 hx]
  rw[exX] at hy
  obtain⟨j,hj⟩:=lKw hy
  rw[lYa] at hj
  have hl:=(lJq.mp hj).1
  rw[jJ4 hl] at hj
  have:=hk3 (k+j) (by omega) (by omega)
  rw[lJ0 hj] at this
  exact (H.tot _ _ (mX _ (lVi hy)) (mY' 0 (by omega))).resolve_left this
 have pl:∀x,((arrOf st).extract (sa+k) sb)[((arrOf st).extract (sa+k) sb).size-1]? =some x->∀y,y∈((arrOf st).extract sb (sb+k2)).toList->le y x:=fun x hx y hy=>by
  rw[szX,<-lKa,exX,lYa,show k+(na-k-1)=na-1 by omega,jJ4 (by omega)] at hx
  rw[<-lJ0 hx]
  rw[exY] at hy
  obtain⟨j,hj⟩:=lKw hy
  rw[lQz] at hj
  split at hj
  ·rename_i hjk
   rw[jJ4 (by omega)] at hj
   have:=e2 j hjk
   rw[lJ0 hj] at this
   exact (H.tot _ _ mk (mY _ (lQk hy))).resolve_left this
  ·cases hj
 have qa:1<=((arrOf st).extract (sa+k) sb).size:=by rw[szX];omega
 have qb:1<=((arrOf st).extract sb (sb+k2)).size:=by rw[szY];omega
 split
 ·refine lJe (kXl H (by exact hk) qa qb pa pb pma pmb pf pl fun r g fr=> ?_)
  refine lJe (lKm (lJe (lQh (lJh ?_))))
  exact fin r g fr
 ·refine lJe (kXm H (by exact hk) qa qb pa pb pma pmb pf pl fun r g fr=> ?_)
  refine lJe (lKm (lJe (lQh (lJh ?_))))
  exact fin r g fr
end
section
variable {M:Model} {A:Around} {E:Value->Shared->Prop} {s:Shared} {κ:SortKind} {mem:Keyed->Prop} {le:Keyed->Keyed->Prop} [∀x y,Decidable (le x y)]
structure SB (κ:SortKind) (a0:Array Keyed) (lo hi:Nat) (pe:Array (Nat×Nat×Nat)) (st:SortSt):Prop where
 kind:kindOf st=κ
 fail:failedOf st=none
 pend:pendingOf st=pe
 perm:(arrOf st).Perm a0
 out:∀p,(p<lo\/hi<=p)->(arrOf st)[p]? =a0[p]?
abbrev Vl (st:SortSt) (p:Nat):Keyed:=(arrOf st).getD p kd
def SrtA (le:Keyed->Keyed->Prop) (st:SortSt) (lo n:Nat):Prop:=∀p q,p<q->q<n->le (Vl st (lo+p)) (Vl st (lo+q))
variable {a0:Array Keyed} {lo hi:Nat} {pe:Array (Nat×Nat×Nat)} {st:SortSt}
theorem SB.size (h:SB κ a0 lo hi pe st):(arrOf st).size=a0.size:=h.perm.size_eq
theorem SB.at (h:SB κ a0 lo hi pe st) {p:Nat} (hp:p<a0.size):(arrOf st)[p]? =some (Vl st p):=by
 have:p<(arrOf st).size:=by rw[h.size];exact hp
 simp[Array.getD,this]
theorem SB.inn (h:SB κ a0 lo hi pe st) (hm:∀x,x∈a0.toList->mem x) {p:Nat} (hp:p<a0.size):mem (Vl st p):=by
 have:=jJ9 (h.at hp)
 exact hm _ ((Array.perm_iff_toList_perm.mp h.perm).mem_iff.mp this)
theorem jV5 (H:Asks M A s κ mem le) (hm:∀x,x∈a0.toList->mem x) (h:SB κ a0 lo hi pe st) {i j:Nat} (hi:i<a0.size) (hj:j<a0.size) {Q:Option Bool->SortSt->Prop} (q:Q (some (!decide (le (Vl st j) (Vl st i)))) st):wpS M A E s (ltAt' i j) Q st:=by
 rw[ltAt'_eq]
 refine lJe (lQh ?_)
 exact lJe (jJ2 (h.at hi) (lJe (jJ2 (h.at hj) (kZl H (h.inn hm hi) (h.inn hm hj) h.kind q))))
theorem SB.set (h:SB κ a0 lo hi pe st) {xs:Array Keyed} (hp:xs.Perm (arrOf st)) (ho:∀p,(p<lo\/hi<=p)->xs[p]? =(arrOf st)[p]?):SB κ a0 lo hi pe (setArr st xs):=
 ⟨h.kind,h.fail,h.pend,hp.trans h.perm,fun p hp=>(ho p hp).trans (h.out p hp)⟩
theorem jZe {xs ys:Array Keyed} {i j:Nat} (h:xs[i]? =ys[j]?):xs.getD i kd=ys.getD j kd:=by
 rw[lXj,lXj,h]
theorem V_bub {k l p:Nat} (hs:lo+k<(arrOf st).size) (hl:l<=k):Vl (setArr st (bubble (arrOf st) (lo+k) (lo+k-(lo+l)))) (lo+p)=if p=l then Vl st (lo+k) else if l<p/\p<=k then Vl st (lo+(p-1)) else Vl st (lo+p):=by
 have e:=getElem?_bubble hs (lo+k-(lo+l)) (by omega) (lo+p)
 by_cases h1:p=l
 ·rw[lJc (by omega)] at e
  rw[lJc h1];exact jZe e
 ·rw[lJb (by omega)] at e
  rw[lJb h1]
  by_cases h2:l<p/\p<=k
  ·rw[lJc (by omega)] at e
   rw[lJc h2];exact jZe (e.trans (by rw[show lo+p-1=lo+(p-1) by omega]))
  ·rw[lJb (by omega)] at e
   rw[lJb h2];exact jZe e
theorem kKf (H:Asks M A s κ mem le) (hm:∀x,x∈a0.toList->mem x) (h:SB κ a0 lo hi pe st) {n ok:Nat} (hok:1<=ok) (hn:ok<=n) (hl:lo+n<=hi) (hh:hi<=a0.size) (hs:SrtA le st lo ok) {Q:Bool->SortSt->Prop} (q:∀st',SB κ a0 lo hi pe st'->SrtA le st' lo n->Q true st'):wpS M A E s (binarySort' lo n ok) Q st:=by
 rw[binarySort'_eq]
 refine lJe (lKp (lKq (I:=fun k (c:Option Bool×Unit) st'=>c=(none,())/\SB κ a0 lo hi pe st'/\SrtA le st' lo k) (Q:=fun (c:Option Bool×Unit) st'=>c=(none,())/\SB κ a0 lo hi pe st'/\SrtA le st' lo n) ?_ ?_ ⟨rfl,h,by rw[Nat.max_eq_left hok];exact hs⟩) ?_)
 ·rintro k c st1 hk hkn ⟨rfl,B,S⟩
  have hks:lo+k<a0.size:=by omega
  dsimp only
  have mV:∀p,p<=k->mem (Vl st1 (lo+p)):=fun p hp=>B.inn hm (by omega)
  have S':∀p q,p<=q->q<k->le (Vl st1 (lo+p)) (Vl st1 (lo+q)):=fun p q hpq hq=>by
   rcases lQe hpq with z | rfl
   ·exact S p q z hq
   ·exact (H.tot _ _ (mV p (by omega)) (mV p (by omega))).elim id id
  refine lJe (lKp (lKq (I:=fun i (c:Option Bool×Nat×Nat) st'=>st1=st'/\c.1=none/\c.2.1<=c.2.2/\c.2.2<=k/\c.2.2-c.2.1<=k-i/\(∀p,p<c.2.1->le (Vl st1 (lo+p)) (Vl st1 (lo+k)))/\(∀p,c.2.2<=p->p<k->le (Vl st1 (lo+k)) (Vl st1 (lo+p))))
   (Q:=fun (c:Option Bool×Nat×Nat) st'=>st1=st'/\c.1=none/\c.2.1<=k/\(∀p,p<c.2.1->le (Vl st1 (lo+p)) (Vl st1 (lo+k)))/\(∀p,c.2.1<=p->p<k->le (Vl st1 (lo+k)) (Vl st1 (lo+p)))) ?_ ?_ ⟨rfl,rfl,Nat.zero_le _,Nat.le_refl _,by dsimp only;omega,fun p hp=>absurd hp (Nat.not_lt_zero _),fun p h1 h2=>absurd h2 (by dsimp only at h1;omega)⟩) ?_)
  ·rintro i ⟨r0,l,r⟩ st2 _ hi2 ⟨rfl,rfl,i1,i2,i3,i4,i5⟩
   dsimp only at i1 i2 i3 i4 i5 ⊢
   by_cases c:l>=r
   ·rw[lJc c]
    exact wpS_pure ⟨rfl,rfl,by dsimp only;omega,i4,fun p h1 h2=>i5 p (by dsimp only at h1;omega) h2⟩
   ·rw[lJb c]
    have hmm:(l+r) / 2<k:=by omega
    refine lJe (jV5 H hm B (by omega) (by omega) ?_)
    by_cases w:le (Vl st1 (lo+(l+r) / 2)) (Vl st1 (lo+k))
    ·rw[lJ5 w]
     dsimp only
     rw[lJb (by decide)]
     exact wpS_pure ⟨rfl,rfl,by dsimp only;omega,i2,by dsimp only;omega,fun p hp=>H.tr _ _ _ (mV p (by dsimp only at hp;omega)) (mV _ (by omega)) (mV k (Nat.le_refl _)) (S' p _ (by dsimp only at hp;omega) hmm) w,i5⟩
    ·rw[lJw w]
     dsimp only
     (rw[lJc (show (!false)=true from rfl)])
     have w':=(H.tot _ _ (mV _ (by omega)) (mV k (lJg _))).resolve_left w
     exact wpS_pure ⟨rfl,rfl,by dsimp only;omega,by dsimp only;omega,by dsimp only;omega,i4,fun p h1 h2=>H.tr _ _ _ (mV k (Nat.le_refl _)) (mV _ (by omega)) (mV p (by omega)) w' (S' _ p h1 h2)⟩
  ·rintro⟨r0,l,r⟩ st2 ⟨rfl,rfl,i1,i2,i3,i4,i5⟩
   dsimp only at i1 i2 i3 i4 i5 ⊢
   exact⟨rfl,rfl,by omega,i4,fun p h1 h2=>i5 p (by omega) h2⟩
  ·rintro⟨r0,l,r⟩ st2 ⟨rfl,rfl,i1,i2,i3⟩
   dsimp only at i1 i2 i3 ⊢
   rw[moveDown'_eq]
   have hsz:lo+k<(arrOf st1).size:=by rw[B.size];exact hks
   refine lJe (lKm (lJh ⟨rfl,B.set (bubble_perm ..) (fun p hp=> ?_),fun p q' hpq hq=> ?_⟩))
   ·rw[getElem?_bubble hsz _ (by omega),lJb (by omega),lJb (by omega)]
   ·rw[V_bub hsz i1,V_bub hsz i1]
    by_cases e1:p=l
    ·rw[lJc e1,lJb (by omega),lJc ⟨by omega,by omega⟩]
     exact i3 _ (by omega) (by omega)
    ·rw[lJb e1]
     by_cases e2:q'=l
     ·rw[lJc e2,lJb (by omega)]
      exact i2 p (by omega)
     ·rw[lJb e2]
      by_cases e3:l<p/\p<=k
      ·rw[lJc e3,lJc ⟨by omega,by omega⟩]
       exact S _ _ (by omega) (by omega)
      ·rw[lJb e3]
       by_cases e4:l<q'/\q'<=k
       ·rw[lJc e4]
        exact S' _ _ (by omega) (by omega)
       ·rw[lJb e4]
        exact S _ _ hpq (by omega)
 ·rintro c st1 ⟨rfl,B,S⟩
  refine⟨rfl,B,?_⟩
  rwa [show max (max ok 1) n=n by omega] at S
 ·rintro c st1 ⟨rfl,B,S⟩
  dsimp only
  exact lJh (q _ B S)
end
section
variable {M:Model} {A:Around} {E:Value->Shared->Prop} {s:Shared} {κ:SortKind} {mem:Keyed->Prop} {le:Keyed->Keyed->Prop} [∀x y,Decidable (le x y)]
variable {a0:Array Keyed} {lo hi:Nat} {pe:Array (Nat×Nat×Nat)} {st:SortSt}
def NInc (le:Keyed->Keyed->Prop) (st:SortSt) (lo n:Nat):Prop:=∀p q,p<q->q<n->le (Vl st (lo+q)) (Vl st (lo+p))
abbrev revS (st:SortSt) (i j:Nat):SortSt:=setArr st (mirror (arrOf st) i j ((j-i) / 2))
theorem jX0 {i j p:Nat} (hj:lo+j<=(arrOf st).size):Vl (revS st (lo+i) (lo+j)) (lo+p)=if i<=p/\p<j then Vl st (lo+(i+j-1-p)) else Vl st (lo+p):=by
 have e:=getElem?_mirror_all (i:=lo+i) hj (lo+p)
 by_cases h:i<=p/\p<j
 ·rw[lJc (by omega)] at e
  rw[lJc h];exact jZe (e.trans (by rw[show lo+i+(lo+j)-1-(lo+p)=lo+(i+j-1-p) by omega]))
 ·rw[lJb (by omega)] at e
  rw[lJb h];exact jZe e
theorem SB.rev (h:SB κ a0 lo hi pe st) {i j:Nat} (hj:lo+j<=hi) (hh:hi<=a0.size):SB κ a0 lo hi pe (revS st (lo+i) (lo+j)):=
 h.set (mirror_perm ..) fun p hp=>by rw[getElem?_mirror_all (by rw[h.size];omega),lJb (by omega)]
theorem NInc.flip {n:Nat} (h:NInc le st lo n) (hn:lo+n<=(arrOf st).size):SrtA le (revS st (lo+0) (lo+n)) lo n:=fun p q hpq hq=>by
 rw[jX0 hn,jX0 hn,lJc ⟨lJ6 _,by omega⟩,lJc ⟨lJ6 _,hq⟩]
 exact h _ _ (by omega) (by omega)
theorem SrtA.flip {n:Nat} (h:SrtA le st lo n) (hn:lo+n<=(arrOf st).size):NInc le (revS st (lo+0) (lo+n)) lo n:=fun p q hpq hq=>by
 rw[jX0 hn,jX0 hn,lJc ⟨lJ6 _,hq⟩,lJc ⟨lJ6 _,by omega⟩]
 exact h _ _ (by omega) (by omega)
theorem NInc.part {n m:Nat} (h:NInc le st lo n) (hn:lo+n<=(arrOf st).size) (hm:m<=n) (he:∀p q,m<=p->p<n->m<=q->q<n->le (Vl st (lo+p)) (Vl st (lo+q))):NInc le (revS st (lo+m) (lo+n)) lo n:=fun p q hpq hq=>by
 rw[jX0 hn,jX0 hn]
 by_cases h1:m<=p
 ·rw[lJc ⟨by omega,hq⟩,lJc ⟨h1,by omega⟩]
  exact he _ _ (by omega) (by omega) (by omega) (by omega)
 ·rw[lJb (by omega:¬ (m<=p/\p<n))]
  by_cases h2:m<=q
  ·rw[lJc ⟨h2,hq⟩]
   exact h _ _ (by omega) (by omega)
  ·rw[lJb (by omega)]
   exact h _ _ hpq hq
def Seg (le:Keyed->Keyed->Prop) (st:SortSt) (lo i e:Nat):Prop:=∀p q,i-(e+1)<=p->p<i->i-(e+1)<=q->q<i->le (Vl st (lo+p)) (Vl st (lo+q))
theorem NInc.up (H:Asks M A s κ mem le) (hm:∀x,x∈a0.toList->mem x) {n:Nat} (B:SB κ a0 lo hi pe st) (hn1:1<=n) (hn:lo+n<a0.size) (h:NInc le st lo n) (w:le (Vl st (lo+n)) (Vl st (lo+(n-1)))):NInc le st lo (n+1):=fun p q hpq hq=>by
 rcases lQe (lVj hq) with z | rfl
 ·exact h p q hpq z
 ·rcases lQe (show p<=q-1 by omega) with y | rfl
  ·exact H.tr _ _ _ (B.inn hm hn) (B.inn hm (by omega)) (B.inn hm (by omega)) w (h p (q-1) y (by omega))
  ·exact w
theorem Seg.part {n e:Nat} (h:Seg le st lo n e) (N:NInc le st lo n) {hn:lo+n<=(arrOf st).size}:NInc le (revS st (lo+(n-(e+1))) (lo+n)) lo n:=N.part hn (by omega) h
theorem kUq (H:Asks M A s κ mem le) (hm:∀x,x∈a0.toList->mem x) (h:SB κ a0 lo hi pe st) {nrem:Nat} (h1:1<=nrem) (hl:lo+nrem<=hi) (hh:hi<=a0.size) {Q:Option Nat->SortSt->Prop} (q:∀n st',SB κ a0 lo hi pe st'->1<=n->n<=nrem->SrtA le st' lo n->Q (some n) st'):wpS M A E s (countRun' lo nrem) Q st:=by
 rw[countRun'_eq]
 have up:∀(st':SortSt) n,SB κ a0 lo hi pe st'->1<=n->n<nrem->SrtA le st' lo n->le (Vl st' (lo+n-1)) (Vl st' (lo+n))->SrtA le st' lo (n+1):=fun st' n B hn hnr S w p q hpq hq=>by
  rcases lQe (lVj hq) with z | rfl
  ·exact S p q hpq z
  ·rw[show lo+q-1=lo+(q-1) by omega] at w
   rcases lQe (show p<=q-1 by omega) with y | rfl
   ·exact H.tr _ _ _ (B.inn hm (by omega)) (B.inn hm (by omega)) (B.inn hm (by omega)) (S p (q-1) y (by omega)) w
   ·exact w
 refine lJe (lKp (lKq (I:=fun i (c:Option (Option Nat)×Nat) st'=>st=st'/\c=(none,i)/\SrtA le st lo i) (Q:=fun (c:Option (Option Nat)×Nat) st'=>st=st'/\c.1=none/\1<=c.2/\c.2<=nrem/\SrtA le st lo c.2/\(c.2<nrem->¬ le (Vl st (lo+c.2-1)) (Vl st (lo+c.2)))) ?_ ?_ ⟨rfl,rfl,fun p q hpq hq=>absurd hq (by omega)⟩) ?_)
 ·rintro i c st1 hi1 hi2 ⟨rfl,rfl,S⟩
  dsimp only
  refine lJe (jV5 H hm h (by omega) (by omega) ?_)
  by_cases w:le (Vl st (lo+i-1)) (Vl st (lo+i))
  ·rw[lJ5 w]
   dsimp only
   rw[lJb (by decide)]
   exact lJh ⟨rfl,rfl,up st i h hi1 hi2 S w⟩
  ·rw[lJw w]
   dsimp only
   (rw[lJc (show (!false)=true from rfl)])
   exact wpS_pure ⟨rfl,rfl,hi1,by dsimp only;omega,S,fun _=>w⟩
 ·rintro c st1 ⟨rfl,rfl,S⟩
  rw[show max 1 nrem=nrem by omega] at S ⊢
  exact⟨rfl,rfl,h1,lJg _,S,fun z=>absurd z (lQn _)⟩
 ·rintro⟨r,n⟩ st1 ⟨rfl,rfl,n1,n2,S,W⟩
  dsimp only at n1 n2 S W ⊢
  refine jJy (fun d=> ?_) fun d=> ?_
  ·exact lJh (q n st h n1 n2 S)
  have nlt:n<nrem:=by omega
  have en:lo+n-1=lo+(n-1):=by omega
  rw[en] at W
  have W':=(H.tot _ _ (h.inn hm (by omega)) (h.inn hm (by omega))).resolve_left (W nlt)
  by_cases cn:n>1
  ·rw[lJc cn]
   refine lJe (jV5 H hm h (by omega) (by omega) ?_)
   rw[en]
   by_cases w:le (Vl st (lo+(n-1))) (Vl st lo)
   ·rw[lJ5 w]
    dsimp only
    rw[lJb (by decide),lVb]
    have hsz:lo+n<=(arrOf st).size:=by rw[h.size];omega
    have B2:=h.rev (i:=0) (j:=n) (by omega) hh
    have N2:NInc le (revS st (lo+0) (lo+n)) lo (n+1):=by
     refine (S.flip hsz).up H hm B2 n1 (by omega) ?_
     rw[jX0 hsz,jX0 hsz,lJb (by omega),lJc (by omega),show 0+n-1-(n-1)=0 by omega,Nat.add_zero]
     exact H.tr _ _ _ (h.inn hm (by omega)) (h.inn hm (by omega)) (h.inn hm (by omega)) W' w
    refine lJe (lKm ?_)
    (refine lJe (wpS_lift (lK6 ⟨rfl,?_⟩)))
    refine lJe (lKp (lKq (I:=fun i (c:Option (Option Nat)×Nat×Nat) st'=>SB κ a0 lo hi pe st'/\c.1=none/\c.2.1=i/\NInc le st' lo i/\c.2.2+1<=i/\Seg le st' lo i c.2.2)
     (Q:=fun (c:Option (Option Nat)×Nat×Nat) st'=>SB κ a0 lo hi pe st'/\c.1=none/\1<=c.2.1/\c.2.1<=nrem/\NInc le st' lo c.2.1/\c.2.2+1<=c.2.1/\Seg le st' lo c.2.1 c.2.2) ?_ ?_ ⟨B2,rfl,rfl,N2,by dsimp only;omega,fun p q a1 a2 a3 a4=>by
      obtain rfl:p=q:=by dsimp only at a1 a3;omega
      exact (H.tot _ _ (B2.inn hm (by omega)) (B2.inn hm (by omega))).elim id id⟩) ?_)
    ·rintro i ⟨r,i',e⟩ st3 hi1 hi2 ⟨B,rfl,rfl,N,he,sg⟩
     dsimp only at N he sg hi1 hi2 ⊢
     have ei:lo+i'-1=lo+(i'-1):=by omega
     refine lJe (jV5 H hm B (by omega) (by omega) ?_)
     rw[ei]
     by_cases w:le (Vl st3 (lo+(i'-1))) (Vl st3 (lo+i'))
     ·rw[lJ5 w]
      dsimp only
      rw[lJb (by decide)]
      refine lJe (jV5 H hm B (by omega) (by omega) ?_)
      by_cases w2:le (Vl st3 (lo+i')) (Vl st3 (lo+(i'-1)))
      ·rw[lJ5 w2]
       dsimp only
       rw[lJb (by decide)]
       refine wpS_pure ⟨B,rfl,rfl,N.up H hm B (by omega) (by omega) w2,by dsimp only;omega,fun p q a1 a2 a3 a4=> ?_⟩
       dsimp only at a1 a3
       have to:∀p,i'-(e+1)<=p->p<i'->le (Vl st3 (lo+p)) (Vl st3 (lo+i'))/\le (Vl st3 (lo+i')) (Vl st3 (lo+p)):=fun p b1 b2=>
        ⟨H.tr _ _ _ (B.inn hm (by omega)) (B.inn hm (by omega)) (B.inn hm (by omega)) (sg p (i'-1) b1 b2 (by omega) (by omega)) w,H.tr _ _ _ (B.inn hm (by omega)) (B.inn hm (by omega)) (B.inn hm (by omega)) w2 (sg (i'-1) p (by omega) (by omega) b1 b2)⟩
       by_cases ep:p=i'
       ·by_cases eq:q=i'
        ·rw[ep,eq];exact (H.tot _ _ (B.inn hm (by omega)) (B.inn hm (by omega))).elim id id
        ·rw[ep];exact (to q (by omega) (by omega)).2
       ·by_cases eq:q=i'
        ·rw[eq];exact (to p (by omega) (by omega)).1
        ·exact sg p q (by omega) (by omega) (by omega) (by omega)
      ·rw[lJw w2]
       dsimp only
       (rw[lJc (show (!false)=true from rfl)])
       exact wpS_pure ⟨B,rfl,by dsimp only;omega,by dsimp only;omega,N,he,sg⟩
     ·rw[lJw w]
      dsimp only
      (rw[lJc (show (!false)=true from rfl)])
      have w':=(H.tot _ _ (B.inn hm (by omega)) (B.inn hm (by omega))).resolve_left w
      have one:∀st4,SB κ a0 lo hi pe st4->Seg le st4 lo (i'+1) 0:=fun st4 B4 p q a1 a2 a3 a4=>by
       obtain rfl:p=q:=by omega
       exact (H.tot _ _ (B4.inn hm (by omega)) (B4.inn hm (by omega))).elim id id
      by_cases ce:e>0
      ·rw[lJc ce,lVb,show lo+i'-(e+1)=lo+(i'-(e+1)) by omega]
       have hsz:lo+i'<=(arrOf st3).size:=by rw[B.size];omega
       have B4:=B.rev (i:=i'-(e+1)) (j:=i') (by omega) hh
       have N4:=sg.part N (hn:=hsz)
       refine wpS_bind (wpS_modify (wpS_pure ⟨B4,rfl,rfl,N4.up H hm B4 (by omega) (by omega) ?_,by dsimp only;omega,one _ B4⟩))
       rw[jX0 hsz,jX0 hsz,lJb (by omega),lJc (by omega)]
       exact H.tr _ _ _ (B.inn hm (by omega)) (B.inn hm (by omega)) (B.inn hm (by omega)) w' (sg _ _ (by omega) (by omega) (by omega) (by omega))
      ·rw[lJb ce]
       exact wpS_pure ⟨B,rfl,rfl,N.up H hm B (by omega) (by omega) w',by dsimp only;omega,one _ B⟩
    ·rintro⟨r,i',e⟩ st3 ⟨B,rfl,rfl,N,he,sg⟩
     dsimp only at N he sg ⊢
     exact⟨B,rfl,by omega,by omega,N,he,sg⟩
    ·rintro⟨r,i',e⟩ st3 ⟨B,rfl,b1,b2,N,he,sg⟩
     dsimp only at b1 b2 N he sg ⊢
     have hsz:lo+i'<=(arrOf st3).size:=by rw[B.size];omega
     by_cases ce:e>0
     all_goals first | rw[lJc ce,lVb,lVb,show lo+i'-(e+1)=lo+(i'-(e+1)) by omega] | rw[lJb ce,lVb]
     all_goals first
      | (have N4:=sg.part N (hn:=hsz)
         have B4:=B.rev (i:=i'-(e+1)) (j:=i') (by omega) hh
         have S5:=N4.flip (by rw[B4.size];omega)
         have B5:=B4.rev (i:=0) (j:=i') (by omega) hh
         refine lJe (lKm (lJe (lKm ?_)))
         skip)
      | (have S5:=N.flip hsz
         have B5:=B.rev (i:=0) (j:=i') (by omega) hh
         refine lJe (lKm ?_)
         skip)
     all_goals refine lJe (lKp (lKq (I:=fun i (c:Option (Option Nat)×Nat) st'=>SB κ a0 lo hi pe st'/\c=(none,i)/\SrtA le st' lo i) (Q:=fun (c:Option (Option Nat)×Nat) st'=>SB κ a0 lo hi pe st'/\c.1=none/\1<=c.2/\c.2<=nrem/\SrtA le st' lo c.2) ?_ ?_ ⟨B5,rfl,S5⟩) ?_)
     all_goals first
      | (rintro i c st6 hi1 hi2 ⟨B6,rfl,S6⟩
         dsimp only
         refine lJe (jV5 H hm B6 (by omega) (by omega) ?_)
         by_cases w:le (Vl st6 (lo+i-1)) (Vl st6 (lo+i))
         ·rw[lJ5 w]
          dsimp only
          rw[lJb (by decide)]
          exact lJh ⟨B6,rfl,up st6 i B6 (by omega) hi2 S6 w⟩
         ·rw[lJw w]
          dsimp only
          (rw[lJc (show (!false)=true from rfl)])
          exact wpS_pure ⟨B6,rfl,by dsimp only;omega,by dsimp only;omega,S6⟩)
      | (rintro c st6 ⟨B6,rfl,S6⟩
         rw[show max i' nrem=nrem by omega] at S6 ⊢
         exact⟨B6,rfl,h1,lJg _,S6⟩)
      | (rintro⟨r,k⟩ st6 ⟨B6,rfl,k1,k2,S6⟩
         dsimp only at k1 k2 S6 ⊢
         exact lJh (q k st6 B6 k1 k2 S6))
   ·rw[lJw w]
    dsimp only
    (rw[lJc (show (!false)=true from rfl)])
    exact lJh (q n st h n1 n2 S)
  ·rw[lJb cn]
   obtain rfl:n=1:=by omega
   have B2:=h
   have N2:NInc le st lo (1+1):=fun p q hpq hq=>by
    obtain rfl:p=0:=by omega
    obtain rfl:q=1:=by omega
    exact W'
   (refine lJe (wpS_lift (lK6 ⟨rfl,?_⟩)))
   refine lJe (lKp (lKq (I:=fun i (c:Option (Option Nat)×Nat×Nat) st'=>SB κ a0 lo hi pe st'/\c.1=none/\c.2.1=i/\NInc le st' lo i/\c.2.2+1<=i/\Seg le st' lo i c.2.2)
    (Q:=fun (c:Option (Option Nat)×Nat×Nat) st'=>SB κ a0 lo hi pe st'/\c.1=none/\1<=c.2.1/\c.2.1<=nrem/\NInc le st' lo c.2.1/\c.2.2+1<=c.2.1/\Seg le st' lo c.2.1 c.2.2) ?_ ?_ ⟨B2,rfl,rfl,N2,by dsimp only;omega,fun p q a1 a2 a3 a4=>by
     obtain rfl:p=q:=by dsimp only at a1 a3;omega
     exact (H.tot _ _ (B2.inn hm (by omega)) (B2.inn hm (by omega))).elim id id⟩) ?_)
   ·rintro i ⟨r,i',e⟩ st3 hi1 hi2 ⟨B,rfl,rfl,N,he,sg⟩
    dsimp only at N he sg hi1 hi2 ⊢
    have ei:lo+i'-1=lo+(i'-1):=by omega
    refine lJe (jV5 H hm B (by omega) (by omega) ?_)
    rw[ei]
    by_cases w:le (Vl st3 (lo+(i'-1))) (Vl st3 (lo+i'))
    ·rw[lJ5 w]
     dsimp only
     rw[lJb (by decide)]
     refine lJe (jV5 H hm B (by omega) (by omega) ?_)
     by_cases w2:le (Vl st3 (lo+i')) (Vl st3 (lo+(i'-1)))
     ·rw[lJ5 w2]
      dsimp only
      rw[lJb (by decide)]
      refine wpS_pure ⟨B,rfl,rfl,N.up H hm B (by omega) (by omega) w2,by dsimp only;omega,fun p q a1 a2 a3 a4=> ?_⟩
      dsimp only at a1 a3
      have to:∀p,i'-(e+1)<=p->p<i'->le (Vl st3 (lo+p)) (Vl st3 (lo+i'))/\le (Vl st3 (lo+i')) (Vl st3 (lo+p)):=fun p b1 b2=>
       ⟨H.tr _ _ _ (B.inn hm (by omega)) (B.inn hm (by omega)) (B.inn hm (by omega)) (sg p (i'-1) b1 b2 (by omega) (by omega)) w,H.tr _ _ _ (B.inn hm (by omega)) (B.inn hm (by omega)) (B.inn hm (by omega)) w2 (sg (i'-1) p (by omega) (by omega) b1 b2)⟩
      by_cases ep:p=i'
      ·by_cases eq:q=i'
       ·rw[ep,eq];exact (H.tot _ _ (B.inn hm (by omega)) (B.inn hm (by omega))).elim id id
       ·rw[ep];exact (to q (by omega) (by omega)).2
      ·by_cases eq:q=i'
       ·rw[eq];exact (to p (by omega) (by omega)).1
       ·exact sg p q (by omega) (by omega) (by omega) (by omega)
     ·rw[lJw w2]
      dsimp only
      (rw[lJc (show (!false)=true from rfl)])
      exact wpS_pure ⟨B,rfl,by dsimp only;omega,by dsimp only;omega,N,he,sg⟩
    ·rw[lJw w]
     dsimp only
     (rw[lJc (show (!false)=true from rfl)])
     have w':=(H.tot _ _ (B.inn hm (by omega)) (B.inn hm (by omega))).resolve_left w
     have one:∀st4,SB κ a0 lo hi pe st4->Seg le st4 lo (i'+1) 0:=fun st4 B4 p q a1 a2 a3 a4=>by
      obtain rfl:p=q:=by omega
      exact (H.tot _ _ (B4.inn hm (by omega)) (B4.inn hm (by omega))).elim id id
     by_cases ce:e>0
     ·rw[lJc ce,lVb,show lo+i'-(e+1)=lo+(i'-(e+1)) by omega]
      have hsz:lo+i'<=(arrOf st3).size:=by rw[B.size];omega
      have B4:=B.rev (i:=i'-(e+1)) (j:=i') (by omega) hh
      have N4:=sg.part N (hn:=hsz)
      refine wpS_bind (wpS_modify (wpS_pure ⟨B4,rfl,rfl,N4.up H hm B4 (by omega) (by omega) ?_,by dsimp only;omega,one _ B4⟩))
      rw[jX0 hsz,jX0 hsz,lJb (by omega),lJc (by omega)]
      exact H.tr _ _ _ (B.inn hm (by omega)) (B.inn hm (by omega)) (B.inn hm (by omega)) w' (sg _ _ (by omega) (by omega) (by omega) (by omega))
     ·rw[lJb ce]
      exact wpS_pure ⟨B,rfl,rfl,N.up H hm B (by omega) (by omega) w',by dsimp only;omega,one _ B⟩
   ·rintro⟨r,i',e⟩ st3 ⟨B,rfl,rfl,N,he,sg⟩
    dsimp only at N he sg ⊢
    exact⟨B,rfl,by omega,by omega,N,he,sg⟩
   ·rintro⟨r,i',e⟩ st3 ⟨B,rfl,b1,b2,N,he,sg⟩
    dsimp only at b1 b2 N he sg ⊢
    have hsz:lo+i'<=(arrOf st3).size:=by rw[B.size];omega
    by_cases ce:e>0
    all_goals first | rw[lJc ce,lVb,lVb,show lo+i'-(e+1)=lo+(i'-(e+1)) by omega] | rw[lJb ce,lVb]
    all_goals first
     | (have N4:=sg.part N (hn:=hsz)
        have B4:=B.rev (i:=i'-(e+1)) (j:=i') (by omega) hh
        have S5:=N4.flip (by rw[B4.size];omega)
        have B5:=B4.rev (i:=0) (j:=i') (by omega) hh
        refine lJe (lKm (lJe (lKm ?_)))
        skip)
     | (have S5:=N.flip hsz
        have B5:=B.rev (i:=0) (j:=i') (by omega) hh
        refine lJe (lKm ?_)
        skip)
    all_goals refine lJe (lKp (lKq (I:=fun i (c:Option (Option Nat)×Nat) st'=>SB κ a0 lo hi pe st'/\c=(none,i)/\SrtA le st' lo i) (Q:=fun (c:Option (Option Nat)×Nat) st'=>SB κ a0 lo hi pe st'/\c.1=none/\1<=c.2/\c.2<=nrem/\SrtA le st' lo c.2) ?_ ?_ ⟨B5,rfl,S5⟩) ?_)
    all_goals first
     | (rintro i c st6 hi1 hi2 ⟨B6,rfl,S6⟩
        dsimp only
        refine lJe (jV5 H hm B6 (by omega) (by omega) ?_)
        by_cases w:le (Vl st6 (lo+i-1)) (Vl st6 (lo+i))
        ·rw[lJ5 w]
         dsimp only
         rw[lJb (by decide)]
         exact lJh ⟨B6,rfl,up st6 i B6 (by omega) hi2 S6 w⟩
        ·rw[lJw w]
         dsimp only
         (rw[lJc (show (!false)=true from rfl)])
         exact wpS_pure ⟨B6,rfl,by dsimp only;omega,by dsimp only;omega,S6⟩)
     | (rintro c st6 ⟨B6,rfl,S6⟩
        rw[show max i' nrem=nrem by omega] at S6 ⊢
        exact⟨B6,rfl,h1,lJg _,S6⟩)
     | (rintro⟨r,k⟩ st6 ⟨B6,rfl,k1,k2,S6⟩
        dsimp only at k1 k2 S6 ⊢
        exact lJh (q k st6 B6 k1 k2 S6))
end
section
variable {M:Model} {A:Around} {E:Value->Shared->Prop} {s:Shared} {κ:SortKind} {mem:Keyed->Prop} {le:Keyed->Keyed->Prop} [∀x y,Decidable (le x y)]
structure Runs (κ:SortKind) (le:Keyed->Keyed->Prop) (a0:Array Keyed) (Rs:List (List Keyed)) (rest:List Keyed) (st:SortSt):Prop where
 kind:kindOf st=κ
 fail:failedOf st=none
 arr:(arrOf st).toList=Rs.flatten++rest
 perm:(arrOf st).toList.Perm a0.toList
 srt:∀R,R∈Rs->R.Pairwise le/\1<=R.length
 pend:∀i,(pendingOf st)[i]?.map (fun x=>(x.1,x.2.1))=(Rs[i]?).map (fun R=>(((Rs.take i).flatten).length,R.length))
theorem Runs.size {a0:Array Keyed} {Rs:List (List Keyed)} {rest:List Keyed} {st:SortSt} (h:Runs κ le a0 Rs rest st):(pendingOf st).size=Rs.length:=by
 rcases lYo (pendingOf st).size Rs.length with z | z | z
 ·have:=h.pend (pendingOf st).size
  rw[lV2 (lJg _),lJp z] at this
  cases this
 ·exact z
 ·have:=h.pend Rs.length
  rw[lQb z,lK7 (lJg _)] at this
  cases this
theorem split2 {Rs:List (List Keyed)} {i:Nat} (h:i+1<Rs.length):∃A X Y B,Rs=A++X::Y::B/\A.length=i:=by
 refine⟨Rs.take i,Rs[i],Rs[i+1],Rs.drop (i+2),?_,by simp;omega⟩
 conv=>lhs;rw[<-lKx i Rs]
 rw[lVm (by omega),lVm (by omega)]
theorem kY3 {o:Option (Nat×Nat×Nat)} {a b:Nat} (h:o.map (fun x=>(x.1,x.2.1))=some (a,b)):∃p,o=some (a,b,p):=by
 cases o with
 | none=>cases h
 | some x=>
  obtain⟨u,v,w⟩:=x
  simp only[lQi,lYr,Prod.mk.injEq] at h
  obtain⟨rfl,rfl⟩:=h
  exact⟨w,rfl⟩
theorem Runs.merge {a0:Array Keyed} {Rs:List (List Keyed)} {rest:List Keyed} {st:SortSt} {i:Nat} {Q:Bool->SortSt->Prop} (H:Asks M A s κ mem le) (hm:∀x,x∈a0.toList->mem x) (h:Runs κ le a0 Rs rest st) (hi:i+1<Rs.length)
  (q:∀Rs' st',Runs κ le a0 Rs' rest st'->Rs'.length+1=Rs.length->Rs'.flatten.length=Rs.flatten.length->Q true st'):wpS M A E s (mergeAt' i) Q st:=by
 obtain⟨As,X,Y,B,rfl,hA⟩:=split2 hi
 have hsz:=h.size
 have p1:=h.pend i
 have p2:=h.pend (i+1)
 have e1:(As++X::Y::B)[i]? =some X:=by rw[lK8 (by omega),hA,Nat.sub_self];rfl
 have e2:(As++X::Y::B)[i+1]? =some Y:=by rw[lK8 (by omega),hA,show i+1-i=1 by omega];rfl
 have t1:(As++X::Y::B).take i=As:=by rw[<-hA];exact List.take_left
 have t2:(As++X::Y::B).take (i+1)=As++[X]:=by rw[<-hA,lY9];rfl
 rw[e1,t1,lQi] at p1
 rw[e2,t2,lQi] at p2
 obtain⟨w1,p1⟩:=kY3 p1
 obtain⟨w2,p2⟩:=kY3 p2
 have inM:∀x,x∈(arrOf st).toList->mem x:=fun x hx=>hm x (h.perm.mem_iff.mp hx)
 have harr:(arrOf st).toList=As.flatten++(X++Y)++(B.flatten++rest):=by rw[h.arr];simp
 obtain⟨sX,lX⟩:=h.srt X (by simp)
 obtain⟨sY,lY⟩:=h.srt Y (by simp)
 refine kXn H h.kind h.fail p1 p2 harr rfl rfl (by simp) rfl lX lY sX sY (fun x hx=>inM x (by rw[harr];simp[hx])) (fun x hx=>inM x (by rw[harr];simp[hx])) fun Z st' zp zs za zk zf zpe=> ?_
 have zl:Z.length=X.length+Y.length:=by rw[zp.length_eq,lKb]
 refine q (As++Z::B) st' ⟨zk,zf,by rw[za];simp,?_,fun R hR=> ?_,fun j=> ?_⟩ (by simp;omega) (by simp;omega)
 ·refine List.Perm.trans ?_ h.perm
  rw[za,harr]
  exact lX9 _ (lV3 _ zp)
 ·rcases (lJr.mp hR) with z | z
  ·exact h.srt R (by simp[z])
  ·rcases (lJk.mp z) with rfl | z
   ·exact⟨zs,by omega⟩
   ·exact h.srt R (by simp[z])
 ·have hin:i+1<((pendingOf st).setIfInBounds i (As.flatten.length,X.length+Y.length,w1)).size:=by rw[lY6,hsz];exact hi
  have er:(pendingOf st')[j]? =if j<i+1 then ((pendingOf st).setIfInBounds i (As.flatten.length,X.length+Y.length,w1))[j]? else ((pendingOf st).setIfInBounds i (As.flatten.length,X.length+Y.length,w1))[j+1]? :=by
   rw[zpe,Array.eraseIdxIfInBounds,dif_pos hin,Array.getElem?_eraseIdx]
  rw[er]
  rcases lYo j i with z | z | z
  ·rw[lJc (by omega),lYq,lJb (by omega),h.pend j,lK9 (by omega),lK9 (by omega),lQ0 (by omega),lQ0 (by omega)]
  ·subst z
   have e3:(As++Z::B)[j]? =some Z:=by rw[lK8 (by omega),hA,Nat.sub_self];rfl
   have t3:(As++Z::B).take j=As:=by rw[<-hA];exact List.take_left
   rw[lJc (by omega),lYq,lJc rfl,lJc (by rw[hsz];omega),e3,t3,lQi,lQi,zl]
  ·obtain⟨d,rfl⟩:∃d,j=i+1+d:=⟨j-i-1,by omega⟩
   rw[lJb (by omega),lYq,lJb (by omega),h.pend]
   have g1:(As++X::Y::B)[i+1+d+1]? =B[d]? :=by rw[lK8 (by omega),hA,show i+1+d+1-i=d+2 by omega];rfl
   have g2:(As++Z::B)[i+1+d]? =B[d]? :=by rw[lK8 (by omega),hA,show i+1+d-i=d+1 by omega];rfl
   have g3:(As++X::Y::B).take (i+1+d+1)=As++X::Y::B.take d:=by rw[show i+1+d+1=As.length+(d+2) by omega,lY9];rfl
   have g4:(As++Z::B).take (i+1+d)=As++Z::B.take d:=by rw[show i+1+d=As.length+(d+1) by omega,lY9];rfl
   rw[g1,g2,g3,g4]
   congr 1
   funext R
   have:(As++X::Y::B.take d).flatten.length=(As++Z::B.take d).flatten.length:=by simp;omega
   rw[this]
end
section
variable {M:Model} {A:Around} {E:Value->Shared->Prop} {s:Shared} {κ:SortKind} {mem:Keyed->Prop} {le:Keyed->Keyed->Prop} [∀x y,Decidable (le x y)] {a0:Array Keyed} {Rs:List (List Keyed)} {rest:List Keyed} {st st3:SortSt}
theorem Runs.add {n lo:Nat} (h:Runs κ le a0 Rs rest st) (hlo:lo=Rs.flatten.length) (B:SB κ (arrOf st) lo (arrOf st).size (pendingOf st) st3) (hn:lo+n<=(arrOf st).size) (S:SrtA le st3 lo n):∃R r3,R.length=n/\R.Pairwise le/\Runs κ le a0 Rs (R++r3) st3:=by
 have hsz:=B.size
 have hd:(arrOf st3).toList.take lo=Rs.flatten:=by
  have:(arrOf st).toList.take lo=Rs.flatten:=by rw[h.arr,hlo];exact List.take_left
  rw[<-this]
  apply lVu
  intro p
  rw[lQz,lQz]
  by_cases c:p<lo
  ·rw[lJc c,lJc c,lKa,lKa]
   exact B.out p (.inl c)
  ·rw[lJb c,lJb c]
 refine⟨((arrOf st3).toList.drop lo).take n,((arrOf st3).toList.drop lo).drop n,by simp;omega,?_,B.kind,B.fail,?_,?_,h.srt,fun i=> ?_⟩
 ·rw[lY4]
  intro p q hp hq hpq
  have hq':q<n:=by simp at hq;omega
  have:=S p q hpq hq'
  rw[lYp,lYp,List.getElem_drop,List.getElem_drop]
  simp only[Vl,Array.getD,show lo+p<(arrOf st3).size by omega,show lo+q<(arrOf st3).size by omega,dif_pos] at this
  simpa using this
 ·rw[lKx,<-hd,lKx]
 ·exact (Array.perm_iff_toList_perm.mp B.perm).trans h.perm
 ·rw[B.pend];exact h.pend i
theorem Runs.push {R r3:List Keyed} (h:Runs κ le a0 Rs (R++r3) st) (hs:R.Pairwise le) (hl:1<=R.length):Runs κ le a0 (Rs++[R]) r3 (setPending st ((pendingOf st).push (Rs.flatten.length,R.length,0))):=by
 have hsz:=h.size
 refine⟨h.kind,h.fail,by show (arrOf st).toList=_;rw[h.arr];simp,h.perm,fun X hX=> ?_,fun i=> ?_⟩
 ·rcases (lJr.mp hX) with z | z
  ·exact h.srt X z
  ·rw[lJs] at z;rw[z];exact⟨hs,hl⟩
 ·show ((pendingOf st).push _)[i]?.map _=_
  rw[Array.getElem?_push]
  by_cases c:i=(pendingOf st).size
  ·rw[lJc c,lK8 (by omega),show i-Rs.length=0 by omega,lQ0 (by omega),lQd (by omega)]
   rfl
  ·rw[lJb c,h.pend i]
   by_cases d:i<Rs.length
   ·rw[lK9 d,lQ0 (by omega)]
   ·rw[lK7 (by omega),lK7 (by simp;omega)];rfl
theorem Runs.pw {k:Nat} {f:Nat×Nat×Nat->Nat×Nat×Nat} (h:Runs κ le a0 Rs rest st) (hf:∀x,((f x).1,(f x).2.1)=(x.1,x.2.1)):Runs κ le a0 Rs rest (setPending st ((pendingOf st).modify k f)):=by
 refine⟨h.kind,h.fail,h.arr,h.perm,h.srt,fun i=> ?_⟩
 show ((pendingOf st).modify k f)[i]?.map _=_
 rw[<-h.pend i,Array.getElem?_modify]
 split
 ·rw[Option.map_map]
  congr 1
  funext x
  exact hf x
 ·rfl
theorem ite_lt {c:Prop} [Decidable c] {a b n:Nat} (ha:a+1<n) (hb:b+1<n):(if c then a else b)+1<n:=by
 split<;>assumption
theorem kU1:∀ {Rs:List (List Keyed)},(∀R,R∈Rs->1<=R.length)->Rs.length<=Rs.flatten.length
 | [],_=>lJg _
 | R::Rs,h=>by
  have:=kU1 (Rs:=Rs) fun X hX=>h X (lJ2 _ hX)
  have:=h R (lJ1 ..)
  rw[lX1,lKb,lJ9]
  omega
theorem Runs.len (h:Runs κ le a0 Rs rest st):Rs.flatten.length+rest.length=a0.size:=by
 have:=h.perm.length_eq
 rw[h.arr] at this
 simpa using this
theorem kQx (H:Asks M A s κ mem le) (hm:∀x,x∈(arrOf st).toList->mem x) (hk:kindOf st=κ) (hf:failedOf st=none) (hp:pendingOf st= #[]) (h1:1<=(arrOf st).size) {Q:Unit->SortSt->Prop} (q:∀st',(arrOf st').toList.Perm (arrOf st).toList->(arrOf st').toList.Pairwise le->failedOf st'=none->Q () st'):wpS M A E s sortRuns' Q st:=by
 rw[sortRuns'_eq]
 refine lJe (lQh ?_)
 dsimp only
 have R0:Runs κ le (arrOf st) [] (arrOf st).toList st:=⟨hk,hf,by simp,.refl _,fun R hR=>(nomatch hR),fun i=>by rw[hp];simp⟩
 refine lJe (lKp (lKq (I:=fun i (c:Option Unit×Nat) st'=>c.1=none/\∃Rs rest,Runs κ le (arrOf st) Rs rest st'/\c.2=Rs.flatten.length/\(i<=c.2\/(arrOf st).size<=c.2)) (Q:=fun (c:Option Unit×Nat) st'=>c.1=none/\∃Rs rest,Runs κ le (arrOf st) Rs rest st'/\c.2=Rs.flatten.length/\(arrOf st).size<=c.2) ?_ ?_ ⟨rfl,[],_,R0,rfl,.inl (lJ6 _)⟩) ?_)
 ·rintro i ⟨r,lo⟩ st1 _ hi ⟨rfl,Rs,rest,R1,rfl,hl⟩
  dsimp only at hl ⊢
  by_cases c:Rs.flatten.length>=(arrOf st).size
  ·rw[lJc c]
   exact lJh ⟨rfl,Rs,rest,R1,rfl,c⟩
  rw[lJb c]
  have hs1:(arrOf st1).size=(arrOf st).size:=by have:=R1.perm.length_eq;simpa using this
  have hm1:∀x,x∈(arrOf st1).toList->mem x:=fun x hx=>hm x (R1.perm.mem_iff.mp hx)
  have B0:SB κ (arrOf st1) Rs.flatten.length (arrOf st1).size (pendingOf st1) st1:=⟨R1.kind,R1.fail,rfl,Array.Perm.refl _,fun _ _=>rfl⟩
  refine lJe (kUq H hm1 B0 (by omega) (by omega) (lJg _) fun n st2 B2 n1 n2 S2=> ?_)
  dsimp only
  by_cases cm:n<minRun' (arrOf st).size (arrOf st).size 0
  ·rw[lJc cm]
   (refine lJe (wpS_lift (lK6 ⟨rfl,?_⟩)))
   have hq1:n<=min ((arrOf st).size-Rs.flatten.length) (minRun' (arrOf st).size (arrOf st).size 0):=by omega
   have hq2:min ((arrOf st).size-Rs.flatten.length) (minRun' (arrOf st).size (arrOf st).size 0)<=(arrOf st).size-Rs.flatten.length:=Nat.min_le_left ..
   generalize min ((arrOf st).size-Rs.flatten.length) (minRun' (arrOf st).size (arrOf st).size 0)=n3 at hq1 hq2 ⊢
   refine lJe (kKf H hm1 B2 n1 hq1 (by omega) (lJg _) S2 fun st3 B3 S3=> ?_)
   rw[lJb (by decide)]
   obtain⟨R,r3,hRl,hRs,R3⟩:=R1.add rfl B3 (by omega) S3
   have hR1:1<=R.length:=by omega
   refine lJe (lQh ?_)
   cases hb:(pendingOf st3).back? with
   | none=>
    rw[<-hRl]
    exact wpS_bind (wpS_modify (wpS_pure ⟨rfl,_,_,R3.push hRs hR1,by simp,by dsimp only;omega⟩))
   | some x=>
    obtain⟨x1,x2,x3⟩:=x
    dsimp only
    refine lJe (lKp (lKq (I:=fun _ (c:Option Unit×Unit) st'=>c=(none,())/\∃Rs',Runs κ le (arrOf st) Rs' (R++r3) st'/\Rs'.flatten.length=Rs.flatten.length) (Q:=fun (c:Option Unit×Unit) st'=>c=(none,())/\∃Rs',Runs κ le (arrOf st) Rs' (R++r3) st'/\Rs'.flatten.length=Rs.flatten.length) ?_ (fun _ _ z=>z) ⟨rfl,Rs,R3,rfl⟩) ?_)
    ·rintro i' c st4 _ hi' ⟨rfl,Rs4,R4,hl4⟩
     refine lJe (lQh ?_)
     have hsz:=R4.size
     by_cases c:(pendingOf st4).size>1
     ·rw[lJc c,lQb (by omega)]
      dsimp only
      split
      ·exact lJh ⟨rfl,Rs4,R4,hl4⟩
      ·refine lJe (R4.merge H hm (by omega) fun Rs' st' R' e1 e2=> ?_)
       rw[lJb (by decide)]
       exact lJh ⟨rfl,Rs',R',by omega⟩
     ·rw[lJb c]
      exact lJh ⟨rfl,Rs4,R4,hl4⟩
    ·rintro c st4 ⟨rfl,Rs4,R4,hl4⟩
     dsimp only
     have R5:=fun pw:Nat=>R4.pw (k:=(pendingOf st4).size-1) (f:=fun x=>(x.1,x.2.1,pw)) fun _=>rfl
     refine lJe (lKm (lJe (lKm ?_)))
     rw[<-hl4,<-hRl]
     exact wpS_pure ⟨rfl,_,_,(R5 _).push hRs hR1,by simp,by dsimp only;omega⟩
  ·rw[lJb cm]
   obtain⟨st3,rfl⟩:∃x,x=st2:=⟨_,rfl⟩
   have B3:=B2
   have S3:=S2
   obtain⟨R,r3,hRl,hRs,R3⟩:=R1.add rfl B3 (by omega) S3
   have hR1:1<=R.length:=by omega
   refine lJe (lQh ?_)
   cases hb:(pendingOf st3).back? with
   | none=>
    rw[<-hRl]
    exact wpS_bind (wpS_modify (wpS_pure ⟨rfl,_,_,R3.push hRs hR1,by simp,by dsimp only;omega⟩))
   | some x=>
    obtain⟨x1,x2,x3⟩:=x
    dsimp only
    refine lJe (lKp (lKq (I:=fun _ (c:Option Unit×Unit) st'=>c=(none,())/\∃Rs',Runs κ le (arrOf st) Rs' (R++r3) st'/\Rs'.flatten.length=Rs.flatten.length) (Q:=fun (c:Option Unit×Unit) st'=>c=(none,())/\∃Rs',Runs κ le (arrOf st) Rs' (R++r3) st'/\Rs'.flatten.length=Rs.flatten.length) ?_ (fun _ _ z=>z) ⟨rfl,Rs,R3,rfl⟩) ?_)
    ·rintro i' c st4 _ hi' ⟨rfl,Rs4,R4,hl4⟩
     refine lJe (lQh ?_)
     have hsz:=R4.size
     by_cases c:(pendingOf st4).size>1
     ·rw[lJc c,lQb (by omega)]
      dsimp only
      split
      ·exact lJh ⟨rfl,Rs4,R4,hl4⟩
      ·refine lJe (R4.merge H hm (by omega) fun Rs' st' R' e1 e2=> ?_)
       rw[lJb (by decide)]
       exact lJh ⟨rfl,Rs',R',by omega⟩
     ·rw[lJb c]
      exact lJh ⟨rfl,Rs4,R4,hl4⟩
    ·rintro c st4 ⟨rfl,Rs4,R4,hl4⟩
     dsimp only
     have R5:=fun pw:Nat=>R4.pw (k:=(pendingOf st4).size-1) (f:=fun x=>(x.1,x.2.1,pw)) fun _=>rfl
     refine lJe (lKm (lJe (lKm ?_)))
     rw[<-hl4,<-hRl]
     exact wpS_pure ⟨rfl,_,_,(R5 _).push hRs hR1,by simp,by dsimp only;omega⟩
 ·rintro⟨r,lo⟩ st1 ⟨rfl,Rs,rest,R1,hlo,hl⟩
  refine⟨rfl,Rs,rest,R1,hlo,?_⟩
  rw[Nat.zero_max] at hl
  omega
 ·rintro⟨r,lo⟩ st1 ⟨rfl,Rs,rest,R1,hlo,hl⟩
  dsimp only at hlo hl ⊢
  have hL:=R1.len
  refine lJe (lKp (lKq (I:=fun i (c:Option Unit×Unit) st'=>c=(none,())/\∃Rs,Runs κ le (arrOf st) Rs rest st'/\Rs.flatten.length=lo/\Rs.length<=max 1 ((arrOf st).size-i)) (Q:=fun (c:Option Unit×Unit) st'=>c=(none,())/\∃Rs,Runs κ le (arrOf st) Rs rest st'/\Rs.flatten.length=lo/\Rs.length<=1) ?_ ?_ ⟨rfl,Rs,R1,hlo.symm,by have:=kU1 fun R hR=>(R1.srt R hR).2;omega⟩) ?_)
  ·rintro i c st2 _ hi ⟨rfl,Rs2,R2,hl2,hn2⟩
   refine lJe (lQh ?_)
   have hsz:=R2.size
   by_cases c:(pendingOf st2).size<=1
   ·rw[lJc c]
    exact lJh ⟨rfl,Rs2,R2,hl2,by omega⟩
   ·rw[lJb c]
    refine lJe (R2.merge H hm (ite_lt (by omega) (by omega)) fun Rs' st' R' e1 e2=> ?_)
    rw[lJb (by decide)]
    exact lJh ⟨rfl,Rs',R',by omega,by omega⟩
  ·rintro c st2 ⟨rfl,Rs2,R2,hl2,hn2⟩
   exact⟨rfl,Rs2,R2,hl2,by omega⟩
  ·rintro c st2 ⟨rfl,Rs2,R2,hl2,hn2⟩
   dsimp only
   have hr:rest=[]:=lQx.mp (by omega)
   refine lJh (q st2 R2.perm ?_ R2.fail)
   rw[R2.arr,hr,lKz]
   cases Rs2 with
   | nil=>simp at hl2;omega
   | cons R Rs3=>
    obtain rfl:Rs3=[]:=by simpa using hn2
    simp
    exact (R2.srt R (by simp)).1
end
end L3
namespace L3
open PySem PySem.Spec PyProof.Rows L2 PySem.W
section
variable {prog:Program} {w:World} {A:Around} {E:Value->Shared->Prop} {s:Shared}
theorem kXc {a n:Nat} {b:Bool} {es:List (TKey×Addr)} (ho:s.heap.get? a=some (seqObj "list" (List.toArray (es.map fun e=>Value.ref e.2)) n)) (hu:A.units+6<cLine) (h:∀e,e∈es->(jJm prog w).is s.heap e.1 e.2/\kK7 e.1 b/\intT e.1=true) (hlt:∀e,e∈es->∀e',e'∈es->(ltK e.1 e'.1).isSome=true) (h64:es.length<=16000000) {P:PySem.Fin->Shared->Prop}
  (k:∀(es':List (TKey×Addr)) (h':Heap) (c:Nat),es'.Perm es->es'.Pairwise (fun x y=>ltK y.1 x.1≠some true)->h'.get? a=some (seqObj "list" (List.toArray (es'.map fun e=>Value.ref e.2)) c)->(∀p o,p≠a->s.heap.get? p=some o->h'.get? p=some o)->P (.done (.ret .none)) {s with heap:=h'}):wpAny (model prog w) A (Builtin.«list.sort» ⟨[.ref a],[]⟩) P E s:=by
 (have ha:a<s.heap.objs.size:=lJi ho)
 have hlen:(es.map fun e=>Value.ref e.2).length=es.length:=lJf ..
 rw[list_sort_plain]
 (refine lJa (listItems_at ho rfl ?_))
 refine lJa (listUpdate_at ho rfl ?_ (by rw[lJu,hlen,lKs];omega) (lJ6 _))
 (obtain⟨e1,ho1⟩:∃e1,(s.heap.update a (Obj.mapSeq fun _=>(#[]:Array Value))).get? a=some (seqObj "list" #[] e1):=⟨_,get?_update_seq ho fun _=> #[]⟩)
 (refine lJa (seqEpoch_at ho1 rfl ?_))
 refine lJa (wpAny_newTuple ?_ (by show (es.map fun e=>Value.ref e.2).length<=_;rw[hlen,lKs];omega))
 (refine lJa (wpAny_newList ?_ (lJ6 _)))
 refine lKy ?_
 generalize hg:((s.heap.update a (Obj.mapSeq fun _=>(#[]:Array Value))).push (seqObj "tuple" (List.toArray (es.map fun e=>Value.ref e.2)) 0)).push (seqObj "list" #[] 0)=h1
 refine (show wpAny (model prog w) A _ P E {s with heap:=h1} from ?_)
 have oth:∀p o,p≠a->s.heap.get? p=some o->h1.get? p=some o:=by
  intro p o hp e
  rw[<-hg]
  exact lJl _ (lJl _ ((lYb _ _ _ _ hp).trans e))
 have ho6:h1.get? a=some (seqObj "list" #[] e1):=by
  rw[<-hg]
  exact lJl _ (lJl _ ho1)
 have tk:jZn s.heap h1:=by
  intro p o e hc
  refine oth p o ?_ e
  rintro rfl
  rw[ho] at e;cases e
  exact absurd hc (show ¬ Value.type "list"=Value.type "tuple" by decide)
 have hk1:∀e,e∈es->(jJm prog w).is h1 e.1 e.2/\kK7 e.1 b/\intT e.1=true:=fun e he=>⟨jVt tk (h e he).1,(h e he).2⟩
 have fin:∀(out:List (TKey×Addr)),out.Perm es->out.Pairwise (fun x y=>ltK y.1 x.1≠some true)->∀st':SortSt,(arrOf st').map (·.2)=List.toArray (out.map fun e=>Value.ref e.2)->failedOf st'=none->
   wpAny (model prog w) A (do
    let touched:=(<-seqEpoch a) != e1
    Builtin.List.listUpdate (.ref a) fun _=>(arrOf st').map (·.2)
    if let some e:=failedOf st' then rule "list.sort.comparison-raised"; throw e
    if (touched) then rule "list.sort.modified"; raiseError "ValueError" "list modified during sort"
    ret .none) P E {s with heap:=h1}:=by
  intro out hp hs st' hout hf
  rw[hout,hf]
  have hol:out.length=es.length:=hp.length_eq
  refine lJa (seqEpoch_at (s:={s with heap:=h1}) ho6 rfl ?_)
  refine lJa (listUpdate_at (s:={s with heap:=h1}) ho6 rfl ?_ (lJ6 _) (by rw[lJu,lJf,hol,lKs];omega))
  (simp only[bne_self_eq_false,lKn,lKj])
  refine lJd (k out _ _ hp hs (get?_update_seq ho6 fun _=>List.toArray (out.map fun e=>Value.ref e.2)) fun p o hpa e=>(lYb _ _ _ _ hpa).trans (oth p o hpa e))
 dsimp only
 by_cases h2:(List.toArray (es.map fun e=>Value.ref e.2)).size<2
 ·rw[lJc h2,lJc h2]
  refine lJa (lJd ?_)
  rw[StateT.run_pure]
  refine lJa (lJd ?_)
  refine fin es (.refl _) ?_ _ ?_ rfl
  ·rw[lJu,hlen] at h2
   match es,h2 with
   | [],_=>exact .nil
   | [_],_=>exact List.pairwise_singleton _ _
  ·apply Array.toList_inj.mp
   show (((List.toArray (es.map fun e=>Value.ref e.2)).zip (List.toArray (es.map fun e=>Value.ref e.2))).map (·.2)).toList=_
   rw[Array.toList_map,ksk_zip,List.map_snd_zip (lJg _)]
 ·rw[lJb h2,lJb h2]
  rw[lJu,hlen] at h2
  refine lJa (qXi (s:={s with heap:=h1}) hk1 (by omega) ?_)
  let f:TKey×Addr->Keyed:=fun e=>(Value.ref e.2,Value.ref e.2)
  let mem:Keyed->Prop:=fun x=>∃e,e∈es/\x=f e
  let le:Keyed->Keyed->Prop:=fun x y=>∀e e',e∈es->e'∈es->x=f e->y=f e'->ltK e'.1 e.1≠some true
  have one:∀e e',e∈es->e'∈es->f e=f e'->e.1=e'.1:=fun e e' he he' z=>by
   have z1:Value.ref e.2=Value.ref e'.2:=lKo Prod.fst z
   have z2:e.2=e'.2:=by cases e;cases e';cases z1;rfl
   have a1:=(hk1 e he).1
   rw[z2] at a1
   exact (jJm prog w).inj a1 (hk1 e' he').1
  have le_iff:∀e e',e∈es->e'∈es->(le (f e) (f e')↔ltK e'.1 e.1≠some true):=fun e e' he he'=>
   ⟨fun z=>z e e' he he' rfl rfl,fun z d d' hd hd' q q'=>by rw[<-one e d he hd q,<-one e' d' he' hd' q'];exact z⟩
  haveI:∀x y,Decidable (le x y):=fun x y=>Classical.propDecidable _
  have HA:Asks (model prog w) A {s with heap:=h1} (tuples' b) mem le:=by
   refine⟨?_,?_,?_⟩
   ·rintro x y ⟨e,he,rfl⟩ ⟨e',he',rfl⟩ E' Q hQ
    obtain⟨c,hc⟩:=lVe.mp (hlt e he e' he')
    refine ask_ok (s:={s with heap:=h1}) hu (hk1 e he).1 (hk1 e' he').1 hc (hk1 e he).2.1 (hk1 e' he').2.1 ?_
    have:(!decide (le (f e') (f e)))=c:=by
     by_cases z:le (f e') (f e)
     ·rw[lJ5 z]
      have:=(le_iff e' e he' he).mp z
      rw[hc] at this
      cases c with
      | false=>rfl
      | true=>exact absurd rfl this
     ·rw[lJw z]
      cases c with
      | true=>rfl
      | false=>exact absurd ((le_iff e' e he' he).mpr (by rw[hc];simp)) z
    rw[this] at hQ
    exact hQ
   ·rintro x y ⟨e,he,rfl⟩ ⟨e',he',rfl⟩
    rw[le_iff e e' he he',le_iff e' e he' he]
    by_cases z:ltK e'.1 e.1=some true
    ·right
     intro z2
     have:=kZr z z2
     rw[show ltK e'.1 e'.1=some false from kVh _] at this
     cases this
    ·exact .inl z
   ·rintro x y z ⟨e,he,rfl⟩ ⟨e',he',rfl⟩ ⟨d,hd,rfl⟩ h1' h2'
    rw[le_iff e e' he he'] at h1'
    rw[le_iff e' d he' hd] at h2'
    rw[le_iff e d he hd]
    intro q
    by_cases eqk:d.1=e'.1
    ·rw[eqk] at q;exact h1' q
    ·obtain⟨c,hc⟩:=lVe.mp (hlt d hd e' he')
     cases c with
     | true=>exact h2' hc
     | false=>
      have:=kord.neg eqk hc
      exact h1' (kZr this q)
  have hz:((List.toArray (es.map fun e=>Value.ref e.2)).zip (List.toArray (es.map fun e=>Value.ref e.2))).toList=es.map f:=by
   rw[ksk_zip,List.zip_map']
  have key:wpS (model prog w) A E {s with heap:=h1} sortRuns' (fun _ st'=>∃es':List (TKey×Addr),es'.Perm es/\es'.Pairwise (fun x y=>ltK y.1 x.1≠some true)/\(arrOf st').map (·.2)=List.toArray (es'.map fun e=>Value.ref e.2)/\failedOf st'=none) (SortSt.mk' (tuples' b) ((List.toArray (es.map fun e=>Value.ref e.2)).zip (List.toArray (es.map fun e=>Value.ref e.2))) #[] 7 none):=by
   refine kQx HA (fun x hx=> ?_) rfl rfl rfl ?_ fun st' p1 p2 p3=> ?_
   ·have hx':x∈es.map f:=by rw[<-hz];exact hx
    obtain⟨e,he,rfl⟩:=lJj.mp hx'
    exact⟨e,he,rfl⟩
   ·show 1<=((List.toArray (es.map fun e=>Value.ref e.2)).zip (List.toArray (es.map fun e=>Value.ref e.2))).size
    rw[<-lKf,hz,lJf];omega
   ·obtain⟨es',hp,he⟩:=jVm p1 es hz
    refine⟨es',hp,?_,?_,p3⟩
    ·rw[he,lXm] at p2
     exact p2.imp_of_mem fun ha hb z=>(le_iff _ _ (hp.mem_iff.mp ha) (hp.mem_iff.mp hb)).mp z
    ·apply Array.toList_inj.mp
     rw[Array.toList_map,he,lJ4]
     rfl
  unfold wpS at key
  refine lJa (lQf key ?_ fun _ _ x=>x)
  rintro⟨⟨⟩,st'⟩ s' ⟨rfl,es',hp,hs,har,hf⟩
  exact fin es' hp hs st' har hf
end
section
variable {prog:Program} {w:World} {A:Around} {E:Value->Shared->Prop} {s:Shared}
theorem kKm {l:Addr} {b:Bool} {es:List (TKey×Addr)} {Q:Value->Shared->Prop} (hl:s.heap.IsList l (List.toArray (es.map fun e=>Value.ref e.2))) (hu:A.units+20<cLine) (h:∀e,e∈es->(jJm prog w).is s.heap e.1 e.2/\kK7 e.1 b/\intT e.1=true) (hlt:∀e,e∈es->∀e',e'∈es->(ltK e.1 e'.1).isSome=true) (hn:es.length<=1000000)
  (k:∀(es':List (TKey×Addr)) (h':Heap) (D c:Nat),es'.Perm es->es'.Pairwise (fun x y=>ltK y.1 x.1≠some true)->s.heap.objs.size<=D->h'.get? D=some (seqObj "list" (List.toArray (es'.map fun e=>Value.ref e.2)) c)->(∀p o,s.heap.get? p=some o->h'.get? p=some o)->Q (.ref D) {s with heap:=h'}):wpAny (model prog w) A (call (.builtin "sorted") [.ref l]) Q E s:=by
 (refine Calls.call_function_entry kind_sorted plain_sorted entry_sorted (args_sorted1 _) ?_)
 unfold Builtin.«sorted»
 (refine lJa (m:=checkCount "sorted" 1 1 _) (lJd ?_))
 refine lJa (collect_list hl ?_ (by rw[lJf,lKs];omega))
 have kp:∀p o,s.heap.get? p=some o->((s.heap.push (seqObj "list" #[] 0)).update s.heap.objs.size (Obj.mapSeq (· ++(es.map fun e=>Value.ref e.2).toArray))).get? p=some o:=fun p o e=>
  (lYb _ _ _ _ (lJm (lJi e))).trans (lJl _ e)
 have big:s.heap.objs.size<=((s.heap.push (seqObj "list" #[] 0)).update s.heap.objs.size (Obj.mapSeq (· ++(es.map fun e=>Value.ref e.2).toArray))).objs.size:=by
  rw[Heap.size_update,size_push'];omega
 generalize (s.heap.push (seqObj "list" #[] 0)).update s.heap.objs.size (Obj.mapSeq (· ++(es.map fun e=>Value.ref e.2).toArray))=g at kp big ⊢
 refine lJa (wpAny_newList ?_ (by rw[lJf,lKs];omega))
 have hoL:(g.push (seqObj "list" (List.toArray (es.map fun e=>Value.ref e.2)) 0)).get? g.objs.size=some (seqObj "list" (List.toArray (es.map fun e=>Value.ref e.2)) 0):=lJ8 _ rfl
 refine lJa (lKy (lQs slot_list_sort ⟨_,hoL,rfl⟩ entry_list_sort ?_ (args_list_sort _)))
 refine kXc (s:={s with heap:=g.push (seqObj "list" (List.toArray (es.map fun e=>Value.ref e.2)) 0)}) (b:=b) hoL (by rw[lQ1,lQ1];omega) (fun e he=> ?_) hlt (by omega) fun es' h' c pe' so hD oth=> ?_
 ·exact⟨jVt (fun b ob e _=>lJl _ (kp b ob e)) (h e he).1,(h e he).2⟩
 ·refine⟨_,rfl,lJd ⟨_,rfl,k es' h' _ c pe' so big hD fun q ob e=>oth q ob ?_ (lJl _ (kp q ob e))⟩⟩
  exact lJm (lJ7 (lJi e) big)
end
section
variable {X:Cx}
noncomputable def qUu:List T->Gp->VK3->Prop:=fun xs G Q=>∃(x:T) (b:Bool) (tks:List (List T×TKey)),xs=[x]/\jKt G x=some (tks.map fun e:List T×TKey=> .tup e.1)/\tks.length<=1000000/\(∀e,e∈tks->SKey b e.1 e.2)/\(∀e,e∈tks->∀e',e'∈tks->(ltK e.2 e'.2).isSome=true)/\
 ∀(p:Addr) (kys:List (List T×TKey)),G p=none->kys.Perm tks->kys.Pairwise (fun x y=>ltK y.2 x.2≠some true)->Q (.ref p) (gup G p (.lst (kys.map fun e=> .tup e.1)))
theorem qYj (hu:X.A.units+20<cLine):Call3 X (.builtin "sorted") qUu:=by
 rintro pins s τ G H xs us Q ⟨σ,I,hs,hg⟩ ⟨as,ras,rvs⟩ ⟨x,b,tks,ex,hx,hn,hk,hlt,q⟩
 subst ex
 obtain⟨v,rfl,rv⟩:=jUs ras
 obtain⟨u,rfl,ru⟩:=rvs.one
 obtain⟨pa,vs,rfl,hq,r⟩:=jK7 hg rv hx
 cases ru
 obtain⟨its,rvv,pl,hz⟩:=I.list hq
 obtain⟨tb,t1,t2,t3,t4⟩:=kYa hk r rvv
 have tl:tb.length=tks.length:=by rw[<-t1,lJf]
 have hmem:∀e,e∈tb->e.1∈tks:=fun e he=>by rw[<-t1];exact lJj.mpr ⟨e,he,rfl⟩
 have hl:s.heap.IsList pa (List.toArray ((tb.map fun e=>(e.1.2,e.2)).map fun e=>Value.ref e.2)):=by
  have:=pl.isList
  rw[t3] at this
  rw[lJ4];exact this
 refine kKm (b:=b) hl hu (fun e he=> ?_) (fun e he e' he'=> ?_) (by rw[lJf];omega) fun es h3 D c hp so hD hoD kp=> ?_
 ·obtain⟨y,hy,rfl⟩:=lJj.mp he
  exact⟨jZa I.hok (t4 y hy).1,(hk _ (hmem y hy)).2⟩
 ·obtain⟨y,hy,rfl⟩:=lJj.mp he
  obtain⟨y',hy',rfl⟩:=lJj.mp he'
  exact hlt _ (hmem y hy) _ (hmem y' hy')
 obtain⟨tb',p1,p2⟩:=jVm hp tb rfl
 have fr:=I.hok.fresh hD
 have I3:=I.laid (a:=D) (o:= .lst (tb'.map fun e=>V.ref e.2)) (h':=h3) (t':=s.toks) kp hD ⟨by rw[lJf,lKs,p1.length_eq];omega,tb'.map fun e=>Value.ref e.2,c,jZy tb',by rw[p2,lJ4] at hoD;exact hoD⟩
 have ext:Ext H (upd H D (.lst (tb'.map fun e=>V.ref e.2))):= .upd (.none fr)
 refine⟨.ref D,_,_,ext,⟨σ,I3,hs.mono ext,hg.lstNew (kYo tb' fun e he=>(t4 e (p1.mem_iff.mp he)).2) (.none fr)⟩,⟨.ref D,rfl,rfl⟩,?_⟩
 have:=q D (tb'.map (·.1)) (hg.fresh fr) (by rw[<-t1];exact p1.map _) (by rw[p2,lXm] at so;rw[lXm];exact so)
 rw[lJ4] at this
 exact this
end
end L3
namespace L3
open PySem PySem.Spec PyProof.Rows L2
section
variable {X:Cx}
end
section
variable {prog:Program} {w:World} {A:Around} {E:Value->Shared->Prop} {s:Shared}
structure DmAt (prog:Program) (w:World) (h:Heap) (l:Addr) (ts:List Addr) (ps:List (TKey×Addr×Value)):Prop where
 li:h.IsList l (ts.map Value.ref).toArray
 len:ts.length=ps.length
 at_:∀(i:Nat) t p,ts[i]? =some t->ps[i]? =some p->IsTup h t #[.ref p.2.1,p.2.2]
 key:∀p,p∈ps->(jJm prog w).is h p.1 p.2.1
theorem DmAt.moved {h h':Heap} {l:Addr} {ts:List Addr} {ps:List (TKey×Addr×Value)} (a:DmAt prog w h l ts ps) (k:∀b o,h.get? b=some o->(o.cls= .type "tuple"\/b=l)->h'.get? b=some o):DmAt prog w h' l ts ps:=
 ⟨a.li.at fun o e=>k _ o e (.inr rfl),a.len,fun i t p e1 e2=>let ⟨o,ho,hc,r⟩:=a.at_ i t p e1 e2;⟨o,k _ o ho (.inl hc),hc,r⟩,fun p hp=>jVt (fun b o e c=>k b o e (.inl c)) (a.key p hp)⟩
def dmF (ps:List (TKey×Addr×Value)):List (TKey×Addr×Value):=ps.foldl (fun xs p=>storedH xs p.1 p.2.1 p.2.2) []
theorem qVo {xs:List (TKey×Addr×Value)} {k:TKey} {a:Addr} {v:Value}:(storedH xs k a v).length<=xs.length+1:=by
 unfold storedH
 split<;>simp
theorem kV0 {ps:List (TKey×Addr×Value)} {i:Nat} {p:TKey×Addr×Value} (h:ps[i]? =some p):dmF (ps.take (i+1))=storedH (dmF (ps.take i)) p.1 p.2.1 p.2.2:=by
 unfold dmF
 rw[lK3,h,lQ8];rfl
theorem kKc {ps:List (TKey×Addr×Value)}:∀i,(dmF (ps.take i)).length<=i
 | 0=>by simp[dmF]
 | i+1=>by
  cases h:ps[i]? with
  | none=>
   have:=kKc (ps:=ps) i
   have hl:ps.length<=i:=List.getElem?_eq_none_iff.mp h
   rw[lQd (by omega)]
   rw[lQd hl] at this
   omega
  | some p=>
   rw[kV0 h]
   have:=kKc (ps:=ps) i
   have:=qVo (xs:=dmF (ps.take i)) (k:=p.1) (a:=p.2.1) (v:=p.2.2)
   omega
theorem qJr {h h':Heap} {d:Addr} {xs:List (TKey×Addr×Value)} (hd:h.DictOfH (jJm prog w) d xs) (k:∀o,h.get? d=some o->h'.get? d=some o) (tk:jZn h h'):h'.DictOfH (jJm prog w) d xs:=by
 obtain⟨o,es,ep,h1,h2,h3,h4,h5,h6⟩:=hd
 exact⟨o,es,ep,k o h1,h2,h3,h4,fun x hx=>jVt tk (h5 x hx),h6⟩
theorem qX8 {R:Result->Shared->Prop} {it l d:Addr} {ts:List Addr} {ps:List (TKey×Addr×Value)} (hu:(jJm prog w).room A.in1) (hh:A.handled=none) (dl:d≠l) (di:d≠it) (li:l≠it) (hs:ps.length<=sizeLine):
  ∀(k i:Nat) (s:Shared) (j:Int) (jt:Tok),ps.length-i=k->i<=ps.length->DmAt prog w s.heap l ts ps->s.heap.IsListIter it l i->s.heap.DictOfH (jJm prog w) d (dmF (ps.take i))->
   (∀h' t',h'.DictOfH (jJm prog w) d (dmF ps)->(∀b o,b≠d->b≠it->s.heap.get? b=some o->h'.get? b=some o)->R (.ok (.ret .none)) {s with heap:=h',toks:=t'})->
   codeAny (model prog w) A (.builtin "dict.update.loop" ⟨[.ref d,.ref it,.int j jt,.none],[]⟩) R s:=by
 intro k
 induction k with
 | zero=>
  intro i s j jt hk hi a hit hd hR
  have hin:i=ps.length:=by omega
  subst hin
  refine lQm jYe ?_
  rw[lQq jQx _]
  refine (show wpAny _ A.in1 (pyNext (.ref it) >>= _) _ _ s from ?_)
  refine lJa (wpAny_pyNext_list_end (A:=A.in1) (by simpa using hh) hit a.li (by have:=a.len;simp;omega) fun h' kp=> ?_)
  refine (show wpAny _ A.in1 (Builtin.Dict.addKeywords d [] >>= _) _ _ _ from lJa (lJd (lJd ?_)))
  rw[lQo] at hd
  have tne:∀b o,s.heap.get? b=some o->o.cls= .type "tuple"->b≠it:=fun b o ho hc=>by
   rintro rfl
   obtain⟨o',ho',hc',_⟩:=hit
   rw[ho] at ho';cases ho'
   rw[hc] at hc'
   exact absurd hc' (by decide)
  exact hR h' s.toks (qJr hd (fun o e=>kp d o di e) fun b o e c=>kp b o (tne b o e c) e) fun b o _ c1 e=>kp b o c1 e
 | succ k ih=>
  intro i s j jt hk hi a hit hd hR
  have hlt:i<ps.length:=by omega
  have hlt2:i<ts.length:=by rw[a.len];exact hlt
  have hpi:ps[i]? =some ps[i]:=lJp hlt
  refine lQm jYe ?_
  rw[lQq jQx _]
  refine (show wpAny _ A.in1 (pyNext (.ref it) >>= _) _ _ s from ?_)
  refine lJa (wpAny_pyNext_list_item (A:=A.in1) hit a.li (x:= .ref ts[i]) (by simp[hlt2]) fun h' hit' sb=> ?_)
  have tne:∀b o,s.heap.get? b=some o->o.cls= .type "tuple"->b≠it:=fun b o ho hc=>by
   rintro rfl
   obtain⟨o',ho',hc',_⟩:=hit
   rw[ho] at ho';cases ho'
   rw[hc] at hc'
   exact absurd hc' (by decide)
  have kp1:∀b o,s.heap.get? b=some o->(o.cls= .type "tuple"\/b=l)->h'.get? b=some o:=fun b o e z=>(sb.2 b (z.elim (fun hc=>tne b o e hc) fun q=>by rw[q];exact li)).trans e
  have a':=a.moved kp1
  have hd':h'.DictOfH (jJm prog w) d (dmF (ps.take i)):=qJr hd (fun o e=>(sb.2 d di).trans e) fun b o e c=>kp1 b o e (.inl c)
  have tp':IsTup h' ts[i] #[.ref ps[i].2.1,ps[i].2.2]:=a'.at_ i _ _ (lJp hlt2) hpi
  have hl':(dmF (ps.take i)).length<=sizeLine:=by have:=kKc (ps:=ps) i;omega
  refine lJa (lKy (lJa (wpAny_tryCatch (qJt (s:={s with heap:=h'}) tp' (lKy (wpAny_dictSet_heap (s:={s with heap:=h'}) (hsz:=hl') (knd:=jJm prog w) hu (a'.key _ (lXn hlt)) hd' (fun h2 hd2 sb2=> ?_)))))))
  rw[<-kV0 hpi] at hd2
  have dne:∀b o,h'.get? b=some o->o.cls= .type "tuple"->b≠d:=fun b o ho hc=>by
   rintro rfl
   obtain⟨o',_,_,ho',hc',_⟩:=hd'
   rw[ho'] at ho;cases ho
   rw[hc'.1] at hc
   exact absurd hc (by decide)
  refine lJd ⟨lQt jQx _,ih (i+1) _ _ _ (by omega) hlt (a'.moved fun b o e z=>(sb2.2 b (z.elim (fun hc=>dne b o e hc) fun q=>by rw[q];exact dl.symm)).trans e) (hit'.at fun o e=>(sb2.2 it di.symm).trans e) hd2 fun h3 t3 hd3 kp3=>hR h3 t3 hd3 fun b o c1 c2 e=>kp3 b o c1 c2 ((sb2.2 b c1).trans ((sb.2 b c2).trans e))⟩
theorem qX9 {l:Addr} {ts:List Addr} {ps:List (TKey×Addr×Value)} {c:Nat} (hu:A.units+20<cLine) (hh:A.handled=none) (hl:s.heap.get? l=some {cls:= .type "list",dict:=none,data:= .seq (ts.map Value.ref).toArray c,slots:= #[]}) (a:DmAt prog w s.heap l ts ps) (hs:ps.length<=sizeLine) {Q:Value->Shared->Prop}
  (k:∀h' t',h'.DictOfH (jJm prog w) s.heap.objs.size (dmF ps)->(∀b o,s.heap.get? b=some o->h'.get? b=some o)->Q (.ref s.heap.objs.size) {s with heap:=h',toks:=t'}):
  wpAny (model prog w) A (call (.type "dict") [.ref l]) Q E s:=by
 refine callType_codes (Q₁:=fun obj s₁=>obj= .ref s.heap.objs.size/\s₁={s with heap:=s.heap.push {cls:= .type "dict",data:= .dict #[]} }) PySem.F.kt_called_dict (PySem.F.kt_typeCall_dict_1 _) PySem.F.entry_dict_init (kt_code_dict_new _ ⟨rfl,rfl⟩) ?_
 rintro obj s₁ ⟨rfl,rfl⟩
 have hn:(s.heap.push {cls:= .type "dict",data:= .dict #[]}).get? s.heap.objs.size=some {cls:= .type "dict",data:= .dict #[]}:=lJ8 _ rfl
 have hTn:Shared.TypeIs {s with heap:=s.heap.push {cls:= .type "dict",data:= .dict #[]} } (.ref s.heap.objs.size) "dict":=⟨_,hn,rfl⟩
 refine⟨hTn,PySem.F.args_dict_init_2 _ _,?_⟩
 (unfold Builtin.«dict.__init__»)
 refine lJa ?_
 (unfold Builtin.Dict.selfAndRest)
 refine lJa (wpAny_notOrdered_dict hTn ?_)
 refine (show wpAny _ _ (pure (s.heap.objs.size,[Value.ref l])) _ _ _ from ?_)
 refine lJd ?_
 refine (show wpAny _ _ (Builtin.Dict.updateFrom "dict.__init__" s.heap.objs.size (.ref l) [] .none) _ _ _ from ?_)
 (unfold Builtin.Dict.updateFrom)
 have up:∀b o,s.heap.get? b=some o->(s.heap.push {cls:= .type "dict",data:= .dict #[]}).get? b=some o:=fun b o e=>lJl _ e
 have hl0:=up _ _ hl
 have hTl:Shared.TypeIs {s with heap:=s.heap.push {cls:= .type "dict",data:= .dict #[]} } (.ref l) "list":=⟨_,hl0,rfl⟩
 refine lJa (lVs hTl ?_)
 rw[lJc (by decide)]
 refine lJa (kQb (s:={s with heap:=s.heap.push {cls:= .type "dict",data:= .dict #[]} }) (by simpa using hh) hl0 fun g tk kp=> ?_)
 simp only[Option.isNone_none,lKl]
 refine lJa (lK6 ?_)
 have kp':∀b o,s.heap.get? b=some o->g.get? b=some o:=fun b o e=>kp b o (up b o e)
 have a1:DmAt prog w g l ts ps:=a.moved fun b o e _=>kp' b o e
 refine lJa (lXy (s:={s with heap:=g,toks:=tk}) a1.li ?_)
 have hgn:=kp _ _ hn
 have gd:s.heap.objs.size<g.objs.size:=lJi hgn
 have ll:l<s.heap.objs.size:=lJi hl
 refine lJd ⟨lQt jQx _,qX8 (A:=A.in1) (ts:=ts) (ps:=ps) (l:=l) (show A.in1.in1.units+6<cLine by rw[lQ1,lQ1];omega) (by simpa using hh) (lK0 ll) (lJm gd) (lJm (lQw ll gd)) hs ps.length 0 _ _ _ (by omega) (lJ6 _) (a1.moved fun b o e _=>lJl _ e) ⟨_,lJ8 _ rfl,rfl,rfl⟩ ?_ fun h4 t4 hd4 kp4=>⟨rfl,k h4 t4 hd4 fun b o e=>kp4 b o (lJm (lJi e)) (lJm (lQw (lJi e) gd)) (lJl _ (kp' b o e))⟩⟩
 exact⟨_,#[],0,lJl _ hgn,⟨rfl,rfl,rfl⟩,rfl,rfl,fun x hx=>absurd hx lKc,List.nodup_nil⟩
end
structure ZZ where
 e:List T
 k:TKey
 x:T
 t:Addr
 a:Addr
 v:V
 u:Value
structure ZOk (X:Cx) (H:Hp) (s:Shared) (z:ZZ):Prop where
 ke:TKeyAt H z.k z.a
 re:Rep X.K H z.x z.v
 rv:RelV z.v z.u
 tp:IsTup s.heap z.t #[.ref z.a,z.u]
theorem zz_of {X:Cx} {pins:List (Addr×Obj)} {σ:L2.St} {H:Hp} {s:Shared} (I:Inv X pins σ H s):∀ {kys:List (List T×TKey×T)} {vs:List V},(∀e,e∈kys->jUj e.1=some e.2.1)->Reps X.K H (kys.map fun e=>T.tup [.tup e.1,e.2.2]) vs->
  ∃zs:List ZZ,kys=zs.map (fun z=>(z.e,z.k,z.x))/\vs=zs.map (fun z=>V.ref z.t)/\∀z,z∈zs->ZOk X H s z
 | [],_,_,h=>by cases h;exact⟨[],rfl,rfl,fun z hz=>absurd hz lKc⟩
 | e::kys,_,hk,⟨v,ws,ev,r,rs⟩=>by
  subst ev
  obtain⟨a,us,e1,h1,h2⟩:=(show ∃a us,v= .ref a/\H a=some (.tup us)/\Reps X.K H [.tup e.1,e.2.2] us from r)
  subst e1
  obtain⟨x,y,rfl,r1,r2⟩:=kXf h2
  obtain⟨b,ys,e2,h3,h4⟩:=(show ∃a us,x= .ref a/\H a=some (.tup us)/\Reps X.K H e.1 us from r1)
  subst e2
  obtain⟨zs,z1,z2,z3⟩:=zz_of I (fun e he=>hk e (lJ2 _ he)) rs
  obtain⟨its,rr,tp,_⟩:=I.tuple (.of h1)
  obtain⟨u,u2,rfl,ru,rv⟩:=rr.two
  cases (show u=Value.ref b from ru)
  refine⟨⟨e.1,e.2.1,e.2.2,a,b,y,u2⟩::zs,by rw[z1];rfl,by rw[z2];rfl,fun z hz=> ?_⟩
  rcases (lJk.mp hz) with rfl | hz
  ·exact⟨jQg (hk e (lJ1 ..)) h3 h4,r2,rv,tp⟩
  ·exact z3 z hz
theorem zz_kt {X:Cx} {H:Hp} {s:Shared}:∀ {zs:List ZZ} {ws:List (TKey×V)} {xs:List (TKey×Addr×Value)},(∀z,z∈zs->ZOk X H s z)->KT H ws xs->KT H (zs.foldl (fun ws z=>putK ws z.k z.v) ws) ((zs.map fun z=>(z.k,z.a,z.u)).foldl (fun xs p=>storedH xs p.1 p.2.1 p.2.2) xs)
 | [],_,_,_,r=>r
 | z::zs,ws,xs,h,r=>by
  have hz:=h z (lJ1 ..)
  exact zz_kt (zs:=zs) (fun y hy=>h y (lJ2 _ hy)) (r.put z.k hz.ke hz.rv)
theorem qUm {X:Cx} {H:Hp} {s:Shared}:∀ {zs:List ZZ} {kvs:List (TKey×T)} {ws:List (TKey×V)},(∀z,z∈zs->ZOk X H s z)->PKV X.K H kvs ws->PKV X.K H ((zs.map fun z=>(z.e,z.k,z.x)).foldl (fun kvs e=>putT kvs e.2.1 e.2.2) kvs) (zs.foldl (fun ws z=>putK ws z.k z.v) ws)
 | [],_,_,_,r=>r
 | z::zs,kvs,ws,h,r=>by
  have hz:=h z (lJ1 ..)
  exact qUm (zs:=zs) (fun y hy=>h y (lJ2 _ hy)) (PKV.put r z.k hz.re)
section
variable {X:Cx}
noncomputable def qUw:List T->Gp->VK3->Prop:=fun vs G1 Q=>∃(p:Addr) (kys:List (List T×TKey×T)),vs=[.ref p]/\G1 p=some (.lst (kys.map fun e=> .tup [.tup e.1,e.2.2]))/\(∀e,e∈kys->jUj e.1=some e.2.1)/\kys.length<=1000/\∀q,G1 q=none->Q (.ref q) (gup G1 q (.dct (kys.foldl (fun kvs e=>putT kvs e.2.1 e.2.2) [])))
theorem qYl (hc:X.calm=true) (hu:X.A.units+20<cLine):Call3 X (.type "dict") qUw:=by
 rintro pins s τ G H xs us Q ⟨σ,I,hs,hg⟩ ⟨as,ras,rvs⟩ ⟨p,kys,ex,hp,hk,hl,q⟩
 subst ex
 obtain⟨v,rfl,rv⟩:=jUs ras
 obtain⟨u,rfl,ru⟩:=rvs.one
 cases (show v= .ref p from rv)
 cases ru
 obtain⟨vs,h1,h2⟩:=hg.lst hp
 obtain⟨zs,z1,rfl,z3⟩:=zz_of I hk h2
 obtain⟨hz,its,n,r,hlen,e⟩:=I.lstM h1
 have ei:=jYk (ts:=zs.map (·.t)) (us:=its) (by rw[lJ4];exact r)
 subst ei
 have lk:kys.length=zs.length:=by rw[z1,lJf]
 have big:=I.big
 have hsl:=lKs
 refine qX9 (s:=s) (ts:=zs.map (·.t)) (ps:=zs.map fun z=>(z.k,z.a,z.u)) hu (I.ok.hd hc) e ⟨⟨_,e,rfl,_,rfl⟩,by rw[lJf,lJf],fun i t p e1 e2=> ?_,fun p hp=> ?_⟩ (by rw[lJf];omega) fun h' t' dd kp=> ?_
 ·rw[lJz] at e1 e2
  cases e3:zs[i]? with
  | none=>rw[e3] at e1;cases e1
  | some z=>rw[e3] at e1 e2;cases e1;cases e2;exact (z3 z (lJx e3)).tp
 ·obtain⟨z,hz',rfl⟩:=lJj.mp hp
  exact jZa I.hok (z3 z hz').ke
 ·have fr:=I.hok.fresh (lJg s.heap.objs.size)
  have kt:=zz_kt (ws:=[]) (xs:=[]) z3 .nil
  generalize hws:zs.foldl (fun ws z=>putK ws z.k z.v) []=ws at kt
  have ext:Ext H (upd H s.heap.objs.size (.dT ws)):= .upd (.none fr)
  obtain⟨o',es,ep,d1,d2,d3,d4,d5,d6⟩:=dd
  have hwl:ws.length<=sizeLine:=by
   have l1:=lQ2 kt
   have l2:=kKc (ps:=zs.map fun z=>(z.k,z.a,z.u)) (zs.map fun z=>(z.k,z.a,z.u)).length
   rw[lQo] at l2
   unfold dmF at l2
   rw[lJf] at l2
   omega
  have I3:=I.laid (a:=s.heap.objs.size) (o:= .dT ws) (h':=h') (t':=t') kp (lJg _) ⟨hwl,by simpa using (lK0 big),_,Paired.mapP kt fun p q z=>⟨z.1,z.2.1.mono fun b ys e=>ext.tup _ _ e,z.2.2⟩,o',es,ep,d1,d2,d3,d4,d6⟩
  have pk:=qUm (kvs:=[]) (ws:=[]) z3 .nil
  rw[<-z1,hws] at pk
  exact⟨.ref _,_,_,ext,⟨σ,I3,hs.mono ext,hg.upd (.none fr) (go:= .dct _) ⟨ws,jJ3,pk.mono ext⟩⟩,⟨.ref _,rfl,rfl⟩,q _ (hg.fresh fr)⟩
end
end L3
namespace L3
open PySem PySem.Spec PyProof.Rows L2 PySem.W
section
variable {X:Cx}
end
section
variable {prog:Program} {w:World} {A:Around} {E:Value->Shared->Prop} {s:Shared}
def entN (e:Int×Tok):Int×Value:=(hashInt e.1,.int e.1 e.2)
structure SetN (prog:Program) (w:World) (h:Heap) (a:Addr) (o:Obj) (arr:Array (Int×Value)) (ep:Nat) (t:SetTable) (es:List (Int×Tok)):Prop where
 get:h.get? a=some o
 exact_:o.ExactSet
 data:o.data= .set arr ep t
 arr_:arr.toList=es.map entN
 ris:St.Ris t.place
 len:t.place.size=es.length
 dum:t.dummies= #[]
 mask:MaskOk t.mask es.length
 plain:t.plain=true
theorem SetN.size {h:Heap} {a:Addr} {o:Obj} {arr:Array (Int×Value)} {ep:Nat} {t:SetTable} {es:List (Int×Tok)} (d:SetN prog w h a o arr ep t es):arr.size=es.length:=by
 rw[<-lKf,d.arr_,lJf]
theorem qJf {t:SetTable} {n:Nat} (hd:t.dummies= #[]) (hl:t.place.size=n) (hm:n<=t.mask):t.fits n=true:=by
 simp only[SetTable.fits,SetTable.fill,hd,hl,lK2,beq_iff_eq,lQg]
 exact⟨trivial,by simpa using hm⟩
theorem SetN.fits {h:Heap} {a:Addr} {o:Obj} {arr:Array (Int×Value)} {ep:Nat} {t:SetTable} {es:List (Int×Tok)} (d:SetN prog w h a o arr ep t es):t.fits arr.size=true:=
 qJf d.dum (d.len.trans d.size.symm) (by rw[d.size];exact d.mask.full.2.1)
theorem SetN.state {a:Addr} {o:Obj} {arr:Array (Int×Value)} {ep:Nat} {t:SetTable} {es:List (Int×Tok)} (d:SetN prog w s.heap a o arr ep t es) {Q:(Array (Int×Value)×Nat×SetTable)->Shared->Prop} (h:Q (arr,ep,t) s):wpAny (model prog w) A (setState a) Q E s:=
 wpAny_setState_of d.get d.data d.fits h
theorem SetN.move {h h':Heap} {a:Addr} {o:Obj} {arr:Array (Int×Value)} {ep:Nat} {t:SetTable} {es:List (Int×Tok)} (d:SetN prog w h a o arr ep t es) (hg:h'.get? a=some o):SetN prog w h' a o arr ep t es:=
 ⟨hg,d.exact_,d.data,d.arr_,d.ris,d.len,d.dum,d.mask,d.plain⟩
theorem SetN.elems {h:Heap} {a:Addr} {o:Obj} {arr:Array (Int×Value)} {ep:Nat} {t:SetTable} {es:List (Int×Tok)} (d:SetN prog w h a o arr ep t es):ElemsOf (intKind prog w) arr.toList:=by
 intro e he
 rw[d.arr_] at he
 obtain⟨x,_,rfl⟩:=lJj.mp he
 exact⟨⟨x.1,intKind_is _ _ _ _,rfl⟩,rfl⟩
theorem kXv {t:SetTable} {n:Nat} (hd:t.dummies= #[]) (hr:St.Ris t.place) (hl:t.place.size=n) (hm:MaskOk t.mask n) (h:Int):∃j,t.freeSlot h=some (j,false)/\j∉t.place.toList:=by
 obtain⟨hf,hmm,_⟩:=hm.full
 obtain⟨j,hj,ej⟩:=free_j (t:=t) hd (by omega)
 obtain⟨m,hm1,em⟩:=St.met hf h hj
 rcases St.pgo_ok hd (fun _=>h+1) h m (10*SetTable.turns t.mask) (t.probeStart h) (by rw[em];exact ej) (by unfold SetTable.turns;omega) rfl with ⟨q,_,e1,_,e3⟩ | ⟨q,i,_,_,e2,_⟩
 ·refine⟨(itr t.advance q (t.probeStart h)).j,?_,?_⟩
  ·unfold SetTable.freeSlot
   rw[show t.probe (fun _=>h+1) h (t.probeStart h)=_ from e3]
   rfl
  ·rcases St.slot_cases hd (itr t.advance q (t.probeStart h)).j with c | ⟨i,c,_⟩
   ·exact c.2 hr
   ·rw[c] at e1;cases e1
 ·exact absurd e2 (by omega)
def putN (p:Nat) (e:Int×Tok) (es:List (Int×Tok)):List (Int×Tok):=es.take p++e::es.drop p
theorem jY1 (p:Nat) (e:Int×Tok) (es:List (Int×Tok)):(putN p e es).Perm (e::es):=by
 unfold putN
 refine List.perm_middle.trans ?_
 rw[lKx]
theorem relayN {arr:Array (Int×Value)} {t:SetTable} {es:List (Int×Tok)} (ha:arr.toList=es.map entN) {wanted mask:Nat} (hw:SetTable.sizeAbove wanted-1=mask) (hM:MaskOk mask es.length):
  ∃(arr':Array (Int×Value)) (t':SetTable) (es':List (Int×Tok)),relayAll t arr wanted=(arr',t',false)/\es'.Perm es/\arr'.toList=es'.map entN/\St.Ris t'.place/\t'.place.size=es.length/\t'.dummies= #[]/\t'.mask=mask/\t'.led=t.led/\t'.plain=t.plain:=by
 have hsz:arr.size=es.length:=by rw[<-lKf,ha,lJf]
 obtain⟨hfull,hle,_⟩:=hM.full
 obtain⟨t',order,e1,e2,e3,e4,e5,e6⟩:=St.laid_ok hfull t.finger (t.movedTo mask) t.led t.plain (arr.map (·.1)) (by rw[Array.size_map,hsz];exact hle)
 have e1':t.relaid (arr.map (·.1)) wanted=some (t',order):=by unfold SetTable.relaid;rw[hw];exact e1
 rw[Array.size_map,hsz] at e5
 have em:(order.filterMap (arr[·]?)).toList=(order.toList.filterMap (es[·]?)).map entN:=by
  rw[Array.toList_filterMap,jY8,<-ha]
  exact St.fm_congr fun x _=>by rw[lKa]
 have pe:(order.toList.filterMap (es[·]?)).Perm es:=jZ7 e5
 have sz2:(order.filterMap (arr[·]?)).size=es.length:=by rw[<-lKf,em,lJf,pe.length_eq]
 have pl:t'.place.size=es.length:=by
  have hl:((arr.map (·.1)).toList).length=es.length:=by rw[lKf,Array.size_map,hsz]
  have e7:order.toList.filterMap ((arr.map (·.1))[·]?)=order.toList.filterMap ((arr.map (·.1)).toList[·]?):=St.fm_congr fun x _=>by rw[lKa]
  have:=(jZ7 (xs:=(arr.map (·.1)).toList) (l:=order.toList) (by rw[hl];exact e5)).length_eq
  rw[e6.len,e7,this,hl]
 refine⟨order.filterMap (arr[·]?),t',_,?_,pe,em,e6.ris,pl,e6.dum,e2,e3,e4⟩
 unfold relayAll
 rw[e1']
 dsimp only
 rw[lJc]
 rw[lK2]
 refine⟨?_,qJf e6.dum (pl.trans sz2.symm) (by rw[sz2,e2];exact hle)⟩
 unfold coversAll
 rw[hsz]
 exact List.isPerm_iff.mpr e5
theorem qYp {a:Addr} {o:Obj} {arr:Array (Int×Value)} {ep:Nat} {t:SetTable} {es:List (Int×Tok)} (d:SetN prog w s.heap a o arr ep t es) {k:Int} {tk:Tok} (hn:es.length<64) {Q:Bool->Shared->Prop}
  (h1:k∈es.map (·.1)->Q false s)
  (h2:k∉es.map (·.1)->∀h' o' arr' ep' t' es',Heap.SameBut a s.heap h'->es'.Perm ((k,tk)::es)->t'.led=t.led->SetN prog w h' a o' arr' ep' t' es'->Q true {s with heap:=h'}):
  wpAny (model prog w) A (setAddHashed a (.int k tk) (hashInt k)) Q E s:=by
 have hk:(intKind prog w).is k (.int k tk)=true:=intKind_is _ _ _ _
 have hsz:=d.size
 have hb:arr.size<scanBound:=by rw[hsz];show _<4096;omega
 (unfold setAddHashed setAddHashedIn)
 refine lKy (lJa (d.state ?_))
 dsimp only
 rw[byScan_of (knd:=intKind prog w) rfl hb d.elems]
 simp only[↓reduceIte]
 unfold setAddByScan
 refine lJa ?_
 refine lJa (lK6 ?_)
 refine lJa (wpAny_setScan_of (knd:=intKind prog w) hk d.get d.data d.fits d.elems ?_)
 have hmem:(∃e∈arr.toList,(intKind prog w).is k e.2=true)↔k∈es.map (·.1):=by
  rw[d.arr_]
  constructor
  ·rintro⟨e,he,hp⟩
   obtain⟨x,hx,rfl⟩:=lJj.mp he
   have:k=x.1:=(intKind prog w).inj _ _ _ hp (intKind_is _ _ _ _)
   exact lJj.mpr ⟨x,hx,this.symm⟩
  ·intro hm
   (obtain⟨x,hx,rfl⟩:=lJj.mp hm)
   exact⟨entN x,lJj.mpr ⟨x,hx,rfl⟩,intKind_is _ _ _ _⟩
 cases hr:List.findIdx? (fun e=>(intKind prog w).is k e.2) arr.toList with
 | some j=>
  dsimp only
  (obtain⟨hj,hpj,_⟩:=List.findIdx?_eq_some_iff_getElem.mp hr)
  exact lJd (lJd (h1 (hmem.mp ⟨arr.toList[j],lXn hj,hpj⟩)))
 | none=>
  dsimp only
  have hnk:k∉es.map (·.1):=by
   intro z
   obtain⟨e,he,hp⟩:=hmem.mpr z
   (have:=List.findIdx?_eq_none_iff.mp hr e he)
   rw[hp] at this;exact Bool.noConfusion this
  obtain⟨j,ej,hj⟩:=kXv d.dum d.ris d.len d.mask (hashInt k)
  have ae:(SetTable.insertAt arr (t.put j).2 (hashInt k,Value.int k tk)).toList=(putN (t.put j).2 (k,tk) es).map entN:=by
   rw[SetTable.toList_insertAt,d.arr_]
   unfold putN
   rw[lKr,lJo,lXp,List.map_drop]
   rfl
  have pl:=(jY1 (t.put j).2 (k,tk) es).length_eq
  rw[lJ9] at pl
  have asz:(SetTable.insertAt arr (t.put j).2 (hashInt k,Value.int k tk)).size=es.length+1:=by
   rw[<-lKf,ae,lJf,pl]
  have ep_:(t.put j).1.place=SetTable.insertAt t.place (SetTable.below t.place j) j:=rfl
  have plc:(t.put j).1.place.size=es.length+1:=by
   rw[ep_,<-lKf,SetTable.toList_insertAt]
   have:=d.len
   simp
   omega
  have rs:St.Ris (t.put j).1.place:=by rw[ep_];exact St.insertAt_ris d.ris hj
  have dm:(t.put j).1.dummies= #[]:=by
   show (if SetTable.has t.dummies j=true then _ else t.dummies)= #[]
   rw[d.dum,St.has_nil];rfl
  have mk:(t.put j).1.mask=t.mask:=rfl
  have hpl:(t.put j).1.plain=true:=d.plain
  have lm:es.length+1<=t.mask:=by rcases d.mask with ⟨e,z⟩ | ⟨e,z⟩ | ⟨e,z⟩ | ⟨e,z⟩ | ⟨e,z⟩<;>omega
  have ft:(t.put j).1.fits (SetTable.insertAt arr (t.put j).2 (hashInt k,Value.int k tk)).size=true:=qJf dm (plc.trans asz.symm) (by rw[asz];exact lm)
  have eL:layNew t arr (hashInt k) (.int k tk)=(SetTable.insertAt arr (t.put j).2 (hashInt k,Value.int k tk),(t.put j).1,false,false):=by
   unfold layNew
   rw[ej]
   dsimp only
   unfold SetTable.orStandIn
   rw[lJc ft,ft]
   rfl
  rw[eL]
  dsimp only
  have fl:(t.put j).1.fill=es.length+1:=by
   unfold SetTable.fill
   rw[dm,plc];rfl
  refine lJa (lJd ?_)
  rw[lJc hpl]
  refine lJa (lJd ?_)
  simp only[↓reduceIte]
  refine lJa (wpAny_storeSet_of d.get d.data ?_ (by rw[asz,lKs];omega))
  have sb1:=lX4 s.heap a (Obj.putSet (SetTable.insertAt arr (t.put j).2 (hashInt k,Value.int k tk)) (t.put j).1)
  have ob1:=kYx d.get d.data (SetTable.insertAt arr (t.put j).2 (hashInt k,Value.int k tk)) (t.put j).1
  by_cases full:(t.put j).1.tooFull=true
  ·rw[full]
   simp only[Bool.not_false,Bool.and_self,↓reduceIte]
   have full':(es.length+1)*5>=t.mask*3:=by
    unfold SetTable.tooFull at full
    rw[fl,mk] at full
    exact lYh full
   have w1:MaskOk (SetTable.sizeAbove (SetTable.grown (es.length+1))-1) (putN (t.put j).2 (k,tk) es).length:=by
    rw[pl]
    rcases d.mask with ⟨e,z⟩ | ⟨e,z⟩ | ⟨e,z⟩ | ⟨e,z⟩ | ⟨e,z⟩
    ·have:es.length=4:=by omega
     rw[this];exact .inr (.inl ⟨by decide,by omega⟩)
    ·have:es.length=18:=by omega
     rw[this];exact .inr (.inr (.inl ⟨by decide,by omega⟩))
    ·have:es.length=76:=by omega
     rw[this];exact .inr (.inr (.inr (.inl ⟨by decide,by omega⟩)))
    ·have:es.length=306:=by omega
     rw[this];exact .inr (.inr (.inr (.inr ⟨by decide,by omega⟩)))
    ·omega
   rw[asz]
   obtain⟨arr',t',es',q1,q2,q3,q4,q5,q6,q7,q8,q9⟩:=relayN (t:=(t.put j).1) ae rfl w1
   rw[q1]
   dsimp only
   have l':es'.length=es.length+1:=by rw[q2.length_eq,pl]
   have a':arr'.size=es.length+1:=by rw[<-lKf,q3,lJf,l']
   refine lJa (lJd (lJa (wpAny_storeSet_of (s:={s with heap:=s.heap.update a (Obj.putSet (SetTable.insertAt arr (t.put j).2 (hashInt k,Value.int k tk)) (t.put j).1)}) ob1 rfl (lJd (lJd ?_)) (by rw[a',lKs];omega))))
   refine h2 hnk _ _ _ _ t' es' (sb1.trans (lX4 _ a _)) (q2.trans (jY1 _ _ _)) q8 ⟨kYx ob1 rfl _ _,d.exact_,rfl,q3,q4,by rw[q5,pl,l'],q6,?_,q9.trans hpl⟩
   rw[q7,l'];rw[pl] at w1;exact w1
  ·rw[show (t.put j).1.tooFull=false from by simpa using full]
   simp only[Bool.and_false,lKn,↓reduceIte]
   have full':(es.length+1)*5<t.mask*3:=by
    unfold SetTable.tooFull at full
    rw[fl,mk] at full
    simpa using full
   refine lJd (lJd (h2 hnk _ _ _ _ (t.put j).1 _ sb1 (jY1 _ _ _) rfl ⟨ob1,d.exact_,rfl,ae,rs,by rw[plc,pl],dm,?_,hpl⟩))
   rw[pl,mk]
   rcases d.mask with ⟨e,_⟩ | ⟨e,_⟩ | ⟨e,_⟩ | ⟨e,_⟩ | ⟨e,_⟩
   ·exact .inl ⟨e,by omega⟩
   ·exact .inr (.inl ⟨e,by omega⟩)
   ·exact .inr (.inr (.inl ⟨e,by omega⟩))
   ·exact .inr (.inr (.inr (.inl ⟨e,by omega⟩)))
   ·exact .inr (.inr (.inr (.inr ⟨e,by omega⟩)))
end
section
variable {w:World} {prog:Program}
structure PutN (es:List (Int×Tok)) (is:List Int):Prop where
 nod:(es.map (·.1)).Nodup
 mem:∀z,z∈es.map (·.1)↔z∈is
theorem PutN.old {es:List (Int×Tok)} {is:List Int} (p:PutN es is) {k:Int} (h:k∈es.map (·.1)):PutN es (is++[k]):=by
 refine⟨p.nod,fun z=> ?_⟩
 rw[p.mem,lJr,lJs]
 refine⟨.inl,fun q=>q.elim id fun e=> ?_⟩
 rw[e];exact (p.mem k).mp h
theorem PutN.new {es es':List (Int×Tok)} {is:List Int} (p:PutN es is) {k:Int} {tk:Tok} (h:k∉es.map (·.1)) (hp:es'.Perm ((k,tk)::es)):PutN es' (is++[k]):=by
 have hm:(es'.map (·.1)).Perm (k::es.map (·.1)):=hp.map _
 refine⟨hm.nodup_iff.mpr (lKu.mpr ⟨h,p.nod⟩),fun z=> ?_⟩
 rw[hm.mem_iff,lJk,p.mem,lJr,lJs]
 exact⟨Or.symm,Or.symm⟩
theorem PutN.few {es:List (Int×Tok)} {is us:List Int} (p:PutN es is) (h:∀z,z∈is->z∈us):es.length<=us.length:=by
 have h1:(es.map (·.1)) ⊆ us:=fun z hz=>h z ((p.mem z).mp hz)
 have:=p.nod.length_le_of_subset h1
 simpa using this
def SetNs (prog:Program) (w:World) (h:Heap) (a:Addr) (is:List Int):Prop:=∃o arr ep t es,SetN prog w h a o arr ep t es/\PutN es is/\t.led= !bt w
theorem SetNs.move {h h':Heap} {a:Addr} {is:List Int} (d:SetNs prog w h a is) (hg:∀o,h.get? a=some o->h'.get? a=some o):SetNs prog w h' a is:=by
 obtain⟨o,arr,ep,t,es,d,p,l⟩:=d
 exact⟨o,arr,ep,t,es,d.move (hg o d.get),p,l⟩
section
variable {A:Around} {R:Result->Shared->Prop} {I:Addr} {fp:List Addr} {G:Array GenState->Array GenState->Prop} {n:Nat} {P:Nat->Value->Prop} {St:Nat->Shared->Prop}
theorem kYh (W:WalksS prog w A.in1 I fp [I] G n P St) (S:Addr) (hSf:S∉fp) (kb:List Int)
  (hval:∀i v,P i v->∃k tk,kb[i]? =some k/\v= .int k tk) (hn:n=kb.length) {us:List Int} (hus:us.length<64) (hkus:∀z,z∈kb->z∈us):
  ∀(q i:Nat) (s:Shared),n-i=q->i<=n->St i s->SetNs prog w s.heap S (kb.take i)->
   (∀s',Moved (S::[I]) G s s'->SetNs prog w s'.heap S kb->R (.ok (.ret .none)) s')->codeAny (model prog w) A (.builtin "set.update.loop" ⟨[.ref S,.ref I],[]⟩) R s:=by
 have hSw:S∉[I]:=fun h=>hSf (W.sub _ h)
 have hsub:∀b∈[I],b∈S::[I]:=fun b hb=>lJ2 _ hb
 intro q
 induction q with
 | zero=>
  intro i s hq hi hst hS hR
  have hin:i=n:=by omega
  subst hin
  refine lQm PyProof.Rows.F.entry_set_update_loop ?_
  rw[lQq lYw _]
  refine (show wpAny _ A.in1 (pyNext (.ref I) >>= _) _ _ s from ?_)
  (refine lJa (W.done s _ _ hst fun s' hm=> ?_))
  refine (show wpAny _ A.in1 (ret Value.none) _ _ s' from ?_)
  refine lJd (hR s' (hm.mono hsub) ?_)
  rw[hn,lQo] at hS
  exact hS.move (fun o e=>hm.heap S o hSw e)
 | succ q ih=>
  intro i s hq hi hst hS hR
  have hlt:i<n:=by omega
  refine lQm PyProof.Rows.F.entry_set_update_loop ?_
  rw[lQq lYw _]
  refine (show wpAny _ A.in1 (pyNext (.ref I) >>= _) _ _ s from ?_)
  (refine lJa (W.item i s _ _ hlt hst fun v s' hP hst' hm=> ?_))
  obtain⟨k,b,he,rfl⟩:=hval i v hP
  have hmem:k∈kb:=lJx he
  have hS':=hS.move (h':=s'.heap) (fun o e=>hm.heap S o hSw e)
  refine (show wpAny _ A.in1 (holding [Value.int k b] (setAdd S (.int k b)) >>= _) _ _ s' from ?_)
  (refine lJa (lKy ?_))
  unfold setAdd
  refine lKy ?_
  refine lJa ((intKind prog w).pyHash (k:=k) (intKind_is _ _ _ _) ?_)
  obtain⟨o,arr,ep,t,es,d,p,l⟩:=hS'
  have hl:=p.few fun e he=>hkus e (lQk he)
  have tk1:kb.take (i+1)=kb.take i++[k]:=by
   rw[lK3,he];rfl
  refine qYp (s:={s' with toks:=s'.toks+1}) d (by omega) (fun z=> ?_) (fun z h' o' arr' ep' t' es' sb pe el d'=> ?_)
  ·refine lJd ⟨lQt lYw _,ih (i+1) _ (by omega) hlt (W.frame _ s' _ _ hst' (Nat.le_add_right _ _) fun b hb o e=>e) ?_ fun s'' hm'' hS''=> ?_⟩
   ·rw[tk1];exact⟨o,arr,ep,t,es,d,p.old z,l⟩
   ·exact hR s'' (Moved.trans W.gtrans ((hm.mono hsub).then_heap (Nat.le_add_right _ _) fun b o hb e=>e) hm'') hS''
  ·refine lJd ⟨lQt lYw _,ih (i+1) _ (by omega) hlt (W.frame _ s' _ _ hst' (Nat.le_add_right _ _) fun b hb o e=> ?_) ?_ fun s'' hm'' hS''=> ?_⟩
   ·exact (sb.2 b (fun z=>hSf (z▸hb))).trans e
   ·rw[tk1];exact⟨o',arr',ep',t',es',d',p.new z pe,el.trans l⟩
   ·refine hR s'' (Moved.trans W.gtrans ((hm.mono hsub).then_heap (Nat.le_add_right _ _) fun b o hb e=> ?_) hm'') hS''
    exact (sb.2 b (fun z=>hb (by rw[z];exact lJ1 ..))).trans e
end
section
variable {E:Value->Shared->Prop} {s:Shared} {A:Around}
theorem kXd {led:Bool} (hl:led= !bt w) {h:Heap}:SetNs prog w (h.push {cls:= .type "set",dict:=none,data:= .set #[] 0 (.fresh 0 0 led)}) h.objs.size []:=
 ⟨_,#[],0,_,[],⟨lJ8 _ rfl,⟨rfl,rfl,rfl⟩,rfl,rfl,List.Pairwise.nil,rfl,rfl,.inl ⟨rfl,lJ6 _⟩,rfl⟩,⟨List.nodup_nil,fun z=>Iff.rfl⟩,hl⟩
set_option maxHeartbeats 3201000 in
theorem kYi {l:Addr} {items:Array Value} {ps:List (Int×Tok)} {Q:Value->Shared->Prop} (hh:A.handled=none) (hl:s.heap.IsList l items) (hi:items.toList=ps.map fun e=> .int e.1 e.2) {us:List Int} (hus:us.length<64) (hkus:∀z,z∈ps.map (·.1)->z∈us)
  (h:∀(h':Heap) (tk:Nat),SetNs prog w h' s.heap.objs.size (ps.map (·.1))->(∀b o,s.heap.get? b=some o->h'.get? b=some o)->Q (.ref s.heap.objs.size) {s with heap:=h',toks:=tk}):wpAny (model prog w) A (call (.type "set") [.ref l]) Q E s:=by
 (obtain⟨c,tl,hmro⟩:=lVp.mro)
 (have hmade:=lVp.made)
 have hsub:=lVp.sub
 have hsz:items.size=(ps.map (·.1)).length:=by rw[<-lKf,hi,lJf,lJf]
 (refine wpAny_call (codeAny_of_tree ?_))
 refine (show wpAny _ _ (callAny (.type "set") _) _ _ _ from ?_)
 (refine lJd ⟨Code.quiet_builtin _ (by decide +kernel),lQm F.entry_type_call ?_⟩)
 (rw[Around.under_plain (weight_type_call_type "set" [.ref l] []) rfl])
 (have h1:=lVp.notType)
 (have h2:=lVp.canCreate)
 (have hct:=F.typeCall_set_1 (.ref l))
 (repeat (any_goals (first | assumption | wp_step)))
 refine lVr (qKt (.ref l) (E:=E) (Q₁:=fun obj s₁=>obj= .ref s.heap.objs.size/\s₁={s with heap:=s.heap.push (jVe w)}) ⟨rfl,rfl⟩) fun r s₁ hr=> ?_
 cases r with
 | error e=>exact hr
 | ok fl=>
  cases fl with
  | ret obj=>
   obtain⟨rfl,rfl⟩:=hr
   have hS:(s.heap.push (jVe w)).get? s.heap.objs.size=some (jVe w):=lJ8 _ rfl
   have hT:Shared.TypeIs {s with heap:=s.heap.push (jVe w)} (.ref s.heap.objs.size) "set":=⟨_,hS,rfl⟩
   (have hli:=lVp.init.lookup)
   (have hbi:=lVp.init.bind (.ref s.heap.objs.size))
   (repeat (any_goals (first | assumption | wp_step)))
   refine lVr (codeAny_call_builtin (R:=wants (fun r s₂=>r= .none/\∃h' tk,s₂={s with heap:=h',toks:=tk}/\SetNs prog w h' s.heap.objs.size (ps.map (·.1))/\(∀b o,s.heap.get? b=some o->h'.get? b=some o)) E) lVp.init.plain F.entry_set_init (check_set_init_1 hT ?_)) fun r₂ s₂ hr₂=> ?_
   ·(obtain⟨ol,hol,hcl,nl,hdl⟩:=hl)
    (obtain⟨ocls,odict,odata,oslots⟩:=ol)
    simp only at hcl hdl
    subst hcl;subst hdl
    have hol':(s.heap.push (jVe w)).get? l=some {cls:= .type "list",dict:=odict,data:= .seq items nl,slots:=oslots}:=lJl _ hol
    have hsls:=F.sub_list_set
    (have hslf:=F.sub_list_frozenset)
    (have hne:(Value.type "list" == Value.type "dict")=false:=by decide)
    have hl1:(s.heap.push (jVe w)).IsList l items:=⟨_,hol',rfl,nl,rfl⟩
    (unfold Builtin.«set.__init__» noKeywords Builtin.Frozenset.updateFrom)
    generalize hPI:pyIter=PI
    unfold jVe at hS hol' hl1 ⊢
    wp_walk
    subst hPI
    (refine lXy hl1 ?_)
    (refine lJa (wpAny_runValue ?_))
    (have hlS:l<s.heap.objs.size:=lJi hol)
    (have hh3:A.in1.in1.in1.handled=none:=by simp[hh])
    have hneI:l≠(s.heap.push (jVe w)).objs.size:=by
     (rw[lQy];exact lJm (Nat.lt_succ_of_lt hlS))
    have hSf:s.heap.objs.size∉[(s.heap.push (jVe w)).objs.size,l]:=by
     rw[lQy];simp only[lJk,lKc,lKt,not_or]
     (exact⟨lJm (Nat.lt_succ_self _),lK0 hlS⟩)
    have hval:∀(i:Nat) (v:Value),items[i]? =some v->∃k tk,(ps.map (·.1))[i]? =some k/\v= .int k tk:=by
     intro i v hv
     rw[<-lKa,hi,lJz] at hv
     obtain⟨e,e1,e2⟩:=lVf.mp hv
     exact⟨e.1,e.2,by rw[lJz,e1];rfl,e2.symm⟩
    have up:∀b o,s.heap.get? b=some o->((s.heap.push (jVe w)).push {cls:= .type "list_iterator",data:= .fields #[.ref l,.int 0 0]}).get? b=some o:=fun b o e=>lJl _ (lJl _ e)
    refine kYh (A:=A.in1.in1) ((Walks.list hh3 _ l hneI items).toS) s.heap.objs.size hSf (ps.map (·.1)) hval hsz hus hkus (items.size-0) 0 _ (by omega) (lJ6 _) ⟨⟨_,lJ8 _ rfl,rfl,rfl⟩,(hl1.push _)⟩ ?hS0 ?hR
    case hS0=>
     exact (kXd (prog:=prog) (w:=w) rfl (h:=s.heap)).move (fun o e=>lJl _ e)
    case hR=>
     intro s' hm hS'
     (obtain⟨h',g',d',tk',os'⟩:=s')
     cases (show g'=s.gens from hm.gens)
     cases (show d'=s.drawn from hm.drawn)
     cases (show os'=s.os from hm.os)
     refine (show wpAny _ _ _ _ _ _ from lJd ?_)
     refine (show wpAny _ _ (ret Value.none) _ _ _ from lJd ⟨rfl,h',tk',rfl,hS',fun b o e=> ?_⟩)
     have hb:=lJi e
     refine hm.heap b o ?_ (up b o e)
     simp only[lJk,lKc,lKt,not_or]
     exact⟨lJm hb,by rw[lQy];exact lJm (Nat.lt_succ_of_lt hb)⟩
   ·cases r₂ with
    | error e=>exact hr₂
    | ok fl₂=>
     cases fl₂ with
     | ret r=>
      (obtain⟨rfl,h',tk,rfl,hS',hk'⟩:=hr₂)
      (repeat (any_goals (first | assumption | wp_step)))
      exact h _ _ hS' hk'
     | _=>exact hr₂.elim
  | _=>exact hr.elim
end
end
section
variable {prog:Program} {w:World} {A:Around} {E:Value->Shared->Prop} {s:Shared}
theorem kUs {t:SetTable} (g:St.Ris t.place) (hb:bt w=false) {i:Nat} (hi:i<=t.place.size):SetTable.below t.place (jVb w t i)=i:=by
 unfold jVb
 rw[hb,lJb (by decide)]
 by_cases c:i=0
 ·subst c;exact St.below_zero g
 ·rw[lJb c,St.getD_at (by omega),St.below_next g (by omega)]
  omega
theorem SetN.stateB {h0:Heap} {S:Addr} {o:Obj} {arr:Array (Int×Value)} {ep:Nat} {t:SetTable} {es:List (Int×Tok)} (d:SetN prog w h0 S o arr ep t es) (hg:s.heap.get? S=some o) {Q:(Array (Int×Value)×Nat×SetTable)->Shared->Prop} (h:Q (arr,ep,t) s):wpAny (model prog w) A (setState S) Q E s:=
 wpAny_setState_of hg d.data d.fits h
theorem kZy {S:Addr} {o:Obj} {arr:Array (Int×Value)} {ep:Nat} {t:SetTable} {es:List (Int×Tok)} (d:SetN prog w s.heap S o arr ep t es) {Q:Value->Shared->Prop}
  (hQ:Q (.ref s.heap.objs.size) {s with heap:=s.heap.push {cls:= .type "set_iterator",data:= .fields #[.int 0 0,.int 0 0,.ref S,.int es.length 0,.int ep 0]} }):wpAny (model prog w) A (pyIter (.ref S)) Q E s:=by
 have hT:s.TypeIs (.ref S) "set":=⟨o,d.get,d.exact_.1⟩
 refine wpAny_pyIter_slot hT PySem.F.slot_set_iter (lQs PySem.F.slot_set_iter hT Si.entry_iter ?_ (PySem.F.args_set_iter_1 _))
 unfold Builtin.«frozenset.__iter__» Builtin.Frozenset.slot0 slotArgs
 (simp only[List.isEmpty_nil,Bool.not_true,lKn,↓reduceIte,bind_assoc,lQa,bne_self_eq_false])
 (unfold Builtin.Frozenset.addrOf Builtin.Frozenset.sizeOf)
 refine lJa (lJd ?_)
 try dsimp only
 refine lJa (lJd ?_)
 simp only[setEntries,setDrawn,bind_assoc]
 refine lJa (d.state ?_)
 refine lJa (lJd (lJa (lJd (lJa (d.state ?_)))))
 dsimp only[setsByText]
 refine lJa (lJa (lYi (lJd (lJa (lJd ?_)))))
 rw[lJb (fun z=> ?_)]
 ·(refine lJa (lJd ?_))
  unfold setEpoch
  refine lJa (lJa (d.state (lJd ?_)))
  refine lJa (lQl (lJd ⟨_,rfl,"set_iterator",_,⟨_,lJ8 _ rfl,rfl⟩,Si.slot_next.lookup,?_⟩))
  have:=d.size
  simpa[rawInt,this] using hQ
 ·have z':(!(w.params.followText "set-order")&&(!t.plain&&decide (arr.size>1)))=true:=z
  rw[d.plain] at z'
  simp at z'
theorem jYq {h0:Heap} {S:Addr} {o:Obj} {arr:Array (Int×Value)} {ep:Nat} {t:SetTable} {es:List (Int×Tok)} (d:SetN prog w h0 S o arr ep t es) (hg:s.heap.get? S=some o) (hl:t.led= !bt w) {i:Nat} (hi:i<=arr.size) {Q:Option (Value×Nat)->Shared->Prop}
  (hQ:Q (((ordS w S ep arr)[i]?).map fun e=>(e.2,jVb w t (i+1))) s):wpAny (model prog w) A (setNext S (jVb w t i) i ep) Q E s:=by
 have hp:t.place.size=arr.size:=by
  rw[d.len,d.size]
 unfold setNext
 refine lJa (d.stateB hg ?_)
 dsimp only[setsByText]
 (refine lJa (lJa (lYi (lJd ?_))))
 refine (show wpAny _ _ (if bt w=true then _ else _) _ _ _ from ?_)
 cases hb:bt w with
 | true=>
  rw[lJc rfl,lJb (by simp)]
  unfold setWalk
  refine lJa (lJa (d.stateB hg ?_))
  dsimp only[setsByText]
  (refine lJa (lJa (lYi (lJd ?_))))
  refine (show wpAny _ _ (if bt w=true then _ else _) _ _ _ from ?_)
  rw[hb,lJc rfl]
  refine lJa (lYi (lJd (lJd ?_)))
  have e1:jVb w t i=jVb w t (i+1):=by unfold jVb;rw[hb];rfl
  unfold ordS at hQ
  rw[hb,lJc rfl,<-e1] at hQ
  exact hQ
 | false=>
  rw[lJb (by decide)]
  rw[lJb (fun z=> ?_)]
  ·refine lJa (m:=(if (!t.led&& !arr.isEmpty)=true then unsupported "set:maker-not-led" else pure ())) ?_
   rw[hl,hb]
   simp only[Bool.not_false,Bool.not_true,Bool.false_and,lKn,↓reduceIte]
   (refine lJd (lJd ?_))
   rw[kUs d.ris hb (by omega)]
   unfold ordS at hQ
   rw[hb,lJb (by decide)] at hQ
   by_cases c:i<arr.size
   ·have hi':i<t.place.size:=by omega
    rw[lQb c,lQb hi']
    rw[lQb c] at hQ
    dsimp only
    have e1:jVb w t (i+1)=t.place[i]+1:=by
     unfold jVb
     rw[hb,lJb (by decide),lJb (by omega),lYu,St.getD_at hi']
    rw[e1] at hQ
    exact hQ
   ·rw[lV2 (by omega)]
    rw[lV2 (by omega)] at hQ
    exact hQ
  ·have z':(!t.plain&&decide (arr.size>1))=true:=z
   rw[d.plain] at z'
   simp at z'
theorem kZh {h0:Heap} {S I:Addr} {o:Obj} {arr:Array (Int×Value)} {ep:Nat} {t:SetTable} {es:List (Int×Tok)} (d:SetN prog w h0 S o arr ep t es) (hl:t.led= !bt w) (hg:s.heap.get? S=some o) {i:Nat} (hI:s.heap.get? I=some (kXr S ep arr.size (jVb w t i) i)) {e:Int×Value} (he:(ordS w S ep arr)[i]? =some e) {Q:Option Value->Shared->Prop}
  (hQ:∀h',Heap.SameBut I s.heap h'->h'.get? I=some (kXr S ep arr.size (jVb w t (i+1)) (i+1))->Q (some e.2) {s with heap:=h'}):wpAny (model prog w) A (pyNext (.ref I)) Q E s:=by
 have hT:s.TypeIs (.ref I) "set_iterator":=⟨_,hI,rfl⟩
 have hsz:(ordS w S ep arr).size=arr.size:=by rw[<-lKf,(jVz w S ep arr).length_eq,lKf]
 have hi:i<arr.size:=by have:=(lYm.mp he).1;omega
 unfold pyNext
 refine lJa (wpAny_attempt (lXw (name:=Str.ofString "__next__") hT Si.slot_next (lQs Si.slot_next hT Si.entry_next ?_ (Si.args_next _))))
 unfold Builtin.«set_iterator.__next__»
 refine lJa (lJd ?_)
 refine lJa (wpAny_fieldsOf hI rfl ?_)
 dsimp only
 unfold setEntries
 refine lJa (lJa (d.stateB hg (lJd ?_)))
 dsimp only
 rw[lJb (by simp)]
 simp only[lXg]
 refine lJa (jYq d hg hl (lQ3 hi) ?_)
 rw[he]
 dsimp only[Option.map_some]
 refine lJa (lVt hI (by simp) fun h1 e1 sb1=> ?_)
 refine lJa (lVt (s:={s with heap:=h1}) e1 (by simp) fun h2 e2 sb2=> ?_)
 refine lJd ⟨_,rfl,lJd (hQ h2 (sb1.trans sb2) ?_)⟩
 simpa[rawInt,kXr] using e2
theorem qQ5 {h0:Heap} {S I:Addr} {o:Obj} {arr:Array (Int×Value)} {ep:Nat} {t:SetTable} {es:List (Int×Tok)} (d:SetN prog w h0 S o arr ep t es) (hl:t.led= !bt w) (hh:A.handled=none) (hg:s.heap.get? S=some o) (hI:s.heap.get? I=some (kXr S ep arr.size (jVb w t arr.size) arr.size)) {Q:Option Value->Shared->Prop}
  (hQ:∀h',Heap.ExtBut I s.heap h'->Q none {s with heap:=h'}):wpAny (model prog w) A (pyNext (.ref I)) Q E s:=by
 have hT:s.TypeIs (.ref I) "set_iterator":=⟨_,hI,rfl⟩
 have hsz:(ordS w S ep arr).size=arr.size:=by rw[<-lKf,(jVz w S ep arr).length_eq,lKf]
 unfold pyNext
 refine lJa (wpAny_attempt (lXw (name:=Str.ofString "__next__") hT Si.slot_next (lQs Si.slot_next hT Si.entry_next ?_ (Si.args_next _))))
 unfold Builtin.«set_iterator.__next__»
 refine lJa (lJd ?_)
 refine lJa (wpAny_fieldsOf hI rfl ?_)
 dsimp only
 unfold setEntries
 refine lJa (lJa (d.stateB hg (lJd ?_)))
 dsimp only
 rw[lJb (by simp)]
 simp only[lXg]
 refine lJa (jYq d hg hl (lJg _) ?_)
 rw[lV2 (by omega)]
 dsimp only[Option.map_none]
 refine lJa (lVt hI (by simp) fun h1 e1 sb1=> ?_)
 refine (show wpAny _ _ (newExc (.type "StopIteration") [] >>= _) _ _ _ from lJa ?_)
 simp only[newExc,newTuple];refine lJa (lQl ?_ (by size_fits));refine lJa (m:=firstArgMember _ _) (wpAny_of_eq (a:=Value.none) (by first | rfl | (simp only[firstArgMember];rfl)) (lQl ?_ (by size_fits)))
 simp only[raiseNew];refine lJa (wpAny_handled ?_);rw[show A.in1.handled=none from hh];refine lJa (lJd (wpAny_throw ?_))
 exact lJa (wpAny_isInstance (T:="StopIteration") (b:=true) ⟨_,lJ8 _ rfl,rfl⟩ isSubtype_stop (lJd (hQ _ ((sb1.extBut.push _).push _))))
theorem kV7 {h0:Heap} {S I:Addr} {o:Obj} {arr:Array (Int×Value)} {ep:Nat} {t:SetTable} {es:List (Int×Tok)} (d:SetN prog w h0 S o arr ep t es) (hl:t.led= !bt w) (hh:A.handled=none) (hIS:I≠S):
  WalksS prog w A I [I,S] [I] (fun a b=>b=a) arr.size (fun i v=>((ordS w S ep arr)[i]?).map (·.2)=some v) (fun i s=>s.heap.get? S=some o/\s.heap.get? I=some (kXr S ep arr.size (jVb w t i) i)) where
 sub:=fun b hb=>by rw[lJs.mp hb];exact lJ1 ..
 grefl:=fun _=>rfl
 gtrans:=fun _ _ _ h1 h2=>(h2.trans h1)
 frame:=fun i s h' _ st _ hk=>⟨hk S (by simp) _ st.1,hk I (by simp) _ st.2⟩
 item:=by
  intro i s Q E hi st hQ
  have hsz:(ordS w S ep arr).size=arr.size:=by rw[<-lKf,(jVz w S ep arr).length_eq,lKf]
  refine kZh d hl st.1 st.2 (e:=(ordS w S ep arr)[i]) (lQb (by omega)) fun h' sb e=> ?_
  refine hQ _ _ (by rw[lQb (by omega)];rfl) ⟨(sb.2 S (fun z=>hIS z.symm)).trans st.1,e⟩ ⟨fun b ob hb e=> ?_,rfl,rfl,rfl,lJg _⟩
  exact (sb.2 b (fun z=>hb (lJs.mpr z))).trans e
 done:=by
  intro s Q E st hQ
  refine qQ5 d hl hh st.1 st.2 fun h' eb=>hQ _ ⟨fun b ob hb e=> ?_,rfl,rfl,rfl,lJg _⟩
  exact eb b ob (fun z=>hb (lJs.mpr z)) e
 self:=by
  intro i s Q E st hQ
  have hT:s.TypeIs (.ref I) "set_iterator":=⟨_,st.2,rfl⟩
  refine wpAny_pyIter_slot hT Si.slot_iter (lQs Si.slot_iter hT Si.entry_it ?_ (Si.args_it _))
  exact (show wpAny _ _ (ret (.ref I)) _ _ s from lJd ⟨_,rfl,"set_iterator",_,hT,Si.slot_next.lookup,hQ⟩)
theorem kUl {R:Result->Shared->Prop} {S L:Addr} {o:Obj} {arr:Array (Int×Value)} {ep:Nat} {t:SetTable} {es:List (Int×Tok)} (d:SetN prog w s.heap S o arr ep t es) (hl:t.led= !bt w) (hh:A.handled=none) (res:Value) (c0:Nat)
  (hL:s.heap.get? L=some {cls:= .type "list",data:= .seq #[] c0}) (hLS:L≠S)
  (hR:∀(g:Heap) (tk:Nat) (acc:Array Value) (c':Nat),(∀b ob,b≠L->s.heap.get? b=some ob->g.get? b=some ob)->g.get? L=some {cls:= .type "list",dict:=none,data:= .seq acc c',slots:= #[]}->ItemsOf (fun i v=>((ordS w S ep arr)[i]?).map (·.2)=some v) acc arr.size->R (.ok (.ret res)) {s with heap:=g,toks:=tk}):
  wpAny (model prog w) A.in1 (Builtin.List.listExtendWith (.ref L) (.ref S) res) (fun fin z=>match fin with | .done f=>R (.ok f) z | .again c'=>c'.quiet=true/\codeAny (model prog w) A c' R z) (fun e z=>R (.error e) z) s:=by
 have hT:s.TypeIs (.ref S) "set":=⟨o,d.get,d.exact_.1⟩
 have hIS:s.heap.objs.size≠S:=lK0 (lJi d.get)
 have hIL:L≠s.heap.objs.size:=lJm (lJi hL)
 have hSf:L∉[s.heap.objs.size,S]:=by simp[hIL,hLS]
 have asz:arr.size<=sizeLine:=by
  rw[d.size,lKs]
  rcases d.mask with ⟨_,z⟩ | ⟨_,z⟩ | ⟨_,z⟩ | ⟨_,z⟩ | ⟨_,z⟩<;>omega
 (unfold Builtin.List.listExtendWith)
 (refine lJa (lVs hT ?_))
 have z1:Builtin.List.listSameRef (.ref L) (.ref S)=false:=by simp[Builtin.List.listSameRef,hLS]
 have z2:(Value.type "set" == Value.type "list")=false:=by decide
 have z3:(Value.type "set" == Value.type "tuple")=false:=by decide
 simp only[z1,z2,z3,Bool.or_false,lKn,lKj]
 refine lJa (kZy d ?_)
 refine lJa (lKy (qQx (o:=o) (lJl _ d.get) d.exact_.1 ?_))
 refine wpAny_ite_split (fun _=> ?_) fun z=>absurd (by decide +kernel) z
 refine lJa (lK6 ?_)
 generalize hg1:s.heap.push {cls:=Value.type "set_iterator",data:=Data.fields #[Value.int 0 0,Value.int 0 0,Value.ref S,Value.int (es.length:Int) 0,Value.int (ep:Int) 0]}=h1
 have hI1:h1.get? s.heap.objs.size=some (kXr S ep arr.size (jVb w t 0) 0):=by
  rw[<-hg1,d.size,show jVb w t 0=0 by unfold jVb;split<;>rfl]
  exact lJ8 _ rfl
 have up:∀b ob,s.heap.get? b=some ob->h1.get? b=some ob:=fun b ob e=>by rw[<-hg1];exact lJl _ e
 have hL1:=up L _ hL
 refine lJa ?_
 refine (show wpAny _ A.in1 (updateSeq L (·.push .none) >>= fun _=>updateSeq L (·.pop)) _ _ {s with heap:=h1} from ?_)
 refine lJa (wpAny_updateSeq hL1 rfl ?_)
 have hL2:=lX0 (Obj.mapSeq (·.push Value.none)) hL1 rfl
 refine wpAny_updateSeq (s:={s with heap:=h1.update L (Obj.mapSeq (·.push Value.none))}) hL2 rfl ?_
 have hL3:=lX0 (Obj.mapSeq (·.pop)) hL2 rfl
 have oth:∀b ob,b≠L->h1.get? b=some ob->((h1.update L (Obj.mapSeq (·.push Value.none))).update L (Obj.mapSeq (·.pop))).get? b=some ob:=
  fun b ob hb e=>(lYl _ _ (Ne.symm hb)).trans ((lYl _ _ (Ne.symm hb)).trans e)
 refine lJd ⟨lQt F.plain_extend_loop _,?_⟩
 refine codeAny_extend_loopS (kV7 (A:=A.in1) d hl hh hIS) asz L hSf res arr.size 0 _ #[] _ rfl (lJ6 _) ⟨oth S o (Ne.symm hLS) (up S o d.get),oth _ _ (Ne.symm hIL) hI1⟩ hL3 (ItemsOf.nil _) fun z acc c' hm hL' hacc=> ?_
 rw[Moved.eq_with hm]
 refine hR z.heap z.toks acc c' (fun b ob hb e=>hm.heap b ob ?_ (oth b ob hb (up b ob e))) hL' hacc
 simp only[lJk,lKc,lKt,not_or]
 exact⟨hb,lJm (lJi e)⟩
theorem kQe {S:Addr} {o:Obj} {arr:Array (Int×Value)} {ep:Nat} {t:SetTable} {es:List (Int×Tok)} (d:SetN prog w s.heap S o arr ep t es) (hl:t.led= !bt w) (hh:A.handled=none) {Q:List Value->Shared->Prop}
  (hQ:∀(g:Heap) (tk:Nat) (acc:List Value),(∀b ob,s.heap.get? b=some ob->g.get? b=some ob)->s.heap.objs.size<g.objs.size->acc.Perm (es.map fun e=> .int e.1 e.2)->Q acc {s with heap:=g,toks:=tk}):wpAny (model prog w) A (collect (.ref S)) Q E s:=by
 have hLS:s.heap.objs.size≠S:=lK0 (lJi d.get)
 have key:∀R:Result->Shared->Prop,(∀(g:Heap) (tk:Nat) (acc:Array Value) (c':Nat),(∀b ob,s.heap.get? b=some ob->g.get? b=some ob)->g.get? s.heap.objs.size=some {cls:= .type "list",dict:=none,data:= .seq acc c',slots:= #[]}->ItemsOf (fun i v=>((ordS w S ep arr)[i]?).map (·.2)=some v) acc arr.size->R (.ok (.ret (.ref s.heap.objs.size))) {s with heap:=g,toks:=tk})->
   codeAny (model prog w) A (.builtin "proto.collect" ⟨[.ref S],[]⟩) R s:=by
  intro R hR
  refine lQm F.entry_proto_collect ?_
  (rw[lQq F.plain_proto_collect _])
  refine (show wpAny _ A.in1 (newList [] >>= fun l=>again (.builtin "list.__iadd__" ⟨[l,.ref S],[]⟩)) _ _ s from lJa (lQl (lJd ⟨lQt F.plain_list_iadd _,lQm F.entry_list_iadd ?_⟩)))
  (rw[lQq F.plain_list_iadd _])
  have hS1:(s.heap.push {cls:= .type "list",data:= .seq ([]:List Value).toArray}).get? s.heap.objs.size=some {cls:= .type "list",data:= .seq ([]:List Value).toArray}:=lJ8 _ rfl
  have d1:SetN prog w (s.heap.push {cls:= .type "list",data:= .seq ([]:List Value).toArray}) S o arr ep t es:=d.move (lJl _ d.get)
  exact kUl (A:=A) (R:=R) (s:={s with heap:=s.heap.push {cls:= .type "list",data:= .seq ([]:List Value).toArray} }) d1 hl hh (.ref s.heap.objs.size) 0 hS1 hLS fun g tk acc c' kp hL' hacc=>hR g tk acc c' (fun b ob e=>kp b ob (lJm (lJi e)) (lJl _ e)) hL' hacc
 unfold collect
 refine lJa (wpAny_runValue (key _ fun g tk acc c' kp hL' hacc=>(show wpAny _ A (load s.heap.objs.size >>= _) _ _ _ from lJa (wpAny_load hL' (lJd (hQ g tk acc.toList kp (lJi hL') ?_))))))
 have e1:acc.toList=(ordS w S ep arr).toList.map (·.2):=by
  have hsz:(ordS w S ep arr).size=arr.size:=by rw[<-lKf,(jVz w S ep arr).length_eq,lKf]
  apply lVu
  intro i
  rw[lJz,lKa,lKa]
  by_cases hi:i<acc.size
  ·have:=hacc.2 i acc[i] (lQb hi)
   rw[lQb hi]
   exact this.symm
  ·rw[lV2 (by omega),lV2 (by rw[hsz,<-hacc.1];omega)]
   rfl
 rw[e1]
 refine ((jVz w S ep arr).map _).trans ?_
 rw[d.arr_,lJ4]
 exact .refl _
end
theorem kZ1:∀(ps:List (Int×Tok)),IntsAre (ps.map fun p=>Value.int p.1 p.2) (ps.map (·.1))
 | []=> .nil
 | p::ps=> .cons _ _ (kZ1 ps)
theorem qVw {vs:List Value} {ns:List Int} (h:IntsAre vs ns):∃ps:List (Int×Tok),vs=ps.map (fun p=> .int p.1 p.2)/\ps.map (·.1)=ns:=by
 induction h with
 | nil=>exact⟨[],rfl,rfl⟩
 | @cons i t vs ns _ ih=>
  obtain⟨ps,e1,e2⟩:=ih
  exact⟨(i,t)::ps,by rw[lJo,e1],by rw[lJo,e2]⟩
theorem kX5:∀(ps:List (Int×Tok)),Vals ((ps.map (·.1)).map V.int) (ps.map fun p=>Value.int p.1 p.2)
 | []=> .nil
 | p::ps=> .cons ⟨p.2,rfl⟩ (kX5 ps)
theorem kYp {K:PySem.W.Frag} {H:Hp}:∀(is:List Int),Reps K H (is.map T.int) (is.map V.int)
 | []=>rfl
 | _::is=>⟨_,_,rfl,rfl,kYp is⟩
section
variable {prog:Program} {w:World} {A:Around} {E:Value->Shared->Prop} {s:Shared}
theorem kQw {S:Addr} {is us:List Int} (hS:SetNs prog w s.heap S is) (hh:A.handled=none) (hus:us.length<64) (hkus:∀z,z∈is->z∈us) {Q:Value->Shared->Prop}
  (k:∀(ps:List (Int×Tok)) (h':Heap) (tk:Nat) (D c:Nat),PutN ps is->s.heap.objs.size<=D->h'.get? D=some (seqObj "list" (List.toArray (ps.map fun e=>Value.int e.1 e.2)) c)->(∀p o,s.heap.get? p=some o->h'.get? p=some o)->Q (.ref D) {s with heap:=h',toks:=tk}):
  wpAny (model prog w) A (call (.builtin "sorted") [.ref S]) Q E s:=by
 obtain⟨o,arr,ep,t,es,d,p,l⟩:=hS
 have el:es.length<64:=Nat.lt_of_le_of_lt (p.few hkus) hus
 (refine Calls.call_function_entry kind_sorted plain_sorted entry_sorted (args_sorted1 _) ?_)
 unfold Builtin.«sorted»
 (refine lJa (m:=checkCount "sorted" 1 1 _) (lJd ?_))
 refine lJa (kQe (A:=A.in1) d l (by simpa using hh) fun g tk acc kp big pe=> ?_)
 obtain⟨es2,pe2,rfl⟩:=jVm pe es rfl
 have l2:es2.length=es.length:=pe2.length_eq
 refine lJa (wpAny_newList ?_ (by rw[lJf,lKs];omega))
 have hoL:(g.push (seqObj "list" (List.toArray (es2.map fun e=>Value.int e.1 e.2)) 0)).get? g.objs.size=some (seqObj "list" (List.toArray (es2.map fun e=>Value.int e.1 e.2)) 0):=lJ8 _ rfl
 refine lJa (lKy (lQs slot_list_sort ⟨_,hoL,rfl⟩ entry_list_sort ?_ (args_list_sort _)))
 refine list_sort_tree (s:={s with heap:=g.push (seqObj "list" (List.toArray (es2.map fun e=>Value.int e.1 e.2)) 0),toks:=tk}) hoL (kZ1 es2) (by rw[lJf];omega) fun out ns' hI hp _=> ?_
 obtain⟨ps,e1,e2⟩:=qVw hI
 have eo:out=List.toArray (ps.map fun e=>Value.int e.1 e.2):=by rw[<-e1]
 subst eo
 subst e2
 have pp:(ps.map (·.1)).Perm (es.map (·.1)):=hp.trans (pe2.map _)
 have ho1:=get?_update_seq hoL fun _=>(#[]:Array Value)
 have ho2:=lJl (seqObj "list" #[] 0) (lJl (seqObj "tuple" (List.toArray (es2.map fun e=>Value.int e.1 e.2)) 0) ho1)
 have ho3:=get?_update_seq ho2 fun _=>List.toArray (ps.map fun (e:Int×Tok)=>Value.int e.1 e.2)
 refine⟨_,rfl,lJd ⟨_,rfl,k ps _ tk _ _ ⟨pp.nodup_iff.mpr p.nod,fun z=>pp.mem_iff.trans (p.mem z)⟩ (lQ3 big) ho3 fun q ob e=> ?_⟩⟩
 ·have ne:q≠g.objs.size:=lJm (lJ7 (lJi e) (lQ3 big))
  exact (lYb _ _ _ _ ne).trans (lJl _ (lJl _ ((lYb _ _ _ _ ne).trans (lJl _ (kp q ob e)))))
end
section
variable {X:Cx}
noncomputable def kYc (ta:TA3):TE3:=fun τ G Q=>ta τ G fun vs G1=>∃(x:T) (is:List Int),vs=[x]/\jKt G1 x=some (is.map T.int)/\is.length<=1000/\(∃us:List Int,us.length<64/\∀z,z∈is->z∈us)/\∀(p:Addr) (ys:List Int),G1 p=none->ys.Nodup->(∀z,z∈ys↔z∈is)->Q (.ref p) (gup G1 p (.lst (ys.map T.int)))
theorem qX5 {pos pos' p p':Pos} {a:Expr} {ta:TA3} (hc:X.calm=true) (hu:X.A.units+20<cLine) (hl:Gl X "sorted") (hlm:X.mg "sorted"=none) (hlv:bootBuiltins "sorted"=some (.builtin "sorted")) (hg:Gl X "set") (hm:X.mg "set"=none) (hv:bootBuiltins "set"=some (.type "set")) (ha:PA3 X [a] ta) (hs:starEach [a] X.env=[(false,eval a X.env)]:=by rfl)
  (hs':starEach [Expr.Call (.Name "set" p) [a] [] pos] X.env=[(false,eval (.Call (.Name "set" p) [a] [] pos) X.env)]:=by rfl):
  PE3 X (.Call (.Name "sorted" p') [.Call (.Name "set" p) [a] [] pos] [] pos') (kYc ta):=by
 intro pins s τ G H Q I h
 obtain⟨σ,I0,_,_⟩:=id I
 refine Call_ (jUv I0 hl hlm hlv (PyProof.Rows.callWith_builtin1 ?_ hs' rfl))
 rw[hs']
 refine Calls.spliced_cons (Call_ (jUv I0 hg hm hv (lVg (thn (ha pos pins s τ G H _ I h) fun us s1 w_=>w_.el fun ys G1 H1 e1 i_ r_ q1=>i_.el fun σ1 I1 hs1 hg1=>r_.el fun as ras rvs=> ?_) hs rfl)))
 obtain⟨x,is,e,hx,hn,⟨us,hus,hkus⟩,q⟩:=q1
 subst e
 obtain⟨v,rfl,rv⟩:=jUs ras
 obtain⟨u,rfl,ru⟩:=rvs.one
 obtain⟨pa,vs,rfl,hq,r⟩:=jK7 hg1 rv hx
 cases ru
 cases jQk r
 obtain⟨its,rvv,pl,hz⟩:=I1.list hq
 obtain⟨ps,rfl,rfl⟩:=jUm rvv
 refine kYi (ps:=ps) (I1.ok.hd hc) pl.isList (by rw[List.toList_toArray]) hus hkus fun h2 tk2 hS kp2=> ?_
 refine Calls.spliced_nil ?_
 have hS0:=hS
 refine kQw (s:={s1 with heap:=h2,toks:=tk2}) hS (I1.ok.hd hc) hus hkus fun ps' h3 tk3 D c hp hD hoD kp3=> ?_
 have kp:∀b o,s1.heap.get? b=some o->h3.get? b=some o:=fun b o e=>kp3 b o (kp2 b o e)
 have hD1:s1.heap.objs.size<=D:=by
  obtain⟨o,_,_,_,_,d,_⟩:=hS0
  exact lKd (lQ3 (lJi d.get)) hD
 have fr:=I1.hok.fresh hD1
 have pl_:=hp.few hkus
 have I3:=I1.laid (a:=D) (o:= .lst ((ps'.map (·.1)).map V.int)) (h':=h3) (t':=tk3) kp hD1 ⟨by rw[lJf,lJf,lKs];omega,ps'.map fun e=>Value.int e.1 e.2,c,kX5 ps',hoD⟩
 have ext:Ext H1 (upd H1 D (.lst ((ps'.map (·.1)).map V.int))):= .upd (.none fr)
 refine⟨.ref D,_,_,e1.trans ext,⟨σ1,I3,hs1.mono ext,hg1.lstNew (kYp _) (.none fr)⟩,⟨.ref D,rfl,rfl⟩,?_⟩
 exact q D (ps'.map (·.1)) (hg1.fresh fr) hp.nod hp.mem
end
end L3
namespace L3
open PySem PySem.Spec PyProof.Rows L2
section
variable {X:Cx}
end
section
variable {X:Cx}
end
section
variable {prog:Program} {w:World} {A:Around} {I:Addr} {fp wr:List Addr} {n:Nat} {P:Nat->Value->Prop} {St:Nat->Heap->Prop} {R:Result->Shared->Prop} {old:Heap->Prop} {tr:Nat->Bool}
theorem qJ8 (W:Walks prog w A.in1 I fp wr n P St) (ho:∀h h',old h->(∀b o,b∉wr->h.get? b=some o->h'.get? b=some o)->old h')
  (ht:∀i v (s:Shared) (Q:Bool->Shared->Prop) (E:Value->Shared->Prop),P i v->old s.heap->(∀t',Q (tr i) {s with toks:=t'})->wpAny (model prog w) A.in1 (truthy v) Q E s):
  ∀(m i:Nat) (s:Shared),i+m=n->St i s.heap->old s.heap->
   (∀h' tk,(∀b o,b∉wr->s.heap.get? b=some o->h'.get? b=some o)->R (.ok (.ret (.bool (((List.range n).drop i).any tr)))) {s with heap:=h',toks:=tk})->codeAny (model prog w) A (.builtin "any.loop" ⟨[.ref I],[]⟩) R s:=by
 intro m
 induction m with
 | zero=>
  intro i s e hst hold k
  obtain rfl:i=n:=e
  refine lQm F.entry_any_loop (?_)
  rw[lQq F.plain_any_loop (_)]
  show wpAny (model prog w) A.in1 (pyNext (.ref I) >>= _) _ _ s
  refine lJa (W.done s _ _ hst fun h1 t1 k1=>lJa (lK6 (lJd ?_)))
  have z:=k h1 t1 k1
  rw[lVn (Nat.le_of_eq lKi)] at z
  exact z
 | succ m ih=>
  intro i s e hst hold k
  have lt:i<n:=by omega
  have hd:(List.range n).drop i=i::(List.range n).drop (i+1):=by rw[lVm (by rw[lKi];exact lt),lYx]
  refine lQm F.entry_any_loop (?_)
  rw[lQq F.plain_any_loop (_)]
  show wpAny (model prog w) A.in1 (pyNext (.ref I) >>= _) _ _ s
  refine lJa (W.item i s _ _ lt hst fun v h1 t1 hP hs1 k1=> ?_)
  refine lJa (lKy (ht i v _ _ _ hP (ho _ _ hold k1) fun t2=>lJa (wpAny_letGo ?_)))
  cases hb:tr i with
  | true=>
   rw[lJc rfl]
   (refine lJa (lK6 (lJd ?_)))
   have z:=k h1 t2 k1
   rw[hd,lKv,hb,Bool.true_or] at z
   exact z
  | false=>
   rw[lJb (by decide)]
   refine lJd ⟨lQt F.plain_any_loop _,ih (i+1) _ (by omega) hs1 (ho _ _ hold k1) fun h2 t3 k2=> ?_⟩
   have z:=k h2 t3 fun b o hb e=>k2 b o hb (k1 b o hb e)
   rw[hd,lKv,hb,Bool.false_or] at z
   exact z
end
section
variable {X:Cx}
def rAnyT:List T->Gp->VK3->Prop:=fun xs G Q=>∃(p:Addr) (ls:List (List T)),xs=[.ref p]/\G p=some (.lst (ls.map T.tup))/\Q (.bl (ls.any fun l=> !l.isEmpty)) G
theorem kJg:∀(ls:List (List T)),ls.any (fun l=> !l.isEmpty)=(List.range ls.length).any fun i=> !(ls.getD i []).isEmpty
 | []=>rfl
 | b::bs=>by
  rw[lKv,kJg bs,lJ9,List.range_succ_eq_map,lKv,List.any_map]
  simp[Function.comp_def,List.getD]
theorem c_anyT (hc:X.calm=true):Call3 X (.builtin "any") rAnyT:=by
 rintro pins s τ G H as us Q ⟨σ,I,hs,hg⟩ ⟨bs',rbs,rus⟩ ⟨p,ls,e,hp,q⟩
 subst e
 obtain⟨a,rfl,ra⟩:=jUs rbs
 cases (show a= .ref p from ra)
 obtain⟨u,rfl,ru⟩:=rus.one
 cases ru
 obtain⟨vs,h1,h2⟩:=hg.lst hp
 obtain⟨its,rv,pl,hz⟩:=I.list (.of h1)
 have hne:p≠s.heap.objs.size:=by obtain⟨o,n,ho,_⟩:=pl;exact lJm (lJi ho)
 have hw:=Walks.list (prog:=X.prog) (w:=X.w) (A:=X.A.in1) (show X.A.in1.handled=none from I.ok.hd hc) s.heap.objs.size p hne its.toArray
 have hll:its.length=ls.length:=by rw[<-rv.length,<-h2.length,lJf]
 refine PySem.call_function_tree PySem.F.kind_any PySem.F.plain_any PySem.F.entry_any (PySem.F.args_any1 _) ?_
 unfold Builtin.«any»
 (refine lJa (m:=oneArg "any" _) (lJd ?_))
 refine lJa (lXy pl.isList ?_)
 refine lJd ⟨lQt F.plain_any_loop _,qJ8 (tr:=fun i=> !(ls.getD i []).isEmpty) (old:=fun h=>∀b o,s.heap.get? b=some o->h.get? b=some o) hw (fun h h' z k b o e=>k b o (by simpa using lJm (lJi e)) (z b o e)) ?_ its.length 0 _ (by simp) ⟨⟨_,lJ8 _ rfl,rfl,rfl⟩,pl.isList.push _⟩ (fun b o e=>lJl _ e) ?_⟩
 ·intro i v s' Q' E' hP hold hQ
  have hP':its[i]? =some v:=by simpa using hP
  have il:i<ls.length:=by rw[<-hll];exact (lJq.mp hP').1
  obtain⟨v0,e1,r1⟩:=h2.get (i:=i) (x:= .tup ls[i]) (by rw[lJz,lJp il];rfl)
  obtain⟨a,ws,rfl,hta,rws⟩:=(show ∃a ws,v0= .ref a/\H a=some (.tup ws)/\Reps X.K H ls[i] ws from r1)
  obtain⟨u,e2,r2⟩:=rv.get e1
  rw[hP'] at e2;cases e2
  obtain rfl:v=Value.ref a:=r2
  obtain⟨hz2,its2,rv2,o,ho,hc2,n,hd,_⟩:=(show ws.length<=sizeLine/\∃its2:List Value,Vals ws its2/\TupD s.heap a its2.toArray from I.hok a _ hta)
  have hs':sizeLine=16777216:=lKs
  refine truthy_tuple ⟨o,hold a o ho,hc2,n,hd⟩ (by simp only[lJu];rw[<-rv2.length];omega) ?_
  have e3:(ls.getD i [])=ls[i]:=by rw[lXr,lJp il];rfl
  rw[jXn rv2,<-jUw rws]
  have z:=hQ
  rw[e3] at z
  exact z _
 ·intro h' tk hk
  have hk2:∀b o,s.heap.get? b=some o->h'.get? b=some o:=fun b o e=>hk b o (by simpa using lJm (lJi e)) (lJl _ e)
  refine⟨.bl _,G,H,.refl H,⟨σ,I.kept hk2,hs,hg⟩,⟨.bl _,rfl,?_⟩,q⟩
  rw[kJg]
  simp[hll]
  rfl
end
section
variable {X:Cx}
theorem Reps.erase {K:PySem.W.Frag} {H:Hp} {xs:List T} {vs:List V} (r:Reps K H xs vs) (k:Nat):Reps K H (xs.eraseIdx k) (vs.eraseIdx k):=by
 rw[lYc,lYc];exact (r.take _).append (r.drop _)
noncomputable def rPopN:T->List T->Gp->VK3->Prop:=fun x as G Q=>∃(p:Addr) (ys:List T) (y:T) (k:Nat),x= .ref p/\as=[.int k]/\G p=some (.lst ys)/\k<2^40/\ys[k]? =some y/\Q y (gup G p (.lst (ys.eraseIdx k)))
theorem m_popN:Mt3 X "list.pop" rPopN:=
 Mt3.of qQl fun H G x xs a as Q hg ra ras ⟨p,ys,y,k,ex,exs,hp,hk,hy,q⟩=>by
  subst ex;subst exs
  cases (show a= .ref p from ra)
  obtain⟨b,rfl,rb⟩:=jUs ras
  cases (show b= .int k from rb)
  obtain⟨vs,h1,h2⟩:=hg.lst hp
  obtain⟨v,h3,h4⟩:=h2.get hy
  have hl:=h2.length
  have hkl:=(lJq.mp h3).1
  have e:Ext H (upd H p (.lst (vs.eraseIdx k))):= .upd (.lst h1)
  refine⟨p,vs,k,k,v,rfl,rfl,h1,by omega,by omega,?_,h3,y,_,e,hg.lstNew (xs:=ys.eraseIdx k) (h2.erase k) (.lst h1),Rep.mono e _ h4,q⟩
  unfold seqIndex?
  have:¬ (k:Int)<0:=by omega
  simp[this]
  omega
end
section
variable {M:Model} {A:Around} {E:Value->Shared->Prop} {s₀ s:Shared} {m cm:Str->Option Value} {env:Env} {cs:List (Str×Addr)}
theorem stL2 {n:Str} {v:Value} {Q:Unit->Shared->Prop} (x:InCallC s₀ env.locals m cs cm s) (hk:env.scope.kind= .function) (hl:env.kindOf n=some .local)
  (h:∀s',InCallC s₀ env.locals (fun y=>if y=n then some v else m y) cs cm s'->Q () s'):wpAny M A (storeName env n v) Q E s:=by
 obtain⟨h1,tk,e1⟩:=x.toInCall.same
 refine wpAny_storeName_local hl x.toInCall.ns (fun h2 hn hs=>h _ ⟨⟨⟨h2,_,by rw[e1]⟩,hn,fun b o e=> ?_,x.toInCall.fresh⟩,fun y c hc=>(x.cell y c hc).sameBut hs ?_,x.apart,x.above⟩) (by rw[hk];rfl)
 ·have lt:b<env.locals:=lJ7 (lJi e) x.toInCall.fresh
  exact (hs.2 b (lJm lt)).trans (x.toInCall.keep b o e)
 ·exact lK0 (x.above y c (lJ3 hc))
theorem stC2 {n:Str} {c:Addr} {v:Value} {Q:Unit->Shared->Prop} (x:InCallC s₀ env.locals m cs cm s) (hk:env.scope.kind= .function) (hl:env.kindOf n=some .cell) (hc:env.cells.lookup n=some c) (ho:cs.lookup n=some c)
  (h:∀s',InCallC s₀ env.locals m cs (fun y=>if y=n then some v else cm y) s'->Q () s'):wpAny M A (storeName env n v) Q E s:=by
 have lc:=x.above n c (lJ3 ho)
 obtain⟨h1,tk,e1⟩:=x.toInCall.same
 refine wpAny_storeName_cell hk hl hc (x.cell n c ho) fun h2 hc2 hs=>h _ ⟨⟨⟨h2,_,by rw[e1]⟩,x.toInCall.ns.sameBut hs (lJm lc),fun b o e=> ?_,x.toInCall.fresh⟩,fun y d hd=> ?_,x.apart,x.above⟩
 ·have lt:b<c:=lQw (lJ7 (lJi e) x.toInCall.fresh) lc
  exact (hs.2 b (lJm lt)).trans (x.toInCall.keep b o e)
 ·by_cases q:y=n
  ·subst q
   rw[ho] at hd;cases hd
   simpa using hc2
  ·rw[lJb q]
   exact (x.cell y d hd).sameBut hs fun z=>q (name_of_addr x.apart (lJ3 hd) (by rw[z];exact lJ3 ho))
end
structure FvScope (N:List Str) (x:Str) (fr:List Str) (sc:Scope):Prop where
 kind:sc.kind= .function
 co:sc.isCoroutine=false
 gen:sc.isGenerator=false
 nd:N.Nodup
 pre:N.take (fr.length+1)=x::fr
 par:sc.names.lookup x=some .local\/sc.names.lookup x=some .cell
 free:(sc.names.all fun y=>y.2 != .free||fr.contains y.1)=true
 frk:(fr.all fun y=>sc.names.lookup y == some .free)=true
 own:(sc.names.all fun y=>y.2 != .cell||sc.names.lookup y.1 == some .cell)=true
noncomputable def envF (qual:Str) (scope:Scope) (cl:List (Str×Addr)) (L f:Addr) (cd:Value):Env:=newEnv scope L mainGlobals (cellsFrom (L+1) scope.names cl) (qual++".<locals>.") (some f) cd none builtinsNs
theorem own_of {sc:Scope} {n:Nat} {y:Str} {c:Addr} (h:(sc.names.all fun y=>y.2 != .cell||sc.names.lookup y.1 == some .cell)=true) (q:(cellsFrom n sc.names []).lookup y=some c):sc.names.lookup y=some .cell:=by
 rcases jQe _ _ _ (lJ3 q) with z | z
 ·cases z
 ·have:=lKk.mp h _ z
  simpa using this
theorem kKj {sc:Scope} {cl:List (Str×Addr)} {n:Nat} {y:Str} {c:Addr} (q:(cellsFrom n sc.names cl).lookup y=some c):(cellsFrom n sc.names []).lookup y=some c\/((cellsFrom n sc.names []).lookup y=none/\cl.lookup y=some c):=by
 rw[jJ1,lXh] at q
 cases hf:(cellsFrom n sc.names []).lookup y with
 | none=>rw[hf] at q;exact .inr ⟨rfl,q⟩
 | some e=>rw[hf] at q;exact .inl q
theorem kKy {M:Model} {A:Around} {E:Value->Shared->Prop} {s:Shared} {scope:Scope} {cl:List (Str×Addr)} {x:Str} {u:Value} {qual:Str} {f:Addr} {cd:Value} {Q:Env->Shared->Prop} (hk:scope.kind= .function) (hx:scope.names.lookup x=some .local\/scope.names.lookup x=some .cell)
  (hQ:∀s',InCallC s s.heap.objs.size (bindL (envF qual scope cl s.heap.objs.size f cd).kindOf [(x,u)] fun _=>none) (cellsFrom (s.heap.objs.size+1) scope.names []) (bindC (envF qual scope cl s.heap.objs.size f cd).kindOf [(x,u)] fun _=>none) s'->Q (envF qual scope cl s.heap.objs.size f cd) s'):
  wpAny M A (newFunctionEnv scope mainGlobals cl [(x,u)] (qual++".<locals>.") (some f) cd none builtinsNs) Q E s:=by
 (simp only[newFunctionEnv,Option.isSome_none,lKn,lKj])
 (refine lJa (wpAny_alloc ?_))
 (refine lJa (wpAny_layCells _ (fun name kind cells=>by cases hkc:kind == NameKind.cell<;>simp[hkc]) _ _ _ _ ?_))
 have ok:=cellsFrom_ok scope.names (s.heap.push {cls:= .type "frame",data:= .dict #[]}) (s.heap.objs.size+1) [] ⟨fun _ _ z=>(nomatch z),List.Pairwise.nil⟩ (by rw[lQy];exact lJg _)
 rw[lQy] at ok
 (rw[show ({s with heap:=s.heap.push {cls:= .type "frame",data:= .dict #[]} }:Shared).heap.objs.size=s.heap.objs.size+1 from lQy ..])
 have x0:InCallC s (envF qual scope cl s.heap.objs.size f cd).locals (fun _=>none) (cellsFrom (s.heap.objs.size+1) scope.names []) (fun _=>none) {s with heap:=pushCells (s.heap.push {cls:= .type "frame",data:= .dict #[]}) scope.names}:=
  ⟨⟨⟨_,_,rfl⟩,(Heap.Ns.new s.heap (.type "frame")).keeps (pushCells_keeps _ _),fun b o e=>pushCells_keeps _ _ b o (lJl _ e),lJg _⟩,fun n c hc=>(ok.empty n c (lJ3 hc)).1,ok.apart,fun n c hm=>(ok.empty n c hm).2⟩
 refine lJa ?_
 rw[List.forIn_cons]
 have fin:∀s',InCallC s s.heap.objs.size (bindL (envF qual scope cl s.heap.objs.size f cd).kindOf [(x,u)] fun _=>none) (cellsFrom (s.heap.objs.size+1) scope.names []) (bindC (envF qual scope cl s.heap.objs.size f cd).kindOf [(x,u)] fun _=>none) s'->
   wpAny M A (pure (envF qual scope cl s.heap.objs.size f cd)) Q E s':=fun s' z=>lJd (hQ s' z)
 rcases hx with hl | hl
 ·refine lJa (lJa (stL2 x0 hk hl fun s' z=>lJd ?_))
  have z':InCallC s s.heap.objs.size (bindL (envF qual scope cl s.heap.objs.size f cd).kindOf [(x,u)] fun _=>none) (cellsFrom (s.heap.objs.size+1) scope.names []) (bindC (envF qual scope cl s.heap.objs.size f cd).kindOf [(x,u)] fun _=>none) s':=by
   unfold bindL bindC bindL bindC
   rw[lJc (show (envF qual scope cl s.heap.objs.size f cd).kindOf x=some .local from hl),lJc (show (envF qual scope cl s.heap.objs.size f cd).kindOf x=some .local from hl)]
   exact z
  dsimp only
  rw[lX5]
  exact lJd (fin s' z')
 ·have hn:¬ (envF qual scope cl s.heap.objs.size f cd).kindOf x=some .local:=by rw[show (envF qual scope cl s.heap.objs.size f cd).kindOf x=some .cell from hl];decide
  obtain⟨c,hc⟩:=jJ0 scope.names (s.heap.objs.size+1) [] (lJ3 hl)
  have hc2:(cellsFrom (s.heap.objs.size+1) scope.names cl).lookup x=some c:=by rw[jJ1,lXh,hc];rfl
  refine lJa (lJa (stC2 x0 hk hl hc2 hc fun s' z=>lJd ?_))
  have z':InCallC s s.heap.objs.size (bindL (envF qual scope cl s.heap.objs.size f cd).kindOf [(x,u)] fun _=>none) (cellsFrom (s.heap.objs.size+1) scope.names []) (bindC (envF qual scope cl s.heap.objs.size f cd).kindOf [(x,u)] fun _=>none) s':=by
   unfold bindL bindC bindL bindC
   rw[lJb hn,lJb hn]
   exact z
  dsimp only
  rw[lX5]
  exact lJd (fin s' z')
noncomputable def cxF (P:Program) (w:World) (K:PySem.W.Frag) (mg:Str->Option Value) (base:Heap) (N:List Str) (qual:Str) (scope:Scope) (cl:List (Str×Addr)) (f:Addr) (cd:Value) (A:Around) (outer:List Env) (s:Shared) (H:Hp):Cx where
 prog:=P
 w:=w
 K:=K
 mg:=mg
 base:=base
 A:=A.deeper (envF qual scope cl s.heap.objs.size f cd)
 N:=N
 s₀:=s
 H₀:=H
 env:=envF qual scope cl s.heap.objs.size f cd
 outer:=outer
 stack:=envF qual scope cl s.heap.objs.size f cd::outer
 ex:=[]
 calm:=true
 fn:=fun x=>scope.names.lookup x == some .cell
 pn:=[]
 xe:=fun _ _=>False
structure ClAt (H:Hp) (cl:List (Str×Addr)) (fr:List Str) (ws:List V):Prop where
 nm:cl.map (·.1)=fr
 ap:cl.Pairwise fun x y=>x.2≠y.2
 len:ws.length=fr.length
 val:∀(i:Nat) (y:Str) (c:Addr),cl[i]? =some (y,c)->∃oc u v w,H c=some (.frz oc u)/\oc.data= .cell (some w)/\ws[i]? =some v/\RelV v w
theorem kK1:∀ {cl:List (Str×Addr)} {y:Str} {c:Addr},cl.lookup y=some c->∃i:Nat,cl[i]? =some (y,c)
 | [],_,_,h=>by simp at h
 | (z,d)::r,y,c,h=>by
  rw[lKg] at h
  cases hb:y == z with
  | true=>rw[hb] at h;cases h;rw[eq_of_beq hb];exact⟨0,rfl⟩
  | false=>
   rw[hb] at h
   obtain⟨i,q⟩:=kK1 h
   exact⟨i+1,by simpa using q⟩
theorem kK0:∀ {cl:List (Str×Addr)} {i:Nat} {y:Str} {c:Addr},(cl.map (·.1)).Nodup->cl[i]? =some (y,c)->cl.lookup y=some c
 | [],_,_,_,_,h=>(by simp at h)
 | (z,d)::r,0,y,c,_,h=>by simp at h;obtain⟨rfl,rfl⟩:=h;simp[lKg]
 | (z,d)::r,i+1,y,c,nd,h=>by
  rw[lJo,lKu] at nd
  have h':r[i]? =some (y,c):=by simpa using h
  have ne:(y == z)=false:=beq_eq_false_iff_ne.mpr fun e=>nd.1 (by rw[<-e];exact lJj.mpr ⟨_,lJx h',rfl⟩)
  rw[lKg,ne]
  exact kK0 nd.2 h'
theorem kVt {P:Program} {w:World} {K:PySem.W.Frag} {mg:Str->Option Value} {base:Heap} {N fr:List Str} {x:Str} {qual:Str} {scope:Scope} {cl:List (Str×Addr)} {f:Addr} {cd:Value} {A:Around} {outer:List Env} {s s1:Shared} {H:Hp} {u:Value} {v:V} {ws:List V}
  (S:FvScope N x fr scope) (hd:A.handled=none/\A.guards=some []) (e0:Env0 P w K mg base A outer s H) (r:RelV v u) (C:ClAt H cl fr ws)
  (X:InCallC s s.heap.objs.size (bindL (envF qual scope cl s.heap.objs.size f cd).kindOf [(x,u)] fun _=>none) (cellsFrom (s.heap.objs.size+1) scope.names []) (bindC (envF qual scope cl s.heap.objs.size f cd).kindOf [(x,u)] fun _=>none) s1):
  Inv (cxF P w K mg base N qual scope cl f cd A outer s H) [] (L2.start N (v::ws)) H s1:=by
 have hpl:fr.length+1<=N.length:=by have:=lKo List.length S.pre;rw[lK1,lJ9] at this;omega
 obtain⟨h1,tk,rfl,hk⟩:=X.done
 have noA:∀b:Addr,b∉(cxF P w K mg base N qual scope cl f cd A outer s H).ex:=fun b z=>absurd (show b∈([]:List Addr) from z) (by simp)
 have clv:∀y c,cl.lookup y=some c->y∈fr/\∃oc u v w,H c=some (.frz oc u)/\oc.data= .cell (some w)/\RelV v w:=fun y c h=>by
  obtain⟨i,q⟩:=kK1 h
  obtain⟨oc,u,v,w,a1,a2,_,a4⟩:=C.val i y c q
  exact⟨by rw[<-C.nm];exact lJj.mpr ⟨_,lJx q,rfl⟩,oc,u,v,w,a1,a2,a4⟩
 have frf:∀y,y∈fr->scope.names.lookup y=some .free:=fun y h=>by simpa using lKk.mp S.frk y h
 have old:∀y c,cl.lookup y=some c->c<s.heap.objs.size:=fun y c h=>by
  obtain⟨_,oc,u,v,w,a1,_⟩:=clv y c h
  exact e0.hok.lt a1
 have new:∀y c,(cellsFrom (s.heap.objs.size+1) scope.names []).lookup y=some c->s.heap.objs.size<c:=fun y c h=>X.above y c (lJ3 h)
 have ndZ:(x::fr).Nodup:=by rw[<-S.pre];exact S.nd.sublist (lQu _ _)
 have ndF:fr.Nodup:=(lKu.mp ndZ).2
 have fre:∀(i:Nat) (y:Str) (c:Addr),cl[i]? =some (y,c)->(cellsFrom (s.heap.objs.size+1) scope.names cl).lookup y=some c:=fun i y c h=>by
  have hy:y∈fr:=by rw[<-C.nm];exact lJj.mpr ⟨_,lJx h,rfl⟩
  rw[jJ1,lXh]
  cases hq:(cellsFrom (s.heap.objs.size+1) scope.names []).lookup y with
  | none=>exact kK0 (by rw[C.nm];exact ndF) h
  | some e=>exact absurd (own_of S.own hq) (by rw[frf y hy];simp)
 refine⟨⟨e0.mod,S.kind,rfl,rfl,lJg _,fun y z c h1 h2=> ?_,fun y hy=> ?_,fun y c hf h=> ?_,fun _=>hd.1,fun _=>hd.2,Around.frames_deeper e0.frames,.inr ⟨rfl,rfl⟩,fun b z=>absurd z (noA b),e0.bs,e0.bsz,fun b _ _=>noA b,fun b z=>absurd z (noA b),e0.funs,e0.frf⟩,
  rfl,e0.bare,Un.kept hk,⟨_,X.toInCall.ns,fun i y v' h1 h2 h3=> ?_⟩,fun y c h=> ?_,e0.hok.fresh (lJg _),fun y c h=> ?_,fun p hp=>absurd (show p∈([]:List (Addr×Obj)) from hp) (by simp),e0.hok.kept hk,?_⟩
 ·rcases kKj h1 with z1 | ⟨_,z1⟩<;>rcases kKj h2 with z2 | ⟨_,z2⟩
  ·exact name_of_addr X.apart (lJ3 z1) (lJ3 z2)
  ·exact absurd (lQw (old _ _ z2) (new _ _ z1)) (lQn _)
  ·exact absurd (lQw (old _ _ z1) (new _ _ z2)) (lQn _)
  ·exact name_of_addr C.ap (lJ3 z1) (lJ3 z2)
 ·have hy:scope.names.lookup y=some .cell\/scope.names.lookup y=some .free:=hy
  rcases hy with hy | hy
  ·exact jJ0 _ _ _ (lJ3 hy)
  ·have hm:y∈fr:=by have:=lKk.mp S.free _ (lJ3 hy);simpa using this
   rw[<-C.nm] at hm
   obtain⟨⟨y',c⟩,hm2,rfl⟩:=lJj.mp hm
   obtain⟨i,hi⟩:=lKw hm2
   exact⟨c,fre i _ _ hi⟩
 ·have hf':scope.names.lookup y=some .cell:=eq_of_beq hf
  rcases kKj h with z | ⟨z,_⟩
  ·exact lQ3 (new y c z)
  ·obtain⟨e,he⟩:=jJ0 scope.names (s.heap.objs.size+1) [] (lJ3 hf')
   rw[he] at z;cases z
 ·have h3':scope.names.lookup y=some .local\/scope.names.lookup y=some .cell\/scope.names.lookup y=some .free:=h3
  cases i with
  | zero=>
   have e1:y=x:=by
    have q:(N.take (fr.length+1))[0]? =some y:=by rw[lY2 (by omega)];exact h1
    rw[S.pre] at q;simpa using q.symm
   subst e1
   have e2:v'=v:=by unfold L2.start at h2;simpa using h2.symm
   subst e2
   refine⟨u,r,?_⟩
   rcases S.par with k | k
   ·exact .inl ⟨k,by unfold bindL bindL;rw[lJc (show (envF qual scope cl s.heap.objs.size f cd).kindOf y=some .local from k),lJc rfl]⟩
   ·obtain⟨c,e⟩:=jJ0 scope.names (s.heap.objs.size+1) [] (lJ3 k)
    have q:=X.cell y c e
    unfold bindC bindC at q
    rw[lJb (show ¬ (envF qual scope cl s.heap.objs.size f cd).kindOf y=some .local by rw[show (envF qual scope cl s.heap.objs.size f cd).kindOf y=some .cell from k];decide),lJc rfl] at q
    exact .inr ⟨.inl k,c,by show (cellsFrom (s.heap.objs.size+1) scope.names cl).lookup y=some c;rw[jJ1,lXh,e];rfl,q⟩
  | succ i=>
   have hi:ws[i]? =some v':=by
    unfold L2.start at h2
    rcases lXa i ws.length with z | z
    ·rw[lK9 (by simpa using z)] at h2
     simp only[lJo,List.getElem?_cons_succ,lJz] at h2
     cases e:ws[i]? with
     | none=>rw[e] at h2;cases h2
     | some a=>rw[e] at h2;cases h2;rfl
    ·rw[lK8 (by simpa using z),List.getElem?_replicate] at h2
     split at h2<;>cases h2
   have lt:i<fr.length:=by rw[<-C.len];exact (lJq.mp hi).1
   have hy:fr[i]? =some y:=by
    have q:(N.take (fr.length+1))[i+1]? =some y:=by rw[lY2 (by omega)];exact h1
    rw[S.pre] at q;simpa using q
   rw[<-C.nm,lJz] at hy
   obtain⟨⟨y',c⟩,hc,rfl⟩:=lVf.mp hy
   obtain⟨oc,uo,v2,w2,a1,a2,a3,a4⟩:=C.val i _ _ hc
   rw[hi] at a3;cases a3
   obtain⟨g1,_⟩:=e0.hok c _ a1
   refine⟨w2,a4,.inr ⟨.inr (frf _ (by rw[<-C.nm];exact lJj.mpr ⟨_,lJx hc,rfl⟩)),c,fre i _ _ hc,oc,hk c oc g1,a2⟩⟩
 ·rcases kKj h with z | ⟨_,z⟩
  ·exact⟨_,X.cell y c z⟩
  ·obtain⟨_,oc,uo,v2,w2,a1,a2,_⟩:=clv y c z
   obtain⟨g1,_⟩:=e0.hok c _ a1
   exact⟨_,oc,hk c oc g1,a2⟩
 ·rcases kKj h with z | ⟨_,z⟩
  ·exact .inl (e0.hok.fresh (lQ3 (new y c z)))
  ·obtain⟨hy,oc,uo,v2,w2,a1,_⟩:=clv y c z
   exact .inr ⟨by show (scope.names.lookup y == some .cell)=false;rw[frf y hy];rfl,oc,uo,a1⟩
 ·unfold L2.start
  show _=N.length
  have:=C.len
  rw[lKb,lJf,List.length_replicate,lJ9]
  omega
inductive CelT (G:Gp):List (Str×Addr)->List Str->List T->Prop
 | nil:CelT G [] [] []
 | cons {y:Str} {c:Addr} {t:T} {cl:List (Str×Addr)} {fr:List Str} {ts:List T}:G c=some (.cel t)->(∀z∈cl,c≠z.2)->CelT G cl fr ts->CelT G ((y,c)::cl) (y::fr) (t::ts)
theorem CelT.at {K:PySem.W.Frag} {H:Hp} {G:Gp} {cl:List (Str×Addr)} {fr:List Str} {ts:List T} (g:GRel K H G) (h:CelT G cl fr ts):∃ws,Reps K H ts ws/\ClAt H cl fr ws:=by
 induction h with
 | nil=>exact⟨[],rfl,rfl,.nil,rfl,fun i y c e=>by simp at e⟩
 | @cons y c t cl fr ts h1 h2 h3 ih=>
  obtain⟨ws,r,C⟩:=ih
  obtain⟨ob,u,v,w,a1,a2,a3,a4⟩:=(show ∃ob u v w,H c=some (.frz ob u)/\ob.data= .cell (some w)/\RelV v w/\Rep K H t v from g c _ h1)
  refine⟨v::ws,⟨v,ws,rfl,a4,r⟩,by rw[lJo,C.nm],List.pairwise_cons.mpr ⟨h2,C.ap⟩,by simp[C.len],fun i y' c' e=> ?_⟩
  cases i with
  | zero=>simp at e;obtain⟨rfl,rfl⟩:=e;exact⟨ob,u,v,w,a1,a2,rfl,a3⟩
  | succ i=>simpa using C.val i y' c' (by simpa using e)
theorem CelT.nm {G:Gp} {cl:List (Str×Addr)} {fr:List Str} {ts:List T} (h:CelT G cl fr ts):cl.map (·.1)=fr:=by
 induction h with
 | nil=>rfl
 | cons _ _ _ ih=>rw[lJo,ih]
structure FvC (P:Program) (w:World) (K:PySem.W.Frag) (mg:Str->Option Value) (base:Heap) (k:Nat) (N:NF) (fr:List Str) (sp:Sp3):Prop where
 run:∀(A:Around) (outer:List Env) (s:Shared) (H:Hp) (G:Gp) (f:Addr) (cl:List (Str×Addr)) (t:T) (u:Value) (ts:List T) (Q:VK3),Room k A->Env0 P w K mg base A outer s H->GRel K H G->G f=some (.fn N cl)->RU K H t u->CelT G cl fr ts->sp (t::ts) G Q->
  codeAny (model P w) A (.call (.ref f) ⟨[u],[]⟩) (CR CX0 outer P w H s (up K H Q) E0) s
def Bd1 (N:NF) (x:Str):Prop:=∀fd:FuncData,fd.params=N.params->fd.defaults= .none->fd.kwdefaults= .none->∀u,bindArgs fd ⟨[u],[]⟩=pure [(x,u)]
section
variable {P:Program} {w:World} {K:PySem.W.Frag} {mg:Str->Option Value} {base:Heap} {k:Nat} {N:NF} {NN fr:List Str} {x:Str} {sp:Sp3}
theorem LCode.rec' {H:Hp} {h:Heap} {c':Addr} {q:Str} (l:LCode H c' q) (ok:HOk P w H h):h.CodeRec (.ref c') q:=by
 obtain⟨oc,u,vs,tq,h1,h2,h3⟩:=l
 exact⟨c',oc,vs,tq,rfl,(ok c' _ h1).1,h2,h3⟩
theorem qQz {body:List Stmt} {t:TS3} (hb:N.body= .stmts body) (S:FvScope NN x fr N.scope) (hbd:Bd1 N x)
  (ht:∀(cl:List (Str×Addr)) (f c':Addr) (A:Around) (outer:List Env) (s:Shared) (H:Hp),cl.map (·.1)=fr->Room k (A.deeper (envF N.qual N.scope cl s.heap.objs.size f (.ref c')))->PSs3 (cxF P w K mg base NN N.qual N.scope cl f (.ref c') A outer s H) body t)
  (hq:∀xs G Q,sp xs G Q->t {nx:=fun _ G'=>Q .non G',rt:=Q} (jKc NN xs) G):FvC P w K mg base (k+1) N fr sp:=by
 refine⟨fun A outer s H G f cl t0 u ts Q hr e0 hg hf ru hc hsp=> ?_⟩
 obtain⟨ob,uo,fd,c',h1,h2,F,L⟩:=(show ∃ob u fd c,H f=some (.frz ob u)/\ob.data= .func fd/\FdOf N cl fd c/\LCode H c N.qual from hg f _ hf)
 obtain⟨ws,rs,C⟩:=hc.at hg
 obtain⟨v,rv,ru'⟩:=ru
 have ho:s.heap.get? f=some ob:=(e0.hok f _ h1).1
 have hcd:s.heap.CodeRec (.ref c') N.qual:=L.rec' e0.hok
 have lim:s.heap.NoLimit:=e0.mod.nolimit.keeps fun b o e=>(e0.bs b o e).1
 have hb':=hbd fd F.params F.defaults F.kwdefaults u
 refine codeAny_call_function hr.depth ho h2 (by rw[F.scope];exact S.co) (by rw[F.scope];exact S.gen) (by rw[F.body];exact hb) (by rw[F.code,F.qual];exact hcd) ?_
 rw[hb',F.scope,F.globals,F.closure,F.qual,F.code,F.builtins]
 refine lJd (kKy S.kind S.par fun s1 X=>⟨lim.keeps X.toInCall.keep,codeAny_func ?_⟩)
 have I:Inv (cxF P w K mg base NN N.qual N.scope cl f (.ref c') A outer s H) [] (L2.start NN (v::ws)) H s1:=kVt S ⟨hr.hd,hr.gd⟩ e0 ru' C X
 have I3:Inv3 (cxF P w K mg base NN N.qual N.scope cl f (.ref c') A outer s H) [] (jKc NN (t0::ts)) G H s1:=⟨_,I,jVs ⟨v,ws,rfl,rv,rs⟩,hg⟩
 refine lQf (ht cl f c' A outer s H hc.nm (hr.deeper _) [] s1 _ G H _ I3 (hq _ _ _ hsp)) (fun fl s' z=> ?_) fun e s' z=>z.elim
 cases fl with
 | next=>obtain⟨τ',G',H',e',⟨σ',J,a,b⟩,q⟩:=z;exact⟨.non,H',J.os,J.bare,J.base,J.hok,rfl,.non,G',e',b,rfl,q⟩
 | brk=>obtain⟨τ',G',H',e',_,q⟩:=z;exact q.elim
 | cont=>obtain⟨τ',G',H',e',_,q⟩:=z;exact q.elim
 | ret u2=>obtain⟨y,τ',G',H',e',⟨σ',J,a,b⟩,⟨v2,r2,r3⟩,q⟩:=z;exact⟨v2,H',J.os,J.bare,J.base,J.hok,r3,y,G',e',b,r2,q⟩
theorem qXz {body:Expr} {t:TE3} (hb:N.body= .expr body) (S:FvScope NN x fr N.scope) (hbd:Bd1 N x)
  (ht:∀(cl:List (Str×Addr)) (f c':Addr) (A:Around) (outer:List Env) (s:Shared) (H:Hp),cl.map (·.1)=fr->Room k (A.deeper (envF N.qual N.scope cl s.heap.objs.size f (.ref c')))->PE3 (cxF P w K mg base NN N.qual N.scope cl f (.ref c') A outer s H) body t)
  (hq:∀xs G Q,sp xs G Q->t (jKc NN xs) G Q):FvC P w K mg base (k+1) N fr sp:=by
 refine⟨fun A outer s H G f cl t0 u ts Q hr e0 hg hf ru hc hsp=> ?_⟩
 obtain⟨ob,uo,fd,c',h1,h2,F,L⟩:=(show ∃ob u fd c,H f=some (.frz ob u)/\ob.data= .func fd/\FdOf N cl fd c/\LCode H c N.qual from hg f _ hf)
 obtain⟨ws,rs,C⟩:=hc.at hg
 obtain⟨v,rv,ru'⟩:=ru
 have ho:s.heap.get? f=some ob:=(e0.hok f _ h1).1
 have hcd:s.heap.CodeRec (.ref c') N.qual:=L.rec' e0.hok
 have lim:s.heap.NoLimit:=e0.mod.nolimit.keeps fun b o e=>(e0.bs b o e).1
 have hb':=hbd fd F.params F.defaults F.kwdefaults u
 refine PySem.W.kla_callFunE hr.depth ho h2 (by rw[F.scope];exact S.co) (by rw[F.scope];exact S.gen) (by rw[F.body];exact hb) (by rw[F.code,F.qual];exact hcd) ?_
 rw[hb',F.scope,F.globals,F.closure,F.qual,F.code,F.builtins]
 refine lJd (kKy S.kind S.par fun s1 X=>⟨lim.keeps X.toInCall.keep,PySem.W.kla_codeExpr ?_⟩)
 have I:Inv (cxF P w K mg base NN N.qual N.scope cl f (.ref c') A outer s H) [] (L2.start NN (v::ws)) H s1:=kVt S ⟨hr.hd,hr.gd⟩ e0 ru' C X
 have I3:Inv3 (cxF P w K mg base NN N.qual N.scope cl f (.ref c') A outer s H) [] (jKc NN (t0::ts)) G H s1:=⟨_,I,jVs ⟨v,ws,rfl,rv,rs⟩,hg⟩
 refine lQf (ht cl f c' A outer s H hc.nm (hr.deeper _) [] s1 _ G H _ I3 (hq _ _ _ hsp)) (fun u2 s' z=> ?_) fun e s' z=>z.elim
 obtain⟨y,G',H',e',⟨σ',J,a,b⟩,⟨v2,r2,r3⟩,q⟩:=z
 exact⟨v2,H',J.os,J.bare,J.base,J.hok,r3,y,G',e',b,r2,q⟩
end
noncomputable def jYm (N:NF) (fr:List Str) (sp:Sp3) (tf:TE3) (ta:TA3):TE3:=fun τ G Q=>tf τ G fun x G0=>∃f cl,x= .ref f/\G0 f=some (.fn N cl)/\ta τ G0 fun xs G1=>∃y ts,xs=[y]/\G1 f=some (.fn N cl)/\CelT G1 cl fr ts/\sp (y::ts) G1 Q
theorem qJq {X:Cx} {k:Nat} {N:NF} {fr:List Str} {sp:Sp3} {nm:Str} {p pos:Pos} {e:Expr} {tf:TE3} {ta:TA3} (C:FvC X.prog X.w X.K X.mg X.base k N fr sp) (hr:Room k X.A) (hf:PE3 X (.Name nm p) tf) (ha:PA3 X [e] ta)
  (he:starEach [e] X.env=(false,eval e X.env)::starEach [] X.env:=by rfl) (hpl:(backTo pos (starEach [] X.env)).any (·.1)=false:=by rfl):PE3 X (.Call (.Name nm p) [e] [] pos) (jYm N fr sp tf ta):=by
 intro pins s τ G H Q I h
 refine lXx (thn (hf pins s τ G H _ I h) fun u s1 w_=>w_.el fun x G1 H1 e1 I1 r1 q=> ?_)
 obtain⟨f,cl,rfl,hG,q⟩:=q
 obtain⟨v,rv,ru⟩:=r1
 cases (show v= .ref f from rv)
 obtain rfl:u=Value.ref f:=ru
 have fnat:∀ {H2:Hp} {G2:Gp} {s2:Shared},Inv3 X pins τ G2 H2 s2->G2 f=some (.fn N cl)->PySem.W.FnAt f s2.heap:=fun {H2 G2 s2} J hz=>by
  obtain⟨σ,J,_,g⟩:=J
  obtain⟨ob,uo,fd,c',h1,h2,_⟩:=(show ∃ob u fd c,H2 f=some (.frz ob u)/\ob.data= .func fd/\FdOf N cl fd c/\LCode H2 c N.qual from g f _ hz)
  have z:=(J.hok f _ h1).1
  obtain⟨oc,od,dt,sl⟩:=ob
  dsimp only at h2
  subst h2
  exact⟨oc,od,fd,sl,z⟩
 refine PySem.W.callWith_F (first:=[]) (fnat I1 hG) (thn (ha pos pins s1 τ G1 H1 _ I1 q) fun us s2 w_=>w_.el fun xs G2 H2 e2 I2 r_ q=> ?_) he hpl
 obtain⟨y,ts,rfl,hG2,hc,q⟩:=q
 refine⟨fnat I2 hG2,?_⟩
 obtain⟨σ,J,hs2,hg2⟩:=I2
 obtain⟨vs,ras,rvs⟩:=r_
 obtain⟨v1,ws,rfl,r1,r2⟩:=ras
 cases (show ws=[] from r2)
 cases rvs with
 | @cons _ u1 _ us1 q1 q2=>
 cases q2
 refine thn (wpAny_call (lVr (C.run X.A X.stack s2 H2 G2 f cl y u1 ts Q hr J.env0 hg2 hG2 ⟨v1,r1,q1⟩ hc q) fun r s' hq=> ?_)) fun u s' z=>(jV0 hs2 z).ext (e1.trans e2)
 cases r with
 | error e=>exact (show False from hq).elim
 | ok fl=>
  cases fl with
  | ret u=>exact J.after hq
  | next=>exact False.elim hq
  | brk=>exact False.elim hq
  | cont=>exact False.elim hq
end L3
namespace L3
open PySem PySem.Spec PyProof.Rows L2 PySem.W
class BuB (base:Heap) (mg:Str->Option Value):Prop where
 ex:∃bm o,mg "__builtins__"=some (.ref bm)/\bm≠builtinsNs/\bm≠mainGlobals/\base.get? bm=some o/\o.cls= .type "module"/\o.dict=some builtinsNs/\o.data= .plain
structure LamAt (X:Cx) (Pt:Addr):Prop where
 ex:∃c,X.env.code= .ref c/\codeHdIn X.K c Pt=true
 bu:BuB X.base X.mg
theorem TbL.snoc {H:Hp} {es:List (Nat×Nat×Str)} {ps:List Value} {l c:Nat} {q:Str} {t1 t2:Tok} {c':Addr} (h:TbL H es ps) (hi:(l,c,q)∈es) (hl:LCode H c' q):TbL H es (ps++[.int l t1,.int c t2,.ref c']):=by
 induction h with
 | nil=>exact .cons hi hl .nil
 | cons a b _ ih=>exact .cons a b ih
theorem TbL.ok {H:Hp} {es:List (Nat×Nat×Str)} {ps:List Value} (h:TbL H es ps):TriplesOk ps:=by
 induction h with
 | nil=>trivial
 | cons a b _ ih=>exact ih
theorem TbL.among {H:Hp} {es:List (Nat×Nat×Str)} {ps:List Value} {pos:Pos} (h:TbL H es ps):codeAmong pos ps=none\/∃c' q,codeAmong pos ps=some (.ref c')/\((pos.line,pos.col,q):Nat×Nat×Str)∈es/\LCode H c' q:=by
 induction h with
 | nil=>exact .inl rfl
 | @cons l c q t1 t2 c' r a b _ ih=>
  unfold codeAmong
  by_cases hz:((l:Int) == pos.line&&(c:Int) == pos.col)=true
  ·rw[lJc hz]
   rw[lK2,beq_iff_eq,beq_iff_eq] at hz
   obtain⟨z1,z2⟩:=hz
   have e1:l=pos.line:=by exact_mod_cast z1
   have e2:c=pos.col:=by exact_mod_cast z2
   subst e1;subst e2
   exact .inr ⟨c',q,rfl,a,b⟩
  ·rw[lJb hz];exact ih
section
variable {X:Cx} {pins:List (Addr×Obj)} {σ:L2.St} {H:Hp} {G:Gp} {s:Shared}
theorem kQf {Pt c':Addr} {es:List (Nat×Nat×Str)} {ps:Array Value} {l c:Nat} {q:Str} {h':Heap} {tk:Nat} (I:Inv X pins σ H s) (hg:GRel X.K H G) (hp:G Pt=some (.tbs es)) (h1:H Pt=some (.tbl ps)) (h2:TbL H es ps.toList) (hx:Heap.ExtBut Pt s.heap h') (hge:s.heap.objs.size<=c') (hlt:c'<h'.objs.size)
  (hrec:h'.CodeRec (.ref c') q) (htb:h'.get? Pt=some (tabObj (ps++ #[rawInt l,rawInt c,.ref c']))) (hes:(l,c,q)∈es):∃H',Inv X pins σ H' {s with heap:=h',toks:=tk}/\Ext H H'/\GRel X.K H' G/\LCode H' c' q:=by
 obtain⟨c2,oc,vs,tq,e2,hoc,hd,hv⟩:=hrec
 cases e2
 have hP:s.heap.get? Pt=some (tabObj ps):=I.hok Pt _ h1
 have fr:∀b,s.heap.objs.size<=b->H b=none:=fun b hb=>I.hok.fresh hb
 have szP:Pt<s.heap.objs.size:=lJi hP
 have cP:c'≠Pt:=fun q=>by rw[q] at hge;exact absurd szP (Nat.not_lt.mpr hge)
 have nP:∀ {b:Addr} {o:HO},H b=some o->(∀ps,o≠ .tbl ps)->b≠Pt:=fun {b o} e n q=>by rw[q,h1] at e;cases e;exact n _ rfl
 have nc:∀ {b:Addr} {o:HO},H b=some o->b≠c':=fun {b o} e q=>by rw[q,fr c' hge] at e;cases e
 have at_:∀ {b:Addr},b≠Pt->b≠c'->upd (upd H Pt (.tbl (ps++ #[rawInt l,rawInt c,.ref c']))) c' (.frz oc (.ext fun h=>h.get? c'=some oc)) b=H b:=fun {b} n1 n2=>by rw[jJr n2,jJr n1]
 have tb_:upd (upd H Pt (.tbl (ps++ #[rawInt l,rawInt c,.ref c']))) c' (.frz oc (.ext fun h=>h.get? c'=some oc)) Pt=some (.tbl (ps++ #[rawInt l,rawInt c,.ref c'])):=by rw[jJr (Ne.symm cP),jJ3]
 have cc_:upd (upd H Pt (.tbl (ps++ #[rawInt l,rawInt c,.ref c']))) c' (.frz oc (.ext fun h=>h.get? c'=some oc)) c'=some (.frz oc (.ext fun h=>h.get? c'=some oc)):=jJ3
 generalize upd (upd H Pt (.tbl (ps++ #[rawInt l,rawInt c,.ref c']))) c' (.frz oc (.ext fun h=>h.get? c'=some oc))=H' at at_ tb_ cc_
 have ext:Ext H H':=⟨fun b xs e=>by rw[at_ (nP e fun _ z=>nomatch z) (nc e)];exact e,fun b o u e=>by rw[at_ (nP e fun _ z=>nomatch z) (nc e)];exact e⟩
 have lc:LCode H' c' q:=⟨oc,_,vs,tq,cc_,hd,hv⟩
 have un:Un X.fs [] H H' s.heap h':=by
  have nn:∀ {b:Addr},H b=none->b≠Pt:=fun {b} e q=>by rw[q,h1] at e;cases e
  refine⟨fun b o e n _ _=>hx b o (nn n) e,fun b o e n _ _=>⟨o.slots,hx b o (nn n) e⟩,fun b o e n _=> ?_,fun b o e _=> ?_,ext.tup,ext.frz,fun b ps' e=> ?_⟩
  ·rw[at_ (nn n) (fun q=>by rw[q] at e;exact absurd (lJi e) (Nat.not_lt.mpr hge))];exact n
  ·by_cases q:b=Pt
   ·rw[q];exact⟨_,htb⟩
   ·exact⟨o,hx b o q e⟩
  ·by_cases q:b=Pt
   ·rw[q] at e ⊢
    rw[h1] at e;cases e
    exact⟨_,tb_⟩
   ·exact⟨#[],by rw[at_ q (nc e),e];simp⟩
 have hok:HOk X.prog X.w H' h':=fun a o e=>by
  by_cases q1:a=c'
  ·subst q1
   rw[cc_] at e;cases e
   exact⟨hoc,hoc,⟨oc,hoc⟩,fun h1 h2 p k=>k oc p⟩
  ·by_cases q2:a=Pt
   ·subst q2
    rw[tb_] at e;cases e
    exact htb
   ·rw[at_ q2 q1] at e
    refine (I.hok a o e).stay (fun b w hc q=> ?_) (fun b q=> ?_) fun b xs q=>ext.tup b xs q
    ·rcases hc with rfl | hc
     ·exact hx _ w q2 q
     ·exact hx _ w (nP hc fun _ z=>nomatch z) q
    ·rw[at_ (nP q fun _ z=>nomatch z) (nc q)];exact q
 have grel:GRel X.K H' G:=fun a o e=>by
  by_cases q:a=Pt
  ·subst q
   rw[hp] at e;cases e
   exact⟨_,tb_,by rw[lQj];exact (h2.mono ext).snoc hes lc⟩
  ·have z:=hg a o e
   cases hz:H a with
   | none=>exact absurd hz z.some
   | some u=>exact GOk.move z ext (at_ q (nc hz))
 exact⟨H',I.un (h':=h') (t':=tk) un hok,ext,grel,lc⟩
theorem kJ7 {N:NF} {cl:List (Str×Addr)} {oF:Obj} {fd:FuncData} {c':Addr} (I:Inv X pins σ H s) (hg:GRel X.K H G) (hfr:oF.isFreed=false) (hd:oF.data= .func fd) (F:FdOf N cl fd c') (L:LCode H c' N.qual):
  ∃H',Inv X pins σ H' {s with heap:=s.heap.push oF}/\Ext H H'/\H s.heap.objs.size=none/\GRel X.K H' (gup G s.heap.objs.size (.fn N cl)):=by
 have hn:H s.heap.objs.size=none:=I.hok.fresh (lJg _)
 have hp:(s.heap.push oF).get? s.heap.objs.size=some oF:=lJ8 _ hfr
 have e:Ext H (upd H s.heap.objs.size (.frz oF (.ext fun h=>h.get? s.heap.objs.size=some oF))):= .upd (.none hn)
 exact⟨upd H s.heap.objs.size (.frz oF (.ext fun h=>h.get? s.heap.objs.size=some oF)),I.laid (t':=s.toks) (fun b u q=>lJl _ q) (lJg _) ⟨hp,hp,⟨oF,hp⟩,fun h1 h2 p k=>k oF p⟩,e,hn,hg.upd (.none hn) (go:= .fn N cl) ⟨oF,_,fd,c',jJ3,hd,F,L.mono e⟩⟩
def mkF (Pt:Addr) (es:List (Nat×Nat×Str)) (N:NF) (cl:List (Str×Addr)) (G:Gp) (Q:Addr->Gp->Prop):Prop:=G Pt=some (.tbs es)/\∀p,G p=none->Q p (gup G p (.fn N cl))
theorem qXa {E:Value->Shared->Prop} {Pt:Addr} {es:List (Nat×Nat×Str)} {cl:List (Str×Addr)} {params:Arguments} {body:Expr} {scope:Scope} {pos:Pos} (I:Inv X pins σ H s) (hg:GRel X.K H G) (A:LamAt X Pt)
  (hp:G Pt=some (.tbs es)) (hcl:closureFor scope X.env=pure cl) (hdef:defaultsOf params X.env=([],[])) (hin:((pos.line,pos.col,X.env.qual++"<lambda>"):Nat×Nat×Str)∈es) (hun:∀q,((pos.line,pos.col,q):Nat×Nat×Str)∈es->q=X.env.qual++"<lambda>") {Q:Value->Shared->Prop}
  (k:∀(f:Addr) (s':Shared) (H':Hp),Inv X pins σ H' s'->Ext H H'->G f=none->GRel X.K H' (gup G f (.fn ⟨X.env.qual++"<lambda>",params,.expr body,scope⟩ cl))->Q (.ref f) s'):
  wpAny (model X.prog X.w) X.A (eval (.Lambda params body scope pos) X.env) Q E s:=by
 obtain⟨c,hcode,C0⟩:=A.ex
 have C:=codeHd_of_K I.mod.kin C0
 obtain⟨ps,h1,h2⟩:=(show ∃ps:Array Value,H Pt=some (.tbl ps)/\TbL H es ps.toList from hg Pt _ hp)
 have hP:s.heap.get? Pt=some (tabObj ps):=I.hok Pt _ h1
 have CH:CodeHd s.heap c Pt:=C.keeps I.bk
 have hgs:s.heap.Ns mainGlobals X.mg:=I.mod.glob.keeps I.bk
 obtain⟨bm,ob,b1,b2,b3,b4,b5,b6,b7⟩:=A.bu.ex
 have hbm:=I.bs bm ob b4
 have hgP:mainGlobals≠Pt:=fun q=>by
  (obtain⟨o,es,ep,e,hd,_⟩:=hgs)
  rw[q,hP] at e;cases e;cases hd
 have hb:s.heap.BuiltinsAt X.mg Pt:=⟨bm,ob,b1,b2,b3,jKy h1 hbm.2 |>.symm,hbm.1,b5,b6,b7⟩
 refine kla_eval hdef ?_
 rcases h2.among (pos:=pos) with hn | ⟨c',q,hf,hi,L⟩
 ·refine kla_makeFunction hcl I.ok.glob hgs hcode CH hP h2.ok hn hgP hb fun c' ctv h' tk hx hge hlt hrec htb=> ?_
  obtain⟨H1,I1,e1,g1,L1⟩:=kQf (tk:=tk) I hg hp h1 h2 hx hge hlt hrec htb hin
  obtain⟨H2,I2,e2,hf,g2⟩:=kJ7 (N:=⟨X.env.qual++"<lambda>",params,.expr body,scope⟩) (cl:=cl) (oF:=kla_obj "<lambda>" (X.env.qual++"<lambda>") params body scope cl ((X.mg "__name__").getD .none) c' ctv) I1 g1 rfl rfl ⟨rfl,rfl,rfl,rfl,rfl,rfl,rfl,rfl,rfl,rfl⟩ L1
  exact k _ _ H2 I2 (e1.trans e2) (g1.fresh hf) g2
 ·obtain rfl:=hun q hi
  refine kla_makeFunctionHit hcl I.ok.glob hgs hcode CH hP h2.ok hf hb fun ctv h' tk hk hsz=> ?_
  have I1:Inv X pins σ H {s with heap:=h',toks:=tk}:=I.kept hk
  obtain⟨H2,I2,e2,hf,g2⟩:=kJ7 (N:=⟨X.env.qual++"<lambda>",params,.expr body,scope⟩) (cl:=cl) (oF:=kla_obj "<lambda>" (X.env.qual++"<lambda>") params body scope cl ((X.mg "__name__").getD .none) c' ctv) I1 hg rfl rfl ⟨rfl,rfl,rfl,rfl,rfl,rfl,rfl,rfl,rfl,rfl⟩ L
  exact k _ _ H2 I2 e2 (hg.fresh hf) g2
theorem qXb {E:Value->Shared->Prop} {Pt:Addr} {es:List (Nat×Nat×Str)} {cl:List (Str×Addr)} {name qual:Str} {params:Arguments} {body:List Stmt} {scope:Scope} {pos:Pos} {fl:Nat} (I:Inv X pins σ H s) (hg:GRel X.K H G) (A:LamAt X Pt)
  (hp:G Pt=some (.tbs es)) (hcl:closureFor scope X.env=pure cl) (hin:((pos.line,pos.col,qual):Nat×Nat×Str)∈es) (hun:∀q,((pos.line,pos.col,q):Nat×Nat×Str)∈es->q=qual) {Q:Value->Shared->Prop}
  (k:∀(f:Addr) (s':Shared) (H':Hp),Inv X pins σ H' s'->Ext H H'->G f=none->GRel X.K H' (gup G f (.fn ⟨qual,params,.stmts body,scope⟩ cl))->Q (.ref f) s'):
  wpAny (model X.prog X.w) X.A (makeFunction name qual params (.stmts body) scope X.env [] [] [] pos fl) Q E s:=by
 obtain⟨c,hcode,C0⟩:=A.ex
 have C:=codeHd_of_K I.mod.kin C0
 obtain⟨ps,h1,h2⟩:=(show ∃ps:Array Value,H Pt=some (.tbl ps)/\TbL H es ps.toList from hg Pt _ hp)
 have hP:s.heap.get? Pt=some (tabObj ps):=I.hok Pt _ h1
 have CH:CodeHd s.heap c Pt:=C.keeps I.bk
 have hgs:s.heap.Ns mainGlobals X.mg:=I.mod.glob.keeps I.bk
 obtain⟨bm,ob,b1,b2,b3,b4,b5,b6,b7⟩:=A.bu.ex
 have hbm:=I.bs bm ob b4
 have hgP:mainGlobals≠Pt:=fun q=>by
  (obtain⟨o,es,ep,e,hd,_⟩:=hgs)
  rw[q,hP] at e;cases e;cases hd
 have hb:s.heap.BuiltinsAt X.mg Pt:=⟨bm,ob,b1,b2,b3,jKy h1 hbm.2 |>.symm,hbm.1,b5,b6,b7⟩
 rcases h2.among (pos:=pos) with hn | ⟨c',q,hf,hi,L⟩
 ·refine makeFunction_K hcl I.ok.glob hgs hcode CH hP h2.ok hn hgP hb fun c' ctv doc h' tk hx hge hlt hrec htb=> ?_
  obtain⟨H1,I1,e1,g1,L1⟩:=kQf (tk:=tk) I hg hp h1 h2 hx hge hlt hrec htb hin
  obtain⟨H2,I2,e2,hf,g2⟩:=kJ7 (N:=⟨qual,params,.stmts body,scope⟩) (cl:=cl) (oF:=fnMade name qual params body scope cl doc ((X.mg "__name__").getD .none) c' ctv) I1 g1 rfl rfl ⟨rfl,rfl,rfl,rfl,rfl,rfl,rfl,rfl,rfl,rfl⟩ L1
  exact k _ _ H2 I2 (e1.trans e2) (g1.fresh hf) g2
 ·obtain rfl:=hun q hi
  refine makeFunction_hit hcl I.ok.glob hgs hcode CH hP h2.ok hf hb fun ctv doc h' tk hk hsz=> ?_
  have I1:Inv X pins σ H {s with heap:=h',toks:=tk}:=I.kept hk
  obtain⟨H2,I2,e2,hf,g2⟩:=kJ7 (N:=⟨q,params,.stmts body,scope⟩) (cl:=cl) (oF:=fnMade name q params body scope cl doc ((X.mg "__name__").getD .none) c' ctv) I1 hg rfl rfl ⟨rfl,rfl,rfl,rfl,rfl,rfl,rfl,rfl,rfl,rfl⟩ L
  exact k _ _ H2 I2 e2 (hg.fresh hf) g2
end
def tMkF (Pt:Addr) (es:List (Nat×Nat×Str)) (N:NF) (cl:List (Str×Addr)):TE3:=fun _ G Q=>mkF Pt es N cl G fun p G'=>Q (.ref p) G'
def qVn (i:Nat) (Pt:Addr) (es:List (Nat×Nat×Str)) (N:NF) (cl:List (Str×Addr)):TS3:=fun D τ G=>mkF Pt es N cl G fun p G'=>D.nx (τ.set i (some (.ref p))) G'
section
variable {X:Cx} {Pt:Addr} {es:List (Nat×Nat×Str)} {N:NF} {cl:List (Str×Addr)} {params:Arguments} {scope:Scope} {pos:Pos}
theorem e_lamF {body:Expr} (A:LamAt X Pt) (hN:N=⟨X.env.qual++"<lambda>",params,.expr body,scope⟩) (hcl:closureFor scope X.env=pure cl) (hdef:defaultsOf params X.env=([],[])) (hin:((pos.line,pos.col,X.env.qual++"<lambda>"):Nat×Nat×Str)∈es) (hun:∀q,((pos.line,pos.col,q):Nat×Nat×Str)∈es->q=X.env.qual++"<lambda>"):
  PE3 X (.Lambda params body scope pos) (tMkF Pt es N cl):=by
 subst hN
 rintro pins s τ G H Q ⟨σ,I,hs,hg⟩ ⟨hp,k⟩
 exact qXa I hg A hp hcl hdef hin hun fun f s' H' I' e hn g=>⟨.ref f,_,H',e,⟨σ,I',hs.mono e,g⟩,⟨.ref f,rfl,rfl⟩,k f hn⟩
theorem s_defF {name:Str} {body:List Stmt} {i:Nat} (nd:X.N.Nodup) (A:LamAt X Pt) (hN:N=⟨qualnameIn X.env name name,params,.stmts body,scope⟩) (hi:X.N[i]? =some name) (hx:Loc X.env.scope name) (hcl:closureFor scope X.env=pure cl)
  (hd0:params.defaults=[]) (hk0:params.kw_defaults=[]) (ha:annTrees params none X.env=[]) (hin:((pos.line,pos.col,N.qual):Nat×Nat×Str)∈es) (hun:∀q,((pos.line,pos.col,q):Nat×Nat×Str)∈es->q=N.qual)
  (hf:X.fn name=true\/X.env.scope.names.lookup name=some .local:=by first | exact .inl rfl | exact .inr rfl):PS3 X (.FunctionDef name params body [] none [] scope none name pos) (qVn i Pt es N cl):=by
 subst hN
 rintro pins s τ G H D ⟨σ,I,hs,hg⟩ ⟨hp,k⟩
 refine nestDef_K hd0 hk0 ha (qXb I hg A hp hcl hin hun fun f s' H' I' e hn g=> ?_)
 exact kKl (v:= .ref f) I' nd hi hx rfl (fun s2 I2 _=>⟨_,_,H',e,⟨_,I2,(hs.mono e).set i (show Rep X.K H' (.ref f) (.ref f) from rfl),g⟩,k f hn⟩) hf
end
end L3
namespace L3
open PySem PySem.Spec PyProof.Rows L2
def frzA (H:Hp) (c:Addr) (ob:Obj):Hp:=upd H c (.frz ob (.ext fun h=>h.get? c=some ob))
def thw (H:Hp) (c:Addr):Hp:=fun b=>if b=c then none else H b
theorem jQh {H:Hp} {b c:Addr} (h:b≠c):thw H c b=H b:=lJb h
theorem kYb {H:Hp} {c:Addr}:thw H c c=none:=lJc rfl
def gdel (G:Gp) (c:Addr):Gp:=fun b=>if b=c then none else G b
theorem kZ7 {G:Gp} {b c:Addr} (h:b≠c):gdel G c b=G b:=lJb h
theorem qXx {G:Gp} {c:Addr}:gdel G c c=none:=lJc rfl
section
variable {K:PySem.W.Frag} {H:Hp} {c:Addr} {ob:Obj} {φ:Heap->Prop}
mutual
theorem Rep.thaw (hc:H c=some (.frz ob (.ext φ))):∀(x:T) {v:V},Rep K H x v->Rep K (thw H c) x v
 | .non,_,h=>h
 | .bl _,_,h=>h
 | .int _,_,h=>h
 | .str _,_,h=>h
 | .ref _,_,h=>h
 | .ty _,_,h=>h
 | .tup xs,_,⟨a,vs,r1,r2,r3⟩=>⟨a,vs,r1,by rw[jQh (fun e=>by rw[e,hc] at r2;cases r2)];exact r2,Reps.thaw hc xs r3⟩
 | .scr xs,_,⟨a,vs,r1,r2,r3⟩=>⟨a,vs,r1,by
   rcases r2 with ⟨o,r2⟩ | r2
   ·exact .inl ⟨o,by rw[jQh (fun e=>by rw[e,hc] at r2;cases r2)];exact r2⟩
   ·exact .inr r2,Reps.thaw hc xs r3⟩
theorem Reps.thaw (hc:H c=some (.frz ob (.ext φ))):∀(xs:List T) {vs:List V},Reps K H xs vs->Reps K (thw H c) xs vs
 | [],_,h=>h
 | x::xs,_,⟨v,ws,r1,r2,r3⟩=>⟨v,ws,r1,Rep.thaw hc x r2,Reps.thaw hc xs r3⟩
end
theorem PKV.thaw {κ:Type} {kvs:List (κ×T)} {ws:List (κ×V)} (hc:H c=some (.frz ob (.ext φ))) (h:PKV K H kvs ws):PKV K (thw H c) kvs ws:=Paired.mapP h fun _ _ z=>⟨z.1,Rep.thaw hc _ z.2⟩
theorem LCode.thaw {a:Addr} {q:Str} {w:Option Value} (hc:H c=some (.frz ob (.ext φ))) (hd:ob.data= .cell w) (h:LCode H a q):LCode (thw H c) a q:=by
 obtain⟨oc,u,vs,tq,h1,h2,h3⟩:=h
 refine⟨oc,u,vs,tq,?_,h2,h3⟩
 rw[jQh (fun e=>by rw[e,hc] at h1;cases h1;rw[hd] at h2;cases h2)];exact h1
theorem GOk.thaw {a:Addr} {o:GO} {w:Option Value} (hc:H c=Option.some (.frz ob (.ext φ))) (hd:ob.data= .cell w) (ha:a≠c) (h:GOk K H a o):GOk K (thw H c) a o:=by
 have e:thw H c a=H a:=jQh ha
 cases o with
 | lst xs=>obtain⟨vs,h1,h2⟩:=h;exact⟨vs,e.trans h1,Reps.thaw hc _ h2⟩
 | dct kvs=>obtain⟨vs,h1,h2⟩:=h;exact⟨vs,e.trans h1,h2.thaw hc⟩
 | dck kvs=>obtain⟨vs,h1,h2⟩:=h;exact⟨vs,e.trans h1,h2.thaw hc⟩
 | fdc kvs=>obtain⟨o,vs,h1,h2⟩:=h;exact⟨o,vs,e.trans h1,h2.thaw hc⟩
 | ins cn fs=>obtain⟨C,dx,ws,h1,h2,h3⟩:=h;exact⟨C,dx,ws,e.trans h1,h2,h3.thaw hc⟩
 | exc cn=>obtain⟨o,C,u,h1,h2,h3⟩:=h;exact⟨o,C,u,e.trans h1,h2,h3⟩
 | tbs es=>
  obtain⟨ps,h1,h2⟩:=h
  refine⟨ps,e.trans h1,?_⟩
  generalize ps.toList=l at h2
  clear h1
  induction h2 with
  | nil=>exact .nil
  | cons a b _ ih=>exact .cons a (b.thaw hc hd) ih
 | fn N cl=>obtain⟨o,u,fd,c',h1,h2,h3,h4⟩:=h;exact⟨o,u,fd,c',e.trans h1,h2,h3,h4.thaw hc hd⟩
 | cel t=>obtain⟨o,u,v,w,h1,h2,h3,h4⟩:=h;exact⟨o,u,v,w,e.trans h1,h2,h3,Rep.thaw hc _ h4⟩
theorem GRel.thaw {G:Gp} {w:Option Value} (hc:H c=some (.frz ob (.ext φ))) (hd:ob.data= .cell w) (g:GRel K H G):GRel K (thw H c) (gdel G c):=fun a o e=>by
 by_cases q:a=c
 ·subst q;rw[qXx] at e;cases e
 ·rw[kZ7 q] at e
  exact (g a o e).thaw hc hd q
end
section
variable {P:Program} {w:World} {K:PySem.W.Frag} {mg:Str->Option Value} {base:Heap} {A:Around} {outer:List Env} {s s':Shared} {H:Hp} {c:Addr} {ob:Obj}
theorem qQ4 (e0:Env0 P w K mg base A outer s H) (hn:H c=none) (ho:s.heap.get? c=some ob) (hb:base.get? c=none) (hf:c∉frs outer):Env0 P w K mg base A outer s (frzA H c ob):=by
 have ne:∀ {b:Addr} {u:HO},H b=some u->b≠c:=fun {b u} e q=>by rw[q,hn] at e;cases e
 refine⟨e0.frames,e0.mod,fun b o e=> ?_,e0.bsz,e0.funs,fun b h=> ?_,fun b u e=> ?_,e0.bare⟩
 ·obtain⟨h1,h2⟩:=e0.bs b o e
  exact⟨h1,by unfold frzA;rw[jJr (fun q=>by rw[q,hb] at e;cases e)];exact h2⟩
 ·unfold frzA;rw[jJr (fun q=>hf (by rw[<-q];exact h))];exact e0.frf b h
 ·by_cases q:b=c
  ·subst q
   unfold frzA at e
   rw[jJ3] at e;cases e
   exact⟨ho,ho,⟨ob,ho⟩,fun h1 h2 p k=>k ob p⟩
  ·unfold frzA at e
   rw[jJr q] at e
   exact (e0.hok b u e).stay (fun _ _ _ z=>z) (fun d z=>by unfold frzA;rw[jJr (ne z)];exact z) fun d xs z=>by unfold frzA;rw[jJr (ne z)];exact z
theorem CE.thaw {Q:VK} {u:Value} (hn:H c=none) (ho:s.heap.get? c=some ob) (h:CE outer P w (frzA H c ob) s Q u s'):CE outer P w H s (fun v H'=>∃H2,H'=thw H2 c/\H2 c=some (.frz ob (.ext fun h=>h.get? c=some ob))/\(∀b xs,H b=some (.tup xs)->H' b=some (.tup xs))/\(∀b o xs,H b=some (.frz o xs)->H' b=some (.frz o xs))/\Q v H2) u s':=by
 obtain⟨v,H2,os,bare,un,hok,r,q⟩:=h
 have h2c:H2 c=some (.frz ob (.ext fun h=>h.get? c=some ob)):=un.frzs c _ _ (by unfold frzA;exact jJ3)
 have oc:s'.heap.get? c=some ob:=(hok c _ h2c).1
 have ne:∀ {b:Addr} {u:HO},H b=some u->b≠c:=fun {b u} e q=>by rw[q,hn] at e;cases e
 have fz:∀ {b:Addr},b≠c->frzA H c ob b=H b:=fun {b} z=>by unfold frzA;exact jJr z
 have tu:∀b xs,H b=some (.tup xs)->thw H2 c b=some (.tup xs):=fun b xs e=>by rw[jQh (ne e)];exact un.tups b xs (by rw[fz (ne e)];exact e)
 have fr:∀b o xs,H b=some (.frz o xs)->thw H2 c b=some (.frz o xs):=fun b o xs e=>by rw[jQh (ne e)];exact un.frzs b o xs (by rw[fz (ne e)];exact e)
 refine⟨v,thw H2 c,os,bare,⟨fun b o e n hb hx=> ?_,fun b o e n hb hx=> ?_,fun b o e n hx=> ?_,un.there,tu,fr,fun b ps e=> ?_⟩,fun b o e=> ?_,r,H2,rfl,h2c,tu,fr,q⟩
 ·by_cases z:b=c
  ·subst z;rw[ho] at e;cases e;exact oc
  ·exact un.keep b o e (by rw[fz z];exact n) hb hx
 ·by_cases z:b=c
  ·subst z;rw[ho] at e;cases e;exact⟨ob.slots,oc⟩
  ·exact un.slot b o e (by rw[fz z];exact n) hb hx
 ·by_cases z:b=c
  ·subst z;exact kYb
  ·rw[jQh z];exact un.free b o e (by rw[fz z];exact n) hx
 ·obtain⟨more,z⟩:=un.tbls b ps (by rw[fz (ne e)];exact e)
  exact⟨more,by rw[jQh (ne e)];exact z⟩
 ·by_cases z:b=c
  ·subst z;rw[kYb] at e;cases e
  ·rw[jQh z] at e
   refine (hok b o e).stay (fun _ _ _ y=>y) (fun d y=> ?_) fun d xs y=> ?_
   ·rw[jQh (fun q=>by rw[q,h2c] at y;cases y)];exact y
   ·rw[jQh (fun q=>by rw[q,h2c] at y;cases y)];exact y
end
def gups (G:Gp):List (Nat×Addr)->List T->Gp
 | z::zs,t::ts=>gups (gup G z.2 (.cel t)) zs ts
 | _,_=>G
def qXw (G:Gp):List (Nat×Addr)->Gp
 | []=>G
 | z::zs=>gdel (qXw G zs) z.2
inductive ZCel (K:PySem.W.Frag) (base:Heap) (outer:List Env) (s:Shared) (H:Hp):List (Nat×Addr)->List T->Prop
 | nil:ZCel K base outer s H [] []
 | cons {i:Nat} {c:Addr} {t:T} {v:V} {w:Value} {ob:Obj} {zs:List (Nat×Addr)} {ts:List T}:H c=none->s.heap.get? c=some ob->ob.data= .cell (some w)->RelV v w->Rep K H t v->base.get? c=none->c∉frs outer->(∀z∈zs,z.2≠c)->ZCel K base outer s H zs ts->ZCel K base outer s H ((i,c)::zs) (t::ts)
section
variable {P:Program} {w:World} {K:PySem.W.Frag} {mg:Str->Option Value} {base:Heap} {A:Around} {outer:List Env} {s:Shared}
theorem ZCel.frz {H:Hp} {c:Addr} {ob:Obj} {zs:List (Nat×Addr)} {ts:List T} (hn:H c=none) (h:ZCel K base outer s H zs ts) (hz:∀z∈zs,z.2≠c):ZCel K base outer s (frzA H c ob) zs ts:=by
 induction h with
 | nil=>exact .nil
 | cons a1 a2 a3 a4 a5 a6 a7 a8 _ ih=>exact .cons (by unfold frzA;rw[jJr (hz _ lJ1)];exact a1) a2 a3 a4 (Rep.mono (Ext.upd (.none hn)) _ a5) a6 a7 a8 (ih fun z m=>hz z (lJ2 _ m))
theorem callZ {k:Nat} {f:Addr} {fd:FuncData} {ps:List Str} {sp:Sp3} {us:List Value} {xs:List T} {args:Args} (F:Fn3 P w K mg base k f fd ps sp) (mono:Mono sp) (hr:Room k A) (hl:xs.length=ps.length) (hb:BindsTo s fd args (ps.zip us)):
  ∀(zs:List (Nat×Addr)) (ts:List T) (H:Hp) (G:Gp) (Q:VK3),Env0 P w K mg base A outer s H->GRel K H G->RUs K H xs us->ZCel K base outer s H zs ts->sp xs (gups G zs ts) (fun v G'=>Q v (qXw G' zs))->
   codeAny (model P w) A (.call (.ref f) args) (CR CX0 outer P w H s (up K H Q) E0) s:=by
 intro zs
 induction zs with
 | nil=>
  rintro ts H G Q e0 g ⟨vs,r1,r2⟩ hz hsp
  cases hz
  exact F.run A outer s H args us vs (up K H Q) E0 hr e0 hb r2 ⟨by rw[<-r1.length];exact hl,xs,G,r1,g,mono _ _ _ _ (fun t G' hq v H' e g' r=>⟨t,G',e,g',r,hq⟩) hsp⟩
 | cons z zs ih=>
  intro ts H G Q e0 g r hz hsp
  cases hz with
  | @cons i c t v w' ob _ ts h1 h2 h3 h4 h5 h6 h7 h8 h9=>
   have e:Ext H (frzA H c ob):=Ext.upd (.none h1)
   refine lVr (ih ts (frzA H c ob) (gup G c (.cel t)) (fun y G'=>Q y (gdel G' c)) (qQ4 e0 h1 h2 h6 h7) (g.upd (.none h1) (go:= .cel t) ⟨ob,_,v,w',jJ3,h3,h4,Rep.mono e _ h5⟩) (r.mono e) (h9.frz h1 h8) hsp) fun rr s' q=> ?_
   cases rr with
   | error ev=>exact (show False from q).elim
   | ok fl=>
    cases fl with
    | next=>exact False.elim q
    | brk=>exact False.elim q
    | cont=>exact False.elim q
    | ret u=>
     obtain⟨v',H',os,bare,un,hok,rv,H2,rfl,h2c,tu,fr,t',G',e',g',r',q'⟩:=CE.thaw h1 h2 q
     exact⟨v',thw H2 c,os,bare,un,hok,rv,t',gdel G' c,⟨tu,fr⟩,g'.thaw h2c h3,Rep.thaw h2c _ r',q'⟩
end
inductive ZT (τ:St3):List (Nat×Addr)->List T->Prop
 | nil:ZT τ [] []
 | cons {i:Nat} {c:Addr} {t:T} {zs:List (Nat×Addr)} {ts:List T}:τ[i]? =some (some t)->ZT τ zs ts->ZT τ ((i,c)::zs) (t::ts)
def kYd (zs:List (Nat×Addr)) (sp:Sp3) (ta:TA3):TE3:=fun τ G Q=>ta τ G fun xs G1=>(∀z∈zs,G1 z.2=none)->∃ts,ZT τ zs ts/\sp xs (gups G1 zs ts) (fun v G'=>Q v (qXw G' zs))
inductive ZX (X:Cx):List (Nat×Addr)->Prop
 | nil:ZX X []
 | cons {i:Nat} {c:Addr} {x:Str} {zs:List (Nat×Addr)}:X.N[i]? =some x->X.env.scope.names.lookup x=some .cell->X.env.cells.lookup x=some c->X.fn x=true->(∀z∈zs,z.2≠c)->ZX X zs->ZX X ((i,c)::zs)
theorem ZX.ok {X:Cx} {pins:List (Addr×Obj)} {σ:L2.St} {τ:St3} {H:Hp} {s:Shared} (I:Inv X pins σ H s) (hs:SRel X.K H σ τ) {zs:List (Nat×Addr)} {ts:List T} (h:ZX X zs) (hz:ZT τ zs ts):ZCel X.K X.base X.stack s H zs ts:=by
 induction hz with
 | nil=>exact .nil
 | @cons i c t zs ts h1 _ ih=>
  cases h with
  | @cons _ _ x _ a1 a2 a3 a4 a5 a6=>
   have hn:H c=none:=(I.freeC x c a3).elim id fun z=>absurd z.1 (by rw[a4];simp)
   obtain⟨v,hv,rv⟩:=hs.2 i t h1
   obtain⟨m,hn',hl⟩:=I.loc
   obtain⟨u,ru,lk⟩:=hl i x v a1 hv (.inr (.inl a2))
   have hc:=I.ok.cab x c a4 a3
   rcases lk with ⟨z,_⟩ | ⟨_,d,hd,ob,g1,g2⟩
   ·rw[show X.env.kindOf x=some .cell from a2] at z;cases z
   ·rw[a3] at hd;cases hd
    refine .cons hn g1 g2 ru rv (Heap.get?_none_of_le (lKd I.ok.bsz hc)) (fun z=> ?_) a5 (ih a6)
    rcases lJk.mp (I.stkSub c z) with z | z
    ·exact I.cne x c a3 z
    ·obtain⟨_,o,ho,_⟩:=I.ok.funs.mem z
     exact absurd (lJ7 (lJi ho) hc) (lQn _)
theorem ZX.free {X:Cx} {pins:List (Addr×Obj)} {σ:L2.St} {H:Hp} {s:Shared} (I:Inv X pins σ H s) {zs:List (Nat×Addr)} (h:ZX X zs):∀z∈zs,H z.2=none:=by
 induction h with
 | nil=>intro z m;cases m
 | @cons i c x zs a1 a2 a3 a4 a5 a6 ih=>
  intro z m
  rcases (lJk.mp m) with rfl | m
  ·exact (I.freeC x c a3).elim id fun z=>absurd z.1 (by rw[a4];simp)
  ·exact ih z m
theorem e_calZ {X:Cx} {k:Nat} {ps:List Str} {sp:Sp3} {x:Str} {p pos:Pos} {e:Expr} {es:List Expr} {t:TA3} {zs:List (Nat×Addr)} (C:Cal X.prog X.w X.K X.mg X.base k x ps sp) (hr:Room k X.A) (hz:ZX X zs) (ha:PA3 X (e::es) t) (hg:Gl X x:=by rfl)
  (hdb:(x == ("__debug__":Str))=false:=by decide) (he:starEach (e::es) X.env=(false,eval e X.env)::starEach es X.env:=by rfl) (hpl:(backTo pos (starEach es X.env)).any (·.1)=false:=by rfl):
  PE3 X (.Call (.Name x p) (e::es) [] pos) (kYd zs sp t):=by
 intro pins s τ G H Q I h
 obtain⟨f,fd,F,hm,hk,hb⟩:=C.ex
 obtain⟨σ0,I0,hs0,hg0⟩:=id I
 refine lXx (kZp I0 hg hm ?_ hdb)
 refine PySem.W.callWith_K (h₀:=X.base) I0.ok.mod.kin hk (thn (ha pos pins s τ G H _ I h) fun us s1 w_=>w_.el fun xs G1 H1 e1 i_ r_ q=>i_.el fun σ I1 hs1 hg1=>⟨I1.kIn,?_⟩) he hpl
 have gn:∀z∈zs,G1 z.2=none:=fun z m=>hg1.fresh (hz.free I1 z m)
 obtain⟨ts,hzt,hsp⟩:=q gn
 have hl:=C.len _ _ _ hsp
 have hul:us.length=ps.length:=by obtain⟨vs,r1,r2⟩:=r_;rw[<-r2.length,<-r1.length];exact hl
 refine thn (wpAny_call (lVr (callZ F C.mono hr hl (by have:=hb s1 us I1.kIn (by rw[lKz];exact hul);rw[lKz] at this;exact this) zs ts H1 G1 Q I1.env0 hg1 r_ (hz.ok I1 hs1 hzt) hsp) fun r s' hq=> ?_)) fun u s' z=>(jV0 hs1 z).ext e1
 cases r with
 | error e=>exact (show False from hq).elim
 | ok fl=>
  cases fl with
  | ret u=>exact I1.after hq
  | next=>exact False.elim hq
  | brk=>exact False.elim hq
  | cont=>exact False.elim hq
end L3
namespace L2
open PySem PySem.Spec PyProof.Rows PySem.W L3
def qUh (tabs:List (Addr×Addr)) (H:Hp):Prop:=∀b,H b=none\/(∃o xs,H b=some (.frz o (.lst xs)))\/(b∈tabs.map (·.2)/\H b=some (.tbl #[]))
theorem kKk {tabs:List (Addr×Addr)} {h:Heap} (hT:TabsAt tabs h) {b:Addr} (hb:b∈tabs.map (·.2)):h.get? b=some (tabObj #[])/\isCodeTable h b:=by
 (obtain⟨q,hq,rfl⟩:=lJj.mp hb)
 exact⟨(hT q hq).2,((hT q hq).1.tab (hT q hq).2).isCodeTable⟩
theorem kZq {P:Program} {w:World} {K:PySem.W.Frag} {mg mb:Str->Option Value} {CX:CXT} {k:Nat} {fa a:Addr} {fd:FuncData} {x:Str} {sp:Sp} {s₁:Shared} {vs:List Value} {ns:List Int} {tabs:List (Addr×Addr)}
  (hT:TabsAt tabs s₁.heap) (hKT:∀b,b∈tabs.map (·.2)->K.lookup b=none)
  (KX:K.In s₁.heap) (hns:s₁.heap.Ns mainGlobals mg) (hb:s₁.heap.Ns builtinsNs mb) (hbb:∀x:Str,x≠"__name__"->mb x=bootBuiltins x) (hlim:s₁.heap.NoLimit) (hbu:BuB s₁.heap mg) (hg:s₁.gens= #[])
  (ha:s₁.heap.get? a=some {cls:= .type "list",data:= .seq vs.toArray}) (hi:IntsAre vs ns) (hl:ns.length<=sizeLine) (hr:Room k callerA)
  (F:∀base:Heap,K.In base->base.Ns mainGlobals mg->BuB base mg->FnOk P w K mg base CX k fa fd [x] sp) (hbind:∀(s:Shared) (u:Value),BindsTo s fd ⟨[u],[]⟩ [(x,u)])
  (hsp:∀H:Hp,qUh tabs H->(∀b,b∈tabs.map (·.2)->H b=some (.tbl #[]))->SqL K H a (ns.map V.int)->sp [.ref a] H (fun v _=>v= .bl true) fun _ _ _=>False)
  (hCX:∀H e s',CX [] H s₁ (fun _ _ _=>False) e s'->False):
  codeAny (model P w) callerA (.call (.ref fa) ⟨[.ref a],[]⟩) (fun r s'=>r= .ok (.ret (.bool true))/\OldK s₁.heap s'.heap/\s'.os=s₁.os/\AllBare s'.gens) s₁:=by
 have rv:=jUm hi
 have lenV:=hi.length
 have aT:a∉tabs.map (·.2):=fun q=>by
  have:=(kKk hT q).1
  rw[ha] at this;cases this
 have core:∀H:Hp,qUh tabs H->(∀b,b∈tabs.map (·.2)->H b=some (.tbl #[]))->SqL K H a (ns.map V.int)->HOk P w H s₁.heap->(∀b,H b≠none->b=a\/b∈tabs.map (·.2))->(H a≠none->K.lookup a=none)->
   codeAny (model P w) callerA (.call (.ref fa) ⟨[.ref a],[]⟩) (fun r s'=>r= .ok (.ret (.bool true))/\OldK s₁.heap s'.heap/\s'.os=s₁.os/\AllBare s'.gens) s₁:=by
  intro H hO hO2 hS hok hA hK
  have base_of:∀ {b:Addr} {o:Obj},s₁.heap.get? b=some o->H b=none->(hidT s₁.heap H).get? b=some o:=fun e n=>qQy e n
  have noA:∀ {b:Addr} {o:Obj} {es:Array DictEntry} {ep:Nat},s₁.heap.get? b=some o->o.data= .dict es ep->H b=none:=fun {b o es ep} e d=>by
   cases q:H b with
   | none=>rfl
   | some u=>
    rcases hA b (by rw[q];simp) with e' | e'
    ·subst e'
     rw[ha] at e;cases e
     have d':Data.seq vs.toArray _=Data.dict es ep:=d
     cases d'
    ·rw[(kKk hT e').1] at e;cases e
     have d':Data.fields #[]=Data.dict es ep:=d
     cases d'
  have nsK:∀ {b:Addr} {m:Str->Option Value},s₁.heap.Ns b m->(hidT s₁.heap H).Ns b m:=fun {b m} ⟨o,es,ep,e,d,r⟩=>⟨o,es,ep,base_of e (noA e d),d,r⟩
  have hKb:K.In (hidT s₁.heap H):=fun b o e=>base_of (KX b o e) (by
   cases q:H b with
   | none=>rfl
   | some u=>
    rcases hA b (by rw[q];simp) with e' | e'
    ·subst e'
     rw[hK (by rw[q];simp)] at e;cases e
    ·rw[hKT b e'] at e;cases e)
  have hBb:BuB (hidT s₁.heap H) mg:=by
   obtain⟨bm,o,b1,b2,b3,b4,b5,b6,b7⟩:=hbu.ex
   refine⟨bm,o,b1,b2,b3,base_of b4 ?_,b5,b6,b7⟩
   cases q:H bm with
   | none=>rfl
   | some u=>
    rcases hA bm (by rw[q];simp) with e' | e'
    ·subst e'
     rw[ha] at b4;cases b4
     have d':Data.seq vs.toArray _=Data.plain:=b7
     cases d'
    ·rw[(kKk hT e').1] at b4;cases b4
     have d':Data.fields #[]=Data.plain:=b7
     cases d'
  have hM:Mod K mg (hidT s₁.heap H):=⟨hKb,nsK hns,⟨mb,nsK hb,hbb⟩,let ⟨mc,h1,h2⟩:=hlim;⟨mc,nsK h1,h2⟩⟩
  have e0:Env0 P w K mg (hidT s₁.heap H) callerA [] s₁ H:=⟨rfl,hM,fun b o e=>qV4 e,Nat.le_of_eq (kZ5 _ _),trivial,fun b hb=>absurd (show b∈([]:List Addr) from hb) (by simp),hok,.of_eq hg⟩
  refine lVr ((F _ hKb (nsK hns) hBb).run callerA [] s₁ H ⟨[.ref a],[]⟩ [.ref a] [.ref a] _ _ hr e0 (hbind s₁ (.ref a)) (.cons rfl .nil) (hsp H hO hO2 hS)) fun r s' h=> ?_
  cases r with
  | error e=>exact (hCX H e s' h).elim
  | ok fl=>
   cases fl with
   | next=>exact False.elim h
   | brk=>exact False.elim h
   | cont=>exact False.elim h
   | ret u=>
    obtain⟨v,H',os,bare,un,hok',r',q⟩:=h
    have q':v= .bl true:=q
    subst q'
    obtain rfl:u=Value.bool true:=r'
    refine⟨rfl,⟨fun b o e=> ?_,fun b o e=>un.there b o e (by simp)⟩,os,bare⟩
    cases q:H b with
    | none=>exact .inl (un.keep b o e q (by intro z;exact absurd (show b∈([]:List Addr) from z) (by simp)) (by simp))
    | some u=>
     rcases hO b with z | ⟨ob,xs,z⟩ | ⟨zm,z⟩
     ·rw[q] at z;cases z
     ·have z2:=un.frzs b ob _ z
      obtain⟨e1,_⟩:=hok b _ z
      obtain⟨e2,_⟩:=hok' b _ z2
      rw[e] at e1;cases e1
      exact .inl e2
     ·obtain⟨more,z2⟩:=un.tbls b _ z
      obtain⟨e1,ht⟩:=kKk hT zm
      have e2:s'.heap.get? b=some (tabObj (#[]++more)):=hok' b _ z2
      rw[e] at e1;cases e1
      exact .inr (.inl ⟨ht,rfl,#[],more,rfl,e2⟩)
 have tbok:∀(H:Hp) (b:Addr) (o:HO),H b=some o->b∈tabs.map (·.2)->o= .tbl #[]->ObjOk P w H s₁.heap b o:=fun H b o _ hm e=>by
  subst e
  exact (kKk hT hm).1
 haveI:∀b:Addr,Decidable (b∈tabs.map (·.2)):=fun b=>Classical.propDecidable _
 cases hk:K.lookup a with
 | some o=>
  have e:=KX a o hk
  rw[ha] at e
  cases e
  have at1:∀ {b:Addr},b∈tabs.map (·.2)->(fun b=>if b∈tabs.map (·.2) then some (HO.tbl #[]) else none:Hp) b=some (.tbl #[]):=fun hb=>lJc hb
  have at2:∀ {b:Addr},b∉tabs.map (·.2)->(fun b=>if b∈tabs.map (·.2) then some (HO.tbl #[]) else none:Hp) b=none:=fun hb=>lJb hb
  generalize (fun b=>if b∈tabs.map (·.2) then some (HO.tbl #[]) else none:Hp)=H at at1 at2
  refine core H (fun b=> ?_) (fun b hb=>at1 hb) (.inr ⟨_,vs.toArray,_,hk,rfl,rfl,rfl,by rw[lJu,lenV];exact hl,by simpa using rv⟩) (fun b u z=> ?_) (fun b z=> ?_) fun z=>absurd (at2 aT) z
  ·by_cases hb:b∈tabs.map (·.2)
   ·exact .inr (.inr ⟨hb,at1 hb⟩)
   ·exact .inl (at2 hb)
  ·by_cases hb:b∈tabs.map (·.2)
   ·rw[at1 hb] at z;cases z;exact tbok H b _ (at1 hb) hb rfl
   ·rw[at2 hb] at z;cases z
  ·by_cases hb:b∈tabs.map (·.2)
   ·exact .inr hb
   ·exact absurd (at2 hb) z
 | none=>
  have at1:∀ {b:Addr},b∈tabs.map (·.2)->(fun b=>if b∈tabs.map (·.2) then some (HO.tbl #[]) else if b=a then some (.frz {cls:= .type "list",data:= .seq vs.toArray} (.lst (ns.map V.int))) else none:Hp) b=some (.tbl #[]):=fun hb=>lJc hb
  have at2:∀ {b:Addr},b∉tabs.map (·.2)->b≠a->(fun b=>if b∈tabs.map (·.2) then some (HO.tbl #[]) else if b=a then some (.frz {cls:= .type "list",data:= .seq vs.toArray} (.lst (ns.map V.int))) else none:Hp) b=none:=fun hb hn=>(lJb hb).trans (lJb hn)
  have at3:(fun b=>if b∈tabs.map (·.2) then some (HO.tbl #[]) else if b=a then some (.frz {cls:= .type "list",data:= .seq vs.toArray} (.lst (ns.map V.int))) else none:Hp) a=some (.frz {cls:= .type "list",data:= .seq vs.toArray} (.lst (ns.map V.int))):=(lJb aT).trans (lJc rfl)
  generalize (fun b=>if b∈tabs.map (·.2) then some (HO.tbl #[]) else if b=a then some (.frz {cls:= .type "list",data:= .seq vs.toArray} (.lst (ns.map V.int))) else none:Hp)=H at at1 at2 at3
  refine core H (fun b=> ?_) (fun b hb=>at1 hb) (.inl (.inr ⟨{cls:= .type "list",data:= .seq vs.toArray},at3⟩)) (fun b u z=> ?_) (fun b z=> ?_) fun _=>hk
  ·by_cases hb:b∈tabs.map (·.2)
   ·exact .inr (.inr ⟨hb,at1 hb⟩)
   ·by_cases hn:b=a
    ·subst hn;exact .inr (.inl ⟨_,_,at3⟩)
    ·exact .inl (at2 hb hn)
  ·by_cases hb:b∈tabs.map (·.2)
   ·rw[at1 hb] at z;cases z;exact tbok H b _ (at1 hb) hb rfl
   ·by_cases hn:b=a
    ·subst hn
     rw[at3] at z;cases z
     exact⟨ha,by rw[lJf];exact hl,vs,_,rv,ha⟩
    ·rw[at2 hb hn] at z;cases z
  ·by_cases hb:b∈tabs.map (·.2)
   ·exact .inr hb
   ·by_cases hn:b=a
    ·exact .inl hn
    ·exact absurd (at2 hb hn) z
theorem walk_ofT (tabs:List (Addr×Addr)) {l:PySem.W.OpenLaw} {n k:Nat} {q:Program} {loose:List Str} {XP:(Str->Option Value)->Heap->Prop} {YP:World->Heap->Prop} {d:DefRec} {K:Params->PySem.W.Frag} {CX:World->CXT} {sp:World->Sp} {x:Str}
  (hn:l.most=some n) (hn2:n<=sizeLine) (hdf:d.params.defaults=[]) (hr:Room k callerA)
  (hY:∀(w:World) (h:Heap),YP w h->(K w.params).In h/\TabsAt tabs h) (hKT:∀(w:World) b,b∈tabs.map (·.2)->(K w.params).lookup b=none)
  (F:∀(w:World) (mg:Str->Option Value) (fa:Addr) (h:Heap),(K w.params).In h->h.Ns mainGlobals mg->mg d.name=some (.ref fa)->
   ∃fd:FuncData,(∀(s:Shared) (u:Value),BindsTo s fd ⟨[u],[]⟩ [(x,u)])/\
    ∀base:Heap,(K w.params).In base->base.Ns mainGlobals mg->BuB base mg->FnOk l.prog w (K w.params) mg base (CX w) k fa fd [x] (sp w))
  (hsp:∀(w:World) (H:Hp) (a:Addr) (ns:List Int),ns.length<=n->qUh tabs H->(∀b,b∈tabs.map (·.2)->H b=some (.tbl #[]))->SqL (K w.params) H a (ns.map V.int)->sp w [.ref a] H (fun v _=>v= .bl true) fun _ _ _=>False)
  (hCX:∀(w:World) (H:Hp) (s:Shared) (e:Value) (s':Shared),CX w [] H s (fun _ _ _=>False) e s'->False):
  PySem.W.WalkO q loose XP YP l.row.toRowW d [] (fun f vs=>PySem.call f vs):=by
 refine Att.attach_call hn hdf fun w s₀ s₁ mg mb fa o pm cd doc a vs ns G Y ho hd hcd hmg hobj hints hlen hg=> ?_
 obtain⟨KX,hT⟩:=hY w _ Y
 obtain⟨fd,hb,hF⟩:=F w mg fa _ KX G.T.g hmg
 have hbu:BuB s₁.heap mg:=by
  obtain⟨bm,ob,b1,b2,b3,b4,b5,b6⟩:=G.T.bmain
  refine⟨bm,ob,b1,b2,fun q=> ?_,b3,b4,b5,b6⟩
  obtain⟨o,es,ep,e,d,_⟩:=G.T.g
  rw[<-q,b3] at e;cases e
  rw[b6] at d;cases d
 exact kZq hT (hKT w) KX G.T.g G.T.b G.T.builtins G.T.nolimit hbu hg hobj hints (lKd hlen hn2) hr hF hb (fun H hO hO2 hS=>hsp w H a ns hlen hO hO2 hS) fun H e s'=>hCX w H s₁ e s'
end L2
namespace L3
open PySem PySem.Spec PyProof.Rows L2 PySem.W
structure LamK (K:PySem.W.Frag) (mg:Str->Option Value) (x:Str) (Pt:Addr):Prop where
 ex:∃f o fd c,mg x=some (.ref f)/\K.lookup f=some o/\o.data= .func fd/\fd.code= .ref c/\codeHdIn K c Pt=true
theorem lam_at {K:PySem.W.Frag} {h:Heap} {mg:Str->Option Value} {x:Str} {f c Pt:Addr} {oc:Value} {od:Option Addr} {osl:Array (Option Value)} {fd:FuncData} (X:K.In h) (G:h.Ns mainGlobals mg) (a:PySem.W.nsIn K mainGlobals x=some (some (.ref f)))
  (l:K.lookup f=some ⟨oc,od,.func fd,osl⟩) (e:fd.code= .ref c) (d:codeHdIn K c Pt=true):LamK K mg x Pt:=⟨f,_,fd,c,PySem.W.mg_of X G a,l,rfl,e,d⟩
section
variable {P:Program} {w:World} {K:PySem.W.Frag} {mg:Str->Option Value} {base:Heap}
theorem qYg {x qual:Str} {Pt f:Addr} {oc:Value} {od:Option Addr} {fd:FuncData} {osl:Array (Option Value)} (L:LamK K mg x Pt) (hm:mg x=some (.ref f)) (lk:K.lookup f=some ⟨oc,od,.func fd,osl⟩):∃c,fd.code= .ref c/\codeHdIn K c Pt=true:=by
 obtain⟨f',o,fd',c,h1,h2,h3,h4,h5⟩:=L.ex
 rw[hm] at h1;cases h1
 rw[lk] at h2;cases h2
 cases h3
 exact⟨c,h4,h5⟩
theorem fn3L {x qual:Str} {st:Stmt} {Pt f:Addr} {fd:FuncData} {N ps:List Str} {k:Nat} {sp:Sp3} [B:BuB base mg] (L:LamK K mg x Pt) (hm:mg x=some (.ref f)) (F:Fun K x qual st f fd) (S:FnScope N ps (jJk st))
  (hbody:∀(cdv:Value) (A:Around) (outer:List Env) (s:Shared) (H:Hp) (E:XK),Room k (A.deeper (envOfC qual (jJk st) s.heap.objs.size f cdv))->LamAt (cxOf CX0 P w K mg base N qual (jJk st) f cdv A outer s H E).nox Pt->
   ∃t,PSs3 (cxOf CX0 P w K mg base N qual (jJk st) f cdv A outer s H E).nox (defBody st) t/\∀xs G Q,sp xs G Q->t {nx:=fun _ G'=>Q .non G',rt:=Q} (jKc N xs) G):Fn3 P w K mg base (k+1) f fd ps sp:=by
 obtain⟨oc,od,kV,doc,pm,an,cdv,ct,osl,rfl,lk,hcd⟩:=F.ex
 obtain⟨c,hc,hC⟩:=qYg (qual:=qual) L hm lk
 refine fn_of (sp:=dn K ps.length sp) lk hcd S (fun vs H Q E h=>h.1) fun A outer s H vs Q E hr hsp=> ?_
 obtain⟨t,ht,hq⟩:=hbody cdv A outer s H E hr ⟨⟨c,hc,hC⟩,B⟩
 obtain⟨hl,xs,G,rs,hg,hsp⟩:=hsp
 refine⟨fun D σ H1=>D.nx=(fun _ H'=>Q .non H')/\D.rt=Q/\σ=L2.start N vs/\H1=H,PSs.nox ?_,rfl,rfl,rfl,rfl⟩
 rintro pins s1 σ1 H1 D I ⟨e1,e2,e3,e4⟩
 subst e3;subst e4
 have I3:Inv3 (cxOf CX0 P w K mg base N qual (jJk st) f cdv A outer s H1 E).nox pins (jKc N xs) G H1 s1:=⟨_,I,jVs rs,hg⟩
 refine thn (ht pins s1 _ G H1 _ I3 (hq xs G _ hsp)) fun fl s2 z=> ?_
 cases fl with
 | next=>obtain⟨τ',G',H',e',⟨σ',I',a,b⟩,q⟩:=z;exact⟨σ',H',I',by rw[e1];exact q .non H' e' b rfl⟩
 | brk=>obtain⟨τ',G',H',e',_,q⟩:=z;exact q.elim
 | cont=>obtain⟨τ',G',H',e',_,q⟩:=z;exact q.elim
 | ret u=>obtain⟨x',τ',G',H',e',⟨σ',I',a,b⟩,⟨v,rv,ru⟩,q⟩:=z;exact⟨v,σ',H',I',ru,by rw[e2];exact q v H' e' b rv⟩
end
end L3
namespace W
open PySem L3
local macro_rules
 | `(tactic| wp_walk using 1, $ts,*) => do
  let ls ← ts.getElems.mapM fun t => `(Lean.Parser.Tactic.simpLemma| $t:term)
  let ns ← ("tSeq tIfS jKp tOp rGt rLt rGe rSub L3.rI0 L3.rI rIxF tVar tC tAsg tCB jJc tNil qVv rLen rAbs rMax rIntOf gTup jJ8 gNil gSub jJg kJx tRet tRetN jU9 jXa jK0 tLst tTup tIf tNot tAnd tOr kXa tOrV qVm tPar jQr jYz rMod qVu rPow rIsN rNotN kXs tTru rTru truT tUn rNeg qUg qQi qQk qQj qX1 qX2 qXm qXn at0 at1 at2 ix30 ix31 ix32 qKx qKw qXo qKy Option.map_some and_assoc T.int.injEq T.bl.injEq T.tup.injEq T.ref.injEq List.cons.injEq and_true true_and exists_eq_left exists_eq_left' exists_and_left exists_eq_right List.getElem?_cons_zero List.getElem?_cons_succ List.set_cons_zero List.set_cons_succ List.length_cons List.length_nil Nat.reduceAdd Option.some.injEq jJd kZ6 reduceCtorEq false_and exists_false exists_const Bool.true_eq Bool.not_eq_true' Bool.not_true Bool.not_false if_true if_false decide_eq_true_eq tBM jQo qVt jKe qKq jK4 GO.lst.injEq msk List.zipWith_cons_cons List.zipWith_nil_left List.zipWith_nil_right Bool.false_eq_true qVk".splitOn " ").toArray.mapM fun n => `(Lean.Parser.Tactic.simpLemma| $(Lean.mkIdent n.toName):term)
  let al:=ns++ls
  `(tactic| ((try dsimp only [$al,*]); (try simp only [$al,*])))
local macro_rules
 | `(tactic| omega) => `(tactic| first | exact szle rfl | lia)
def BoxAt (G:Gp) (b:Addr) (n:Nat):Prop:=∃x y z:Int,G b=some (.lst [.int x,.int y,.int z])/\0<=x/\0<=y/\y<2147483648/\0<=z/\z<=n
def Keep (b:Addr) (G G':Gp):Prop:=∀c o,c≠b->G c=some o->G' c=some o
theorem Keep.trans {b:Addr} {G G1 G2:Gp} (h:Keep b G G1) (h':Keep b G1 G2):Keep b G G2:=fun c o hc e=>h' c o hc (h c o hc e)
theorem Keep.gup {b:Addr} {G:Gp} {o:GO}:Keep b G (gup G b o):=fun c u hc e=>by rw[jJp hc];exact e
theorem Keep.new {b p:Addr} {G:Gp} {o:GO} (hp:G p=none):Keep b G (L3.gup G p o):=fun c u _ e=>by rw[jJp];exact e;rintro rfl;rw[hp] at e;cases e
abbrev jK9 (ns:List Int):List T:=ns.map T.int
theorem sz:sizeLine=16777216:=PySem.sizeLine_eq
abbrev Web:=List (List (Nat×Nat))
def encE (e:Nat×Nat):T:= .tup [.int e.1,.int e.2]
def encR (r:List (Nat×Nat)):T:= .tup (r.map encE)
def encW (W:Web):T:= .tup (W.map encR)
def en (W:Web) (r i:Nat):Option (Nat×Nat):=(W[r]?).bind fun es=>es[i]?
def Sym (W:Web):Prop:=∀r i s j,en W r i=some (s,j)->en W s j=some (r,i)
def sw:Nat->Nat
 | 0=>1
 | 1=>0
 | n=>n
def keyE (e:Nat×Nat):L2.TKey:=[.inl (.inl (e.1:Int)),.inl (.inl (e.2:Int))]
theorem kVm {a b:Nat×Nat} (h:keyE a=keyE b):a=b:=by
 obtain⟨a1,a2⟩:=a;obtain⟨b1,b2⟩:=b
 simp only[keyE,lXo,Sum.inl.injEq,and_true] at h
 obtain⟨h1,h2⟩:=h
 rw[Int.ofNat.inj h1,Int.ofNat.inj h2]
theorem kUn {W:Web} {r i:Nat} {e:Nat×Nat} (h:en W r i=some e):∃es,W[r]? =some es/\es[i]? =some e:=by
 unfold en at h
 cases e1:W[r]? with
 | none=>rw[e1] at h;cases h
 | some es=>rw[e1] at h;exact⟨es,rfl,h⟩
theorem qX4 {W:Web} {r i:Nat} {es:List (Nat×Nat)} {e:Nat×Nat} (h1:W[r]? =some es) (h2:es[i]? =some e):en W r i=some e:=by unfold en;rw[h1];exact h2
open Classical in
def oth (Hs:Web) (e:Nat×Nat):Nat×Nat:=if h:∃p:Nat×Nat,en Hs p.1 p.2=some (e.1,sw e.2) then h.choose else (0,0)
theorem qK1 {n i:Nat} {x:T} (h:(rngT 0 n)[i]? =some x):i<n/\x= .int i:=by
 unfold rngT at h
 rw[lJz] at h
 have hi:i<n:=by
  rcases lXa i n with z | z
  ·exact z
  ·rw[lK7 (by simpa using z)] at h;cases h
 simp[hi] at h
 exact⟨hi,h.symm⟩
theorem qK0 {n:Nat}:(rngT 0 n).length=n:=by simp[rngT]
theorem BoxAt.some {G:Gp} {b:Addr} {n:Nat} (h:BoxAt G b n):∃o,G b=some o:=by
 obtain⟨x,y,z,h1,_⟩:=h
 exact⟨_,h1⟩
theorem BoxAt.sub {G G':Gp} {b:Addr} {n:Nat} (h:BoxAt G b n) (s:Sub G G'):BoxAt G' b n:=by
 obtain⟨x,y,z,h1,h2,h3,h4,h5,h6⟩:=h
 exact⟨x,y,z,s _ _ h1,h2,h3,h4,h5,h6⟩
theorem BoxAt.gup {G:Gp} {b p:Addr} {n:Nat} {o:GO} (h:BoxAt G b n) (hp:b≠p):BoxAt (gup G p o) b n:=by
 obtain⟨x,y,z,h1,h2,h3,h4,h5,h6⟩:=h
 exact⟨x,y,z,by rw[jJp hp];exact h1,h2,h3,h4,h5,h6⟩
theorem Keep.sub {b:Addr} {G G':Gp} (h:Sub G G'):Keep b G G':=fun c o _ e=>h c o e
theorem Keep.over {b p:Addr} {G G':Gp} {o:GO} (h:Keep b G G') (hp:G p=none):Keep b G (L3.gup G' p o):=fun c u hc e=>by rw[jJp];exact h c u hc e;rintro rfl;rw[hp] at e;cases e
def hv (n t:Nat) (p:Nat×Nat):List (Nat×Nat×Nat):=if p.2=n then [(p.1,t,2)] else [(p.1,t,0),(p.2,t,1)]
def hvs (P:List (Nat×Nat)) (n k:Nat):List (Nat×Nat×Nat):=(List.range k).flatMap fun t=>match P[t]? with
 | some p=>hv n t p
 | none=>[]
theorem Keep.none {b p:Addr} {G G':Gp} (h:Keep b G G') (hb:p≠b) (hp:G' p=none):G p=none:=by
 cases e:G p with
 | none=>rfl
 | some o=>rw[h p o hb e] at hp;cases hp
theorem qQf {xs:List T}:(numT xs).length=xs.length:=by simp[numT]
theorem jKz {n:Nat}:rngT 0 n=(List.range n).map fun (k:Nat)=>T.int k:=by simp[rngT]
theorem kKo {lo n:Nat}:rngT lo n=(List.range n).map fun (k:Nat)=>T.int ((lo+k:Nat):Int):=by simp[rngT]
theorem qJc {es:List Nat}:(es.map fun e=>T.int (e:Nat)).all jVp=true:=by
 rw[List.all_map,lKk];intros;rfl
theorem jZk {α:Type} {f:α->Bool}:∀ {es:List α},kKh (es.map fun e=>T.bl (f e))=some (es.all f)
 | []=>rfl
 | e::es=>by rw[lJo,kKh,jZk,lQv]
theorem en_lt {W:Web} {r i:Nat} {e:Nat×Nat} (h:en W r i=some e):r<W.length:=by
 obtain⟨es,h1,h2⟩:=kUn h
 exact (lJq.mp h1).1
structure Fine (W:Web):Prop where
 len:W.length<=1000
 row:∀(r:Nat) (es:List (Nat×Nat)),W[r]? =some es->es.length<=1000
 rng:∀r i s j,en W r i=some (s,j)->s<W.length
theorem jXq {W:Web} {r:Nat} {es:List (Nat×Nat)} (h:W[r]? =some es):L2.atI (W.map encR) (r:Int)=some (encR es):=by rw[atN];simp[h]
theorem qJn {es:List (Nat×Nat)} {i:Nat} {e:Nat×Nat} (h:es[i]? =some e):L2.atI (es.map encE) (i:Int)=some (encE e):=by rw[atN];simp[h]
theorem kYm {n k:Nat} {x:T} (h:(rngT 0 n)[k]? =some x):k<n/\x= .int (k:Nat):=qK1 h
def jJo (F:List Nat):List T:=F.map fun e=>T.int (e:Nat)
theorem qQu {F:List Nat} {r:Nat}:inT (.int r) (jJo F)=F.contains r:=by
 unfold inT jJo
 rw[List.any_map,List.contains_eq_any_beq]
 congr 1
 funext e
 simp only[Function.comp,eqT]
 by_cases h:e=r
 ·subst h;simp
 ·have h2:¬ (e:Int)=r:=by omega
  have h3:¬ r=e:=fun z=>h z.symm
  rw[beq_eq_false_iff_ne.mpr h3,beq_eq_false_iff_ne.mpr h2]
theorem qQv {G:Gp} {p:Addr} {F:List Nat} {r:Nat} (h:G p=some (.lst (jJo F))):inR G (.int r) (.ref p)=some (F.contains r):=by
 unfold inR
 rw[jJh h]
 show (if _ then _ else _)=_
 rw[lJc ⟨rfl,qJc⟩,qQu]
theorem jV2:∀ {n:Nat} {F:List Nat} (hn:F.Nodup) (hl:∀x,x∈F->x<n),F.length<=n
 | 0,F,hn,hl=>by
  cases F with
  | nil=>exact lJg _
  | cons a as=>exact absurd (hl a (lJ1)) (lQ5 _)
 | n+1,F,hn,hl=>by
  have h1:=jV2 (n:=n) (hn.erase n) (fun x hx=>by
   rw[hn.mem_erase_iff] at hx
   have:=hl x hx.2;omega)
  by_cases h:n∈F
  ·rw[List.length_erase_of_mem h] at h1;omega
  ·rw[List.erase_of_not_mem h] at h1;omega
theorem kZg {F:List Nat} {n:Nat} (hn:F.Nodup) (hl:∀x,x∈F->x<n) (he:F.length=n):∀r,r<n->r∈F:=by
 intro r hr
 apply lVc
 intro hm
 have:(r::F).length<=n:=jV2 (lKu.mpr ⟨hm,hn⟩) (fun x hx=>by rw[lJk] at hx;rcases hx with rfl | hx;exact hr;exact hl x hx)
 simp at this;omega
def Closed (W:Web) (S:Nat->Prop):Prop:=∀r i s j,S r->en W r i=some (s,j)->S s
structure Found (W:Web) (r0:Nat) (F:List Nat):Prop where
 nd:F.Nodup
 lt:∀x,x∈F->x<W.length
 got:∀S,S r0->Closed W S->∀x,x∈F->S x
def vis (F:List Nat) (es:List (Nat×Nat)):List Nat:=es.foldl (fun F e=>if F.contains e.1=true then F else F++[e.1]) F
def row (W:Web) (r:Nat):List (Nat×Nat):=(W[r]?).getD []
theorem jYs {W:Web} {r:Nat} {es:List (Nat×Nat)} (h:W[r]? =some es):row W r=es:=by unfold row;rw[h];rfl
theorem qKl {F:List Nat} {es:List (Nat×Nat)} {j:Nat} {e:Nat×Nat} (h:es[j]? =some e):vis F (es.take (j+1))=if (vis F (es.take j)).contains e.1=true then vis F (es.take j) else vis F (es.take j)++[e.1]:=by
 unfold vis
 rw[lK3,h,lQ8];rfl
def bfsN (W:Web):Nat->Nat->List Nat->List Nat
 | 0,_,F=>F
 | n+1,k,F=>match F[k]? with
  | some r=>bfsN W n (k+1) (vis F (row W r))
  | none=>F
def bfs (W:Web) (r:Nat):List Nat:=bfsN W W.length 0 [r]
theorem qJ4 {W:Web} {n k:Nat} {F:List Nat} (h:F.length<=k):bfsN W n k F=F:=by
 cases n with
 | zero=>rfl
 | succ n=>rw[bfsN,lK7 h]
theorem qJ3 {W:Web} {n k r:Nat} {F:List Nat} (h:F[k]? =some r):bfsN W (n+1) k F=bfsN W n (k+1) (vis F (row W r)):=by rw[bfsN,h]
def cl (M:List (List T)) (x i:Nat):Option T:=(M[x]?).bind fun ts=>ts[i]?
def put (M:List (List T)) (x i:Nat) (v:T):List (List T):=match M[x]? with
 | some ts=>M.set x (ts.set i v)
 | none=>M
theorem qJk {G:Gp} {a c:Nat}:eqG G (.int a) (.int c)=some (decide (a=c)):=by
 rw[show eqG G (.int a) (.int c)=some (eqT (.int a) (.int c)) from rfl]
 congr 1
 simp only[eqT]
 by_cases h1:a=c
 ·simp[h1]
 ·have:¬ (a:Int)=c:=by omega
  simp[h1,this]
abbrev RdOk (sp:Sp3) (rd:TS3) (N:List Str):Prop:=∀xs G Q,sp xs G Q->rd {nx:=fun _ G'=>Q .non G',rt:=Q} (jKc N xs) G
noncomputable def jUr:Sp3:=fun xs G Q=>∃(b:Addr) (m:Int) (n:Nat),xs=[.ref b,.int m]/\BoxAt G b n/\n<2^40/\1<=m/\m<2^29/\∀(r:Int) G',0<=r->r<m->BoxAt G' b (n+1)->Keep b G G'->Q (.int r) G'
def qUi:List Str:=["_law_box_here","_law_many","_law_found","_law_once"]
noncomputable def jYv:TS3:=
 (tSeq (tIfS (jKp (tOp rGt (tOp rIxF (tVar 0) (tC (.int 0))) (tC (.int 0)))) (tSeq (tAsg (tOp rMod (tOp rIxF (tVar 0) (tC (.int 0))) (tVar 1)) (jJg 2))
 (tSeq (tAsg (tOp qVu (tOp rIxF (tVar 0) (tC (.int 0))) (tVar 1)) (gSub (tVar 0) (tC (.int 0)) kJx))
 (tRet (tVar 2)))) jU9)
 (tSeq (tAsg (tOp jQr (tOp rIxF (tVar 0) (tC (.int 2))) (tC (.int 1))) (gSub (tVar 0) (tC (.int 2)) kJx))
 (tSeq (tAsg (tOp rMod (tOp jYz (tOp jQr (tOp rIxF (tVar 0) (tC (.int 1))) (tOp jYz (tC (.int 39373)) (tOp rIxF (tVar 0) (tC (.int 2))))) (tOp jQr (tC (.int 48271)) (tOp rIxF (tVar 0) (tC (.int 2))))) (tC (.int 2147483647))) (jJg 3))
 (tSeq (tAsg (tOp rMod (tOp jQr (tOp jYz (tVar 3) (tOp jQr (tOp rMod (tVar 3) (tC (.int 40009))) (tC (.int 7)))) (tOp rIxF (tVar 0) (tC (.int 2)))) (tC (.int 2147483629))) (gSub (tVar 0) (tC (.int 1)) kJx))
 (tRet (tOp rMod (tOp qVu (tOp rMod (tOp jYz (tOp rIxF (tVar 0) (tC (.int 1))) (tOp jQr (tOp rMod (tOp rIxF (tVar 0) (tC (.int 1))) (tC (.int 1009))) (tC (.int 3)))) (tC (.int 998244353))) (tC (.int 7))) (tVar 1)))))))
theorem kQ4:RdOk jUr jYv qUi:=by
 intro xs G Q h_;apply xe3 h_;clear h_;intro b m n h_;apply ae5 h_;clear h_;intro q0_ hn hm1 hm2 k
 obtain⟨x,y,z,hb,hx,hy0,hy1,hz0,hz1⟩:=q0_
 show jYv _ [some (.ref b),some (.int m),none,none] G
 wp_walk using 1,jYv,jQ0 hb,qUr hb
 have box:∀x' y' z':Int,0<=x'->0<=y'->y'<2147483648->0<=z'->z'<=n+1->BoxAt (gup G b (.lst [.int x',.int y',.int z'])) b (n+1):=fun x' y' z' h1 h2 h3 h4 h5=>⟨x',y',z',jJd,h1,h2,h3,h4,by omega⟩
 split
 ·exact⟨by omega,⟨by omega,by omega⟩,k _ _ (lV0 _ (by omega)) (lV1 _ (by omega)) (box _ _ _ (Int.ediv_nonneg hx (by omega)) hy0 hy1 hz0 (by omega)) .gup⟩
 ·have a0:=lV0 ((y+39373*(z+1))*(48271+(z+1))) (b:=2147483647) (by decide)
  have a1:=lV1 ((y+39373*(z+1))*(48271+(z+1))) (b:=2147483647) (by decide)
  refine⟨.inl (by decide),.inr ⟨by omega,by omega⟩,by decide,by decide,?_⟩
  generalize (y+39373*(z+1))*(48271+(z+1))%2147483647=u at a0 a1 ⊢
  have b0:=lV0 (u*(u%40009+7)+(z+1)) (b:=2147483629) (by decide)
  have b1:=lV1 (u*(u%40009+7)+(z+1)) (b:=2147483629) (by decide)
  refine⟨.inl ⟨by omega,by omega⟩,by decide,by decide,?_⟩
  generalize (u*(u%40009+7)+(z+1))%2147483629=v at b0 b1 ⊢
  refine⟨.inl ⟨by omega,by omega⟩,by decide,⟨by decide,by decide⟩,by omega,?_⟩
  exact k _ _ (lV0 _ (by omega)) (lV1 _ (by omega)) (box _ _ _ hx b0 (by omega) (by omega) (by omega)) .gup
def absZ (v:Int):Int:=if v<0 then -v else v
def boxT (v k:Int):List T:=[.int (if 10^18<=absZ v then absZ v else 0),.int ((v%2147483647+7919*k+11)*48271%2147483629),.int 0]
theorem qYn {G:Gp} {b:Addr} {v k:Int} (h:G b=some (.lst (boxT v k))):BoxAt G b 0:=by
 refine⟨_,_,_,h,by unfold absZ;split<;>split<;>omega,lV0 _ (by decide),?_,Int.le_refl _,by simp⟩
 have:=lV1 ((v%2147483647+7919*k+11)*48271) (b:=2147483629) (by decide)
 omega
noncomputable def kJs:Sp3:=fun xs G Q=>∃(c:Addr) (ns:List Int) (k:Nat),xs=[.ref c,.int k]/\G c=some (.lst (jK9 ns))/\ns.length<=63/\∀p G',G p=none->G' p=some (.lst (boxT (ns.getD k 0) k))->Sub G G'->Q (.ref p) G'
def qYr:List Str:=["_law_script","_law_k","_law_cell","_law_digits"]
noncomputable def kJw:TS3:=
 (tSeq (tAsg (tIf (jKp (tOp rLt (tVar 1) (tCB rLen (jJc (tVar 0) tNil)))) (tOp rIxF (tVar 0) (tVar 1)) (tC (.int 0))) (jJg 2))
 (tSeq (tAsg (tIf (jKp (tOp rGe (tCB rAbs (jJc (tVar 2) tNil)) (tOp rPow (tC (.int 10)) (tC (.int 18))))) (tCB rAbs (jJc (tVar 2) tNil)) (tC (.int 0))) (jJg 3))
 (tRet (tLst (jJc (tVar 3) (jJc (tOp rMod (tOp jYz (tOp jQr (tOp jQr (tOp rMod (tVar 2) (tC (.int 2147483647))) (tOp jYz (tC (.int 7919)) (tVar 1))) (tC (.int 11))) (tC (.int 48271))) (tC (.int 2147483629))) (jJc (tC (.int 0)) tNil)))))))
theorem kXg:RdOk kJs kJw qYr:=by
 intro xs G Q h_;apply xe3 h_;clear h_;intro c ns k h_;apply ae3 h_;clear h_;intro hc hl kk
 show kJw _ [some (.ref c),some (.int k),none,none] G
 have hs:=sz
 have fin:∀v:Int,v=ns.getD k 0->∀x,x=(if 10^18<=absZ v then absZ v else 0)->0<(2147483647:Int)/\L2.CMul 7919 k/\L2.CMul (v%2147483647+7919*k+11) 48271/\0<(2147483629:Int)/\3<=sizeLine/\∀p,G p=none->Q (.ref p) (gup G p (.lst [.int x,.int ((v%2147483647+7919*k+11)*48271%2147483629),.int 0])):=by
  rintro v rfl x rfl
  exact⟨by decide,.inl (by decide),.inr (by decide),by decide,by omega,fun p hp=>kk p _ hp jJd (.new hp)⟩
 have both:∀v:Int,v=ns.getD k 0->(if (10:Int)^Int.toNat 18<=(if v<0 then -v else v) then (0<(2147483647:Int)/\L2.CMul 7919 k/\L2.CMul (v%2147483647+7919*k+11) 48271/\0<(2147483629:Int)/\3<=sizeLine/\∀p,G p=none->Q (.ref p) (gup G p (.lst [.int (if v<0 then -v else v),.int ((v%2147483647+7919*k+11)*48271%2147483629),.int 0]))) else (0<(2147483647:Int)/\L2.CMul 7919 k/\L2.CMul (v%2147483647+7919*k+11) 48271/\0<(2147483629:Int)/\3<=sizeLine/\∀p,G p=none->Q (.ref p) (gup G p (.lst [.int 0,.int ((v%2147483647+7919*k+11)*48271%2147483629),.int 0])))):=by
  intro v hv
  by_cases h:10^18<=absZ v
  ·rw[lJc (show (10:Int)^Int.toNat 18<=(if v<0 then -v else v) from h)]
   exact fin v hv _ (by rw[lJc h];rfl)
  ·rw[lJb (show ¬ (10:Int)^Int.toNat 18<=(if v<0 then -v else v) from h)]
   exact fin v hv _ (by rw[lJb h])
 wp_walk using 1,kJw,jJh hc,List.length_map,jQ0 hc
 by_cases hk:k<ns.length
 ·rw[lJc (by omega)]
  have hv:ns[k]? =some ns[k]:=lJp hk
  have hg:ns[k]=ns.getD k 0:=by rw[List.getD,hv];rfl
  have b:=both ns[k] hg
  refine⟨.int ns[k],by rw[atN,lJz,hv];rfl,_,rfl,⟨by decide,by decide,by decide⟩,?_⟩
  generalize ns[k]=v at b
  by_cases h:(10:Int)^Int.toNat 18<=(if v<0 then -v else v)
  ·rw[lJc h] at b ⊢
   exact⟨v,rfl,v,rfl,b⟩
  ·rw[lJb h] at b ⊢
   exact⟨v,rfl,b⟩
 ·rw[lJb (by omega)]
  exact⟨⟨by decide,by decide,by decide⟩,both 0 (by rw[List.getD,lK7 (by omega)];rfl)⟩
noncomputable def jVi:Sp3:=fun xs G Q=>∃(ns:List Int) (m:Int),xs=[.scr (jK9 ns),.int m]/\ns.length<=63/\1<=m/\m<=63/\∀D rs G',G D=none->G' D=some (.lst (rs.map T.ref))->rs.length<=63->(D::rs).Nodup->(∀r,r∈rs->BoxAt G' r 0)->Sub G G'->Q (.ref D) G'
def kX1:List Str:=["_law_script","_law_many","_law_cells","_law_k","_law_cell"]
noncomputable def jVl:TS3:=
 (tSeq (tAsg (tCB kYt (jJc (tSl rSlF (tVar 0) jUo (jZq (tVar 1))) tNil)) (jJg 2))
 (tSeq (tFor (jZd (jJc (tSl rSlF (tVar 0) (jZq (tVar 1)) (jZq (tC (.int 63)))) tNil)) (gTup 2 (jJ8 (jJg 3) (jJ8 (jJg 4) gNil))) (tAsg (tOp jQr (tOp rIxF (tVar 2) (tOp rMod (tVar 3) (tVar 1))) (tOp jYz (tVar 4) (tOp jQr (tVar 3) (tC (.int 2))))) (gSub (tVar 2) (tOp rMod (tVar 3) (tVar 1)) kJx)))
 (tRet (jKn [false,false,false,true,false] (jUf (jJc (tCB rMax (jJc (tC (.int 1)) (jJc (tCB rLen (jJc (tVar 2) tNil)) tNil))) tNil)) (jJg 3) jK4 (jK0 kJs (jJc (tVar 2) (jJc (tVar 3) tNil)))))))
theorem kJv:RdOk jVi jVl kX1:=by
 intro xs G Q h_;apply xe2 h_;clear h_;intro ns m h_;apply ae4 h_;clear h_;intro hl hm1 hm2 kk
 show jVl _ [some (.scr (jK9 ns)),some (.int m),none,none,none] G
 have hs:=sz
 wp_walk using 1,jVl,tSl,rSlF,slR,jUo,jZq,kYt,kQ8,jKq,jZd
 intro p hp p1 hp1
 obtain⟨hpp,hp10⟩:=jQb hp1
 intro q hq
 obtain⟨hq1,hq2⟩:=jQb hq
 obtain⟨hqp,hq0⟩:=jQb hq2
 obtain⟨cs,hcs,lcs⟩:∃cs:List Int,cutT (jK9 ns) none (some m)=jK9 cs/\cs.length=min m.toNat ns.length:=by
  refine⟨ns.take (min m.toNat ns.length),?_,by simp⟩
  simp only[cutT,HT.sIx,lJf,lXq,Nat.sub_zero]
  rw[lJb (by omega)]
  simp[lXp]
 obtain⟨rs,hrs,lrs⟩:∃rs:List Int,cutT (jK9 ns) (some m) (some 63)=jK9 rs/\(rs.length<=63/\(0<rs.length->m.toNat<=ns.length)):=by
  refine⟨(ns.drop (min m.toNat ns.length)).take (min 63 ns.length-min m.toNat ns.length),?_,?_,?_⟩
  ·simp only[cutT,HT.sIx,lJf]
   simp only[show ¬ m<0 by omega,show ¬ (63:Int)<0 by decide,lKj]
   simp[lXp,List.map_drop]
  ·simp;omega
  ·simp;omega
 rw[hcs,hrs]
 refine⟨jK9 rs,by simp only[jKt,jJd,asL],?_⟩
 refine⟨fun i τ G'=>∃(v3 v4:Option T) (ms:List Int),τ=[some (.scr (jK9 ns)),some (.int m),some (.ref p1),v3,v4]/\G' p1=some (.lst (jK9 ms))/\ms.length=cs.length/\G' q=some (.lst (jK9 rs))/\Sub G G',?_,?_,?_,?_⟩
 ·refine⟨none,none,cs,rfl,by rw[jJp hq1.symm,jJd],rfl,jJd,(((Sub.new hp).over hp10).over hq0)⟩
 ·intro i τ G' hi h_;apply xe3 h_;clear h_;intro v3 v4 ms h_;apply ae4 h_;clear h_;intro h1 h2 h3 h4
  simp only[jKt,h3,asL]
 ·intro i x τ G' hx h_;apply xe3 h_;clear h_;intro v3 v4 ms h_;apply ae4 h_;clear h_;intro h1 h2 h3 h4
  have hi:i<rs.length:=by have:=(lJq.mp hx).1;simpa[jKx] using this
  have hri:(jK9 rs)[i]? =some (.int rs[i]):=by simp[hi]
  rw[jX6 hri] at hx
  cases hx
  have hml:=lrs.2 (by omega)
  have hk0:(0:Int)<=(i:Int)%m:=lV0 _ (by omega)
  have hk1:(i:Int)%m<m:=lV1 _ (by omega)
  have hk:((i:Int)%m).toNat<ms.length:=by omega
  have hat:L2.atI (jK9 ms) ((i:Int)%m)=some (.int ms[((i:Int)%m).toNat]):=by rw[atZ hk0];simp[hk]
  have hix:L2.ixN (jK9 ms).length ((i:Int)%m)=some ((i:Int)%m).toNat:=ixZ hk0 (by simp;omega)
  wp_walk using 1,jQ0 h1,hat,qKv h1 hix
  refine⟨by omega,.inr ⟨by omega,by omega⟩,by omega,?_⟩
  exact⟨ms.set ((i:Int)%m).toNat (ms[((i:Int)%m).toNat]+rs[i]*((i:Int)+2)),by simp[jK9,List.map_set],by simpa using h2,by rw[jJp hq1];exact h3,h4.over hp10⟩
 ·intro τ G' h_;apply xe3 h_;clear h_;intro v3 v4 ms h_;apply ae4 h_;clear h_;intro h1 h2 h3 h4
  have hm:ms.length<=63:=by omega
  wp_walk using 1,jUf,rMax,jJh h1
  obtain⟨N,hN,hN2⟩:∃N:Nat,(if ((jK9 ms).length:Int)>1 then ((jK9 ms).length:Int) else 1)=(N:Int)/\N<=63:=by
   refine⟨(if ((jK9 ms).length:Int)>1 then ((jK9 ms).length:Int) else 1).toNat,?_,?_⟩<;>rw[lJf]<;>split<;>omega
  rw[hN]
  refine⟨by omega,by omega,?_⟩
  rw[show ((N:Nat):Int).toNat=N by omega,jKz]
  refine jXr (fun k:Nat=>boxT (ms.getD k 0) k) (by simp;omega) (fun _ _=>trivial) ?_ ?_
  ·intro i k hk G2 K K0 s hK
   wp_walk using 1,tSeq
   exact⟨p1,ms,k,rfl,s _ _ h1,hm,fun p G4 hp h4 s4=>hK p G4 hp h4 s4⟩
  ·intro E rs G2 hE hE2 s2 hrl hnd hrs
   rw[lKi] at hrl
   refine kk E rs G2 (h4.none hE) hE2 (by omega) hnd (fun r hr=> ?_) (h4.trans s2)
   obtain⟨j,hj⟩:=lKw hr
   have hjl:j<rs.length:=(lJq.mp hj).1
   exact qYn (hrs j r j hj (by rw[lVk (by omega)])).2
theorem kZe {xs:List T} {j:Nat} {y:T} (h:(numT xs)[j]? =some y):∃x,xs[j]? =some x/\y= .tup [.int j,x]:=by
 have hj:j<xs.length:=by have:=(lJq.mp h).1;rwa [jKx] at this
 refine⟨xs[j],lJp hj,?_⟩
 rw[jX6 (lJp hj)] at h
 cases h;rfl
def PlN:Nat->T->Prop
 | 0,t=>∃i,t= .int i
 | n+1,t=>(∃i,t= .int i)\/∃ts,t= .tup ts/\ts.length<=6000/\∀u,u∈ts->PlN n u
noncomputable def AL:Nat->Gp->T->T->Prop
 | 0,_,x,y=>x=y/\PlN 0 x
 | n+1,G,x,y=>(x=y/\PlN (n+1) x)\/∃(p q:Addr) (ts:List T),x= .ref p/\y= .ref q/\G p=some (.lst ts)/\G q=some (.lst ts)/\ts.length<=6000/\∀u,u∈ts->PlN n u
def jYp (n:Nat):Sp3:=fun xs G Q=>∃x y,xs=[x,y]/\AL n G x y/\∀G',Sub G G'->Q (.bl true) G'
section
variable (jXd:Sp3)
def jU1:List Str:=["_law_found","_law_due","_law_one","_law_other"]
noncomputable def jKw:TS3:=
 (tSeq (tIfS (jKp (tCB rIsi (jJc (tVar 1) (jJc (tTup (jJc (tC (.ty "list")) (jJc (tC (.ty "tuple")) tNil))) tNil)))) (tSeq (tIfS (tOr (tNot (jKp (tCB rIsi (jJc (tVar 0) (jJc (tTup (jJc (tC (.ty "list")) (jJc (tC (.ty "tuple")) tNil))) tNil))))) (jKp (tOp rNeA (tCB rIsi (jJc (tVar 0) (jJc (tC (.ty "list")) tNil))) (tCB rIsi (jJc (tVar 1) (jJc (tC (.ty "list")) tNil)))))) (tRet (tC (.bl false))) jU9)
 (tRet (kXa (tOp rEqA (tCB rLen (jJc (tVar 0) tNil)) (tCB rLen (jJc (tVar 1) tNil))) (tCB rAll (jJc (jKn [false,false,true,true] (qQw (jJc (tVar 0) (jJc (tVar 1) tNil))) (gTup 2 (jJ8 (jJg 2) (jJ8 (jJg 3) gNil))) jK4 (jK0 jXd (jJc (tVar 2) (jJc (tVar 3) tNil)))) tNil))))) jU9)
 (tSeq (tIfS (tOr (jKp (tOp rIsN (tVar 1) (tC .non))) (jKp (tCB rIsi (jJc (tVar 1) (jJc (tC (.ty "str")) tNil))))) (tRet (kXa (tOp rEqA (tVar 0) (tVar 1)) (tOp rEqA (tCB rIsi (jJc (tVar 0) (jJc (tC (.ty "str")) tNil))) (tCB rIsi (jJc (tVar 1) (jJc (tC (.ty "str")) tNil)))))) jU9)
 (tRet (kXa (tCB rIsi (jJc (tVar 0) (jJc (tC (.ty "int")) tNil))) (kXa (tOp rEqA (tCB rIsi (jJc (tVar 0) (jJc (tC (.ty "bool")) tNil))) (tCB rIsi (jJc (tVar 1) (jJc (tC (.ty "bool")) tNil)))) (tOp rEqA (tVar 0) (tVar 1)))))))
end
theorem isi_ib {G:Gp} {i:Int}:isiT G (.int i) (.ty "bool")=some false:=rfl
theorem isi_il {G:Gp} {i:Int}:isiT G (.int i) (.tup [.ty "list",.ty "tuple"])=some false:=rfl
theorem isi_ii {G:Gp} {i:Int}:isiT G (.int i) (.ty "int")=some true:=rfl
theorem isi_is {G:Gp} {i:Int}:isiT G (.int i) (.ty "str")=some false:=rfl
theorem qXs {G:Gp} {ts:List T}:isiT G (.tup ts) (.tup [.ty "list",.ty "tuple"])=some true:=rfl
theorem isi_tl {G:Gp} {ts:List T}:isiT G (.tup ts) (.ty "list")=some false:=rfl
theorem qJm {G:Gp} {a:Bool}:eqG G (.bl a) (.bl a)=some true:=by
 rw[show eqG G (.bl a) (.bl a)=some (eqT (.bl a) (.bl a)) from rfl]
 simp[eqT]
theorem kUm {G:Gp} {a:Int}:eqG G (.int a) (.int a)=some true:=by
 rw[show eqG G (.int a) (.int a)=some (eqT (.int a) (.int a)) from rfl]
 simp[eqT]
theorem kZz {G:Gp} {p:Addr} {ts:List T} (h:G p=some (.lst ts)):isiT G (.ref p) (.tup [.ty "list",.ty "tuple"])=some true:=by simp only[isiT,jV8,h];rfl
theorem qU8 {G:Gp} {p:Addr} {ts:List T} (h:G p=some (.lst ts)):isiT G (.ref p) (.ty "list")=some true:=by simp only[isiT,jV8,h];rfl
theorem jVy (sp:Sp3):∀xs G Q,jYp 0 xs G Q->jKw sp {nx:=fun _ G'=>Q .non G',rt:=Q} (jKc jU1 xs) G:=by
 intro xs G Q h_;apply xe2 h_;clear h_;intro t t' h_;apply ae2 h_;clear h_;intro ht kk
 obtain⟨rfl,ht⟩:=ht
 show jKw _ _ [some t,some t,none,none] G
 have hs:=sz
 obtain⟨i,rfl⟩:=ht
 wp_walk using 1,jKw,rIsi,rEqA,rIsN,kUm,qJm,isi_ib,isi_il,isi_ii,isi_is
 exact⟨by omega,kk G (.refl _)⟩
theorem kUv {ts:List T}:zipT ts ts=ts.map fun t=>T.tup [t,t]:=by
 unfold zipT
 induction ts with
 | nil=>rfl
 | cons a as ih=>rw[lXf,lJo,ih];rfl
theorem al_in {n:Nat} {G:Gp} {u:T} (h:PlN n u):AL n G u u:=by
 cases n with
 | zero=>exact⟨rfl,h⟩
 | succ n=>exact .inl ⟨rfl,h⟩
theorem jQt (n:Nat):∀xs G Q,jYp (n+1) xs G Q->jKw (jYp n) {nx:=fun _ G'=>Q .non G',rt:=Q} (jKc jU1 xs) G:=by
 intro xs G Q h_;apply xe2 h_;clear h_;intro x y h_;apply ae2 h_;clear h_;intro ht kk
 rcases ht with ⟨rfl,h | ⟨ts,rfl,hl,hts⟩⟩ | ⟨p,q,ts,rfl,rfl,hp,hq,hl,hts⟩
 ·exact jVy _ _ _ _ ⟨x,x,rfl,⟨rfl,h⟩,kk⟩
 ·rw[show jKc jU1 [.tup ts,.tup ts]=[some (.tup ts),some (.tup ts),none,none] from rfl]
  have hs:=sz
  wp_walk using 1,jKw,rIsi,rEqA,rNeA,qQw,qXs,isi_tl,qJm,kUm
  refine⟨by omega,by omega,ts,ts,.inl ⟨rfl,rfl,?_⟩⟩
  rw[kUv]
  refine jJ5 (fun _=>T.bl true) (by omega) (fun _ _=>trivial) ?_ ?_
  ·intro i t ht G' K K0 s hk
   wp_walk using 1,tSeq
   exact⟨t,t,rfl,al_in (hts t (lJx ht)),fun G4 s4=>hk G4 s4⟩
  ·intro D G' hD h1 h2
   refine⟨D,_,_,rfl,h1,jZk (f:=fun _=>true),?_⟩
   rw[lKk.mpr (fun _ _=>rfl)]
   exact kk G' h2
 ·rw[show jKc jU1 [.ref p,.ref q]=[some (.ref p),some (.ref q),none,none] from rfl]
  have hs:=sz
  have lp:∀G' a,Sub G G'->G a=some (.lst ts)->jKt G' (.ref a)=some ts:=fun G' a s h=>by rw[show jKt G' (.ref a)=asL (G' a) from rfl,s _ _ h];rfl
  wp_walk using 1,jKw,rIsi,rEqA,rNeA,qQw,kZz hp,kZz hq,qU8 hp,qU8 hq,qJm,kUm,jJh hp,jJh hq
  refine⟨by omega,by omega,ts,ts,.inr ⟨lp G p (.refl _) hp,lp G q (.refl _) hq,?_⟩⟩
  rw[kUv]
  refine jJ5 (fun _=>T.bl true) (by omega) (fun G' s=>⟨lp G' p s hp,lp G' q s hq⟩) ?_ ?_
  ·intro i t ht G' K K0 s hk
   wp_walk using 1,tSeq
   exact⟨t,t,rfl,al_in (hts t (lJx ht)),fun G4 s4=>hk G4 s4⟩
  ·intro D G' hD h1 h2
   refine⟨D,_,_,rfl,h1,jZk (f:=fun _=>true),?_⟩
   rw[lKk.mpr (fun _ _=>rfl)]
   exact kk G' h2
abbrev jXd:=jYp 4
def ix:List Nat->Nat->Nat
 | [],_=>0
 | a::l,x=>if a=x then 0 else ix l x+1
def endT (F:List Nat) (es:List (Nat×Nat)):List (Nat×Nat):=es.map fun e=>(ix F e.1,e.2)
def kJl (W:Web) (r:Nat):Web:=(bfs W r).map fun q=>endT (bfs W r) (row W q)
theorem kZd {F:List Nat}:numT (jJo F)=(List.range F.length).map fun i:Nat=>T.tup [.int (i:Nat),.int (F.getD i 0:Nat)]:=by
 apply lVu
 intro i
 by_cases hi:i<F.length
 ·rw[jX6 (x:= .int (F[i]:Nat)) (by simp[jJo,hi]),lJz,lVk hi]
  show _=some (T.tup [T.int (i:Nat),T.int ((F.getD i 0:Nat):Int)])
  rw[show F.getD i 0=F[i] by simp[List.getD,hi]]
 ·rw[lK7 (by rw[qQf];simp[jJo];omega),lK7 (by simp;omega)]
def numK (F:List Nat):List (Int×T):=(List.range F.length).map fun i:Nat=>((F.getD i 0:Nat),T.int (i:Nat))
theorem kZf {F:List Nat}:(numK F).map (·.1)=F.map fun n:Nat=>(n:Int):=by
 unfold numK
 apply lVu
 intro i
 by_cases hi:i<F.length
 ·simp[hi]
 ·rw[lK7 (by simp;omega),lK7 (by simp;omega)]
theorem ix_at {x:Nat}:∀ {F:List Nat},x∈F->F[ix F x]? =some x/\∀k,k<ix F x->F[k]? ≠some x
 | a::l,h=>by
  by_cases e:a=x
  ·rw[ix,lJc e];exact⟨by rw[e];rfl,fun k hk=>absurd hk (lQ5 _)⟩
  ·rcases (lJk.mp h) with z | z
   ·exact absurd z.symm e
   ·obtain⟨h1,h2⟩:=ix_at z
    rw[ix,lJb e]
    refine⟨by simpa using h1,fun k hk=> ?_⟩
    cases k with
    | zero=>intro q;exact e (by simpa using q)
    | succ k=>simpa using h2 k (by omega)
theorem jZz {κ:Type} [DecidableEq κ]:∀ {kvs:List (κ×T)} {k:κ} {v:T} {j:Nat},kvs[j]? =some (k,v)->(∀i p,i<j->kvs[i]? =some p->p.1≠k)->valT kvs k=some v
 | [],_,_,j,h,_=>by simp at h
 | p::r,k,v,0,h,_=>by
  have:p=(k,v):=by simpa using h
  subst this
  simp[valT]
 | p::r,k,v,j+1,h,h2=>by
  have e:p.1≠k:=h2 0 p (Nat.zero_lt_succ _) rfl
  have:=jZz (kvs:=r) (k:=k) (v:=v) (j:=j) (by simpa using h) fun i q hi hq=>h2 (i+1) q (by omega) (by simpa using hq)
  unfold valT at this ⊢
  rw[List.find?_cons_of_neg (by simpa using e)]
  exact this
theorem qXp {G:Gp} {p:Addr} {kvs:List (L2.Key×T)} {x:Int} {t:T} (h:G p=some (.dck kvs)) (hv:valT kvs (Sum.inl x)=some t):ixR G (.ref p) (.int x)=some t:=by
 simp only[ixR,seqT,h,asL,dAt,jXz,hv]
theorem kX6 {F:List Nat} {x:Nat} (nd:F.Nodup) (hx:x∈F):valT ((numK F).map fun kv=>((Sum.inl kv.1:L2.Key),kv.2)) (Sum.inl (x:Int))=some (.int (ix F x:Nat)):=by
 obtain⟨h1,h2⟩:=ix_at hx
 have hl:ix F x<F.length:=(lJq.mp h1).1
 have at_:∀i,i<F.length->((numK F).map fun kv=>((Sum.inl kv.1:L2.Key),kv.2))[i]? =some (Sum.inl ((F.getD i 0:Nat):Int),T.int (i:Nat)):=fun i hi=>by simp[numK,hi]
 refine jZz (j:=ix F x) ?_ fun i p hi hp=> ?_
 ·rw[at_ _ hl,show F.getD (ix F x) 0=x by simp[List.getD,h1]]
 ·rw[at_ i (by omega)] at hp
  cases hp
  intro z
  have z1:((F.getD i 0:Nat):Int)=(x:Int):=Sum.inl.inj z
  refine h2 i hi ?_
  rw[lJp (by omega)]
  congr 1
  have:F.getD i 0=F[i]'(by omega):=by simp[List.getD,show i<F.length by omega]
  omega
def jYn:Sp3:=fun xs G Q=>∃(W:Web) (r0:Nat),xs=[encW W,.int (r0:Nat)]/\Fine W/\r0<W.length/\∀G',Sub G G'->Q (encW (kJl W r0)) G'
def kV4:List Str:=["_law_web","_law_room","_law_order","_law_at","_law_other","_law_door","_law_place","_law_k","_law_one"]
noncomputable def kKs:TS3:=
 (tSeq (tAsg (tLst (jJc (tVar 1) tNil)) (jJg 2))
 (tSeq (tAsg (tC (.int 0)) (jJg 3))
 (tSeq (jVr (jKp (tOp rLt (tVar 3) (tCB rLen (jJc (tVar 2) tNil)))) (tSeq (tFor (iSeq (tOp rIxF (tVar 0) (tOp rIxF (tVar 2) (tVar 3)))) (gTup 2 (jJ8 (jJg 4) (jJ8 (jJg 5) gNil))) (tIfS (jKp (tOp jQu (tVar 4) (tVar 2))) (jXa (tBM "list" jQo (tVar 2) (jJc (tVar 4) tNil))) jU9))
 (tAsg (tOp jQr (tVar 3) (tC (.int 1))) (jJg 3))))
 (tSeq (tAsg (tCB kYu (jJc (jKn [false,false,false,false,false,false,false,true,true] (jZd (jJc (tVar 2) tNil)) (gTup 2 (jJ8 (jJg 7) (jJ8 (jJg 8) gNil))) jK4 (tTup (jJc (tVar 8) (jJc (tVar 7) tNil)))) tNil)) (jJg 6))
 (tRet (tCB jKe (jJc (jKn [false,false,false,false,false,false,false,false,true] (iSeq (tVar 2)) (jJg 8) jK4 (tCB jKe (jJc (jKn [false,false,false,false,true,true,false,false,false] (iSeq (tOp rIxF (tVar 0) (tVar 8))) (gTup 2 (jJ8 (jJg 4) (jJ8 (jJg 5) gNil))) jK4 (tTup (jJc (tOp rIxF (tVar 6) (tVar 4)) (jJc (tVar 5) tNil)))) tNil))) tNil)))))))
noncomputable def kYr:TS3:=(tSeq (tAsg (tCB kYu (jJc (jKn [false,false,false,false,false,false,false,true,true] (jZd (jJc (tVar 2) tNil)) (gTup 2 (jJ8 (jJg 7) (jJ8 (jJg 8) gNil))) jK4 (tTup (jJc (tVar 8) (jJc (tVar 7) tNil)))) tNil)) (jJg 6))
 (tRet (tCB jKe (jJc (jKn [false,false,false,false,false,false,false,false,true] (iSeq (tVar 2)) (jJg 8) jK4 (tCB jKe (jJc (jKn [false,false,false,false,true,true,false,false,false] (iSeq (tOp rIxF (tVar 0) (tVar 8))) (gTup 2 (jJ8 (jJg 4) (jJ8 (jJg 5) gNil))) jK4 (tTup (jJc (tOp rIxF (tVar 6) (tVar 4)) (jJc (tVar 5) tNil)))) tNil))) tNil))))
theorem qK4:kKs=tSeq (tAsg (tLst (jJc (tVar 1) tNil)) (jJg 2)) (tSeq (tAsg (tC (.int 0)) (jJg 3)) (tSeq (jVr (jKp (tOp rLt (tVar 3) (tCB rLen (jJc (tVar 2) tNil)))) (tSeq (tFor (iSeq (tOp rIxF (tVar 0) (tOp rIxF (tVar 2) (tVar 3)))) (gTup 2 (jJ8 (jJg 4) (jJ8 (jJg 5) gNil))) (tIfS (jKp (tOp jQu (tVar 4) (tVar 2))) (jXa (tBM "list" jQo (tVar 2) (jJc (tVar 4) tNil))) jU9))
 (tAsg (tOp jQr (tVar 3) (tC (.int 1))) (jJg 3)))) kYr)):=rfl
theorem tf3_ok {D':Ends3} {G:Gp} {p:Addr} {W:Web} {F:List Nat} {v1 v3 v4 v5:Option T} (fine:Fine W) (nd:F.Nodup) (hlt:∀x,x∈F->x<W.length) (cl:∀q,q∈F->∀e,e∈row W q->e.1∈F) (hp:G p=some (.lst (jJo F)))
  (kk:∀G',Sub G G'->D'.rt (encW (F.map fun q=>endT F (row W q))) G'):kYr D' [some (.tup (W.map encR)),v1,some (.ref p),v3,v4,v5,none,none,none] G:=by
 have hs:=sz
 have hFl:=jV2 nd hlt
 have hWl:=fine.len
 wp_walk using 1,kYr,jZd,iSeq
 refine⟨_,by simp only[jKt,hp,asL];rfl,?_⟩
 rw[kZd]
 refine jJ5 (fun i:Nat=>T.tup [.int (F.getD i 0:Nat),.int (i:Nat)]) (by simp;omega) (fun G' s=>by simp only[jKt,s _ _ hp,asL]) ?_ ?_
 ·intro i k hk G' K K0 s hkk
  wp_walk using 1,tSeq
  exact⟨by omega,hkk _ (.refl _)⟩
 ·intro q G1 hq0 hq1 s1
  wp_walk using 1,tSeq
  have hq2:G1 q=some (.lst ((numK F).map fun kv=> .tup [.int kv.1,kv.2])):=by rw[hq1,numK,lJ4];rfl
  refine⟨q,numK F,rfl,hq2,?_,by simp[numK];omega,fun nn hnn=> ?_⟩
  ·rw[kZf]
   exact List.Pairwise.map _ (fun a b h z=>h (by omega)) nd
  ·have s2:Sub G (gup G1 nn (.dck ((numK F).map fun kv=>(Sum.inl kv.1,kv.2)))):=s1.trans (.new hnn)
   have hn2:(gup G1 nn (.dck ((numK F).map fun kv=>((Sum.inl kv.1:L2.Key),kv.2)))) nn=some (.dck ((numK F).map fun kv=>(Sum.inl kv.1,kv.2))):=jJd
   generalize gup G1 nn (.dck ((numK F).map fun kv=>((Sum.inl kv.1:L2.Key),kv.2)))=G2 at s2 hn2
   have hp2:=s2 _ _ hp
   refine⟨_,jJh hp2,?_⟩
   refine jJ5 (es:=F) (enc:=fun n:Nat=>T.int (n:Nat)) (fun q=>encR (endT F (row W q))) (by omega) (fun G' s=>jJh (s _ _ hp2)) ?_ ?_
   ·intro i x hx G' K K0 s hkk
    have hxF:=lJx hx
    have hxW:=hlt x hxF
    obtain⟨es,hrow⟩:∃es,W[x]? =some es:=⟨_,lJp hxW⟩
    have hel:=fine.row x es hrow
    wp_walk using 1,iSeq,jXq hrow,encR
    refine jJ5 (es:=es) (enc:=encE) (fun e=>encE (ix F e.1,e.2)) (by omega) (fun _ _=>trivial) ?_ ?_
    ·intro j e he G'' K' K0' s' hkk'
     have heF:e.1∈F:=cl x hxF e (by rw[jYs hrow];exact lJx he)
     wp_walk using 1,encE
     exact⟨_,qXp (s' _ _ (s _ _ hn2)) (kX6 nd heF),by omega,hkk' _ (.refl _)⟩
    ·intro w G3 hw0 hw3 s3
     wp_walk using 1,jJh hw3
     have:=hkk G3 s3
     unfold endT at this
     rw[jYs hrow,encR,lJ4] at this
     exact this
   ·intro w G3 hw0 hw3 s3
    wp_walk using 1,jJh hw3
    have:=kk G3 (s2.trans s3)
    unfold encW at this
    rw[lJ4] at this
    exact this
theorem kQ3:RdOk jYn kKs kV4:=by
 intro xs G Q h_;apply xe2 h_;clear h_;intro W r0 h_;apply ae3 h_;clear h_;intro fine hr0 kk
 rw[show jKc kV4 [encW W,.int (r0:Nat)]=[some (.tup (W.map encR)),some (.int (r0:Nat)),none,none,none,none,none,none,none] from rfl,qK4]
 have hs:=sz
 have hl:=fine.len
 wp_walk using 1,jVr,jKq
 refine⟨by omega,fun p hp=> ?_⟩
 let P:Nat->St3->Gp->Prop:=fun m τ G'=>∃(k:Nat) (v4 v5:Option T) (F:List Nat),τ=[some (.tup (W.map encR)),some (.int (r0:Nat)),some (.ref p),some (.int (k:Nat)),v4,v5,none,none,none]/\G' p=some (.lst (jJo F))/\Found W r0 F/\Sub G G'/\bfs W r0=bfsN W (W.length-k) k F/\m=W.length-k/\∀q,q∈F.take k->∀e,e∈row W q->e.1∈F
 refine⟨P,⟨_,0,none,none,[r0],rfl,jJd,⟨by simp,by simpa using hr0,fun S h0 _ x hx=>by rw[lJs] at hx;rw[hx];exact h0⟩,.new hp,rfl,rfl,fun q hq=>by simp at hq⟩,?_⟩
 intro m τ G1 h_;apply xe4 h_;clear h_;intro k v4 v5 F h_;apply ae6 h_;clear h_;intro h1 h2 h3 hB e4_ hcl
 subst e4_
 wp_walk using 1,iSeq,jJh h1,jQ0 h1
 have hFl:=jV2 h2.nd h2.lt
 split
 ·rename_i hc
  have hat:k<F.length:=by rw[jJo,lJf] at hc;omega
  have hF:F[k]? =some F[k]:=lJp hat
  have hfm:F[k]∈F:=lXn hat
  generalize F[k]=r at hF hfm
  have hrW:=h2.lt r hfm
  have hW:W[r]? =some W[r]:=lJp hrW
  generalize W[r]=es at hW
  have hatI:L2.atI (jJo F) (k:Nat)=some (.int (r:Nat)):=by rw[atN];simp[jJo,hF]
  wp_walk using 1,hatI,jXq hW,encR
  let N:St3->Gp->Prop:=P (W.length-(k+1))
  refine⟨N,fun τ' G' hN=>⟨_,by omega,hN⟩,?_⟩
  let J1:Nat->St3->Gp->Prop:=fun j τ G'=>∃(v4 v5:Option T) (X:List Nat),τ=[some (.tup (W.map encR)),some (.int (r0:Nat)),some (.ref p),some (.int (k:Nat)),v4,v5,none,none,none]/\G' p=some (.lst (jJo (F++X)))/\Found W r0 (F++X)/\Sub G G'/\F++X=vis F (es.take j)/\∀e,e∈es.take j->e.1∈F++X
  refine⟨J1,?_,?_,?_,?_⟩
  ·exact⟨_,_,[],rfl,by rw[lKz];exact h1,by rw[lKz];exact h2,h3,by rw[lKz];rfl,fun e z=>by simp at z⟩
  ·intros;trivial
  ·intro j x τ G2 hx0 h_;apply xe3 h_;clear h_;intro v4 v5 X h_;apply ae5 h_;clear h_;intro i1 i3 i4 iB i5
   obtain⟨e,hx,rfl⟩:=jKk hx0
   have hen:=qX4 hW hx
   have hv:=qKl (F:=F) hx
   rw[<-iB] at hv
   have hte:es.take (j+1)=es.take j++[e]:=by rw[lK3,hx];rfl
   wp_walk using 1,encE,jQu,qQv i1,jK2 i1,i1
   by_cases hm:e.1∈F++X
   ·have hct:(F++X).contains e.1=true:=List.contains_iff_mem.mpr hm
    rw[lJb (by rw[hct];decide)]
    rw[lJc hct] at hv
    refine⟨_,_,X,rfl,i1,i3,i4,hv.symm,fun e' z=> ?_⟩
    rw[hte,lJr,lJs] at z
    rcases z with z | rfl
    ·exact i5 e' z
    ·exact hm
   ·have hct:(F++X).contains e.1=false:=by rw[<-Bool.not_eq_true,List.contains_iff_mem];exact hm
    rw[lJc hct]
    rw[lJb (by rw[hct];decide)] at hv
    have hFl:=jV2 i3.nd i3.lt
    refine⟨by rw[jJo,lJf];omega,_,_,X++[e.1],rfl,by rw[jJd,<-lJn];simp[jJo],?_,i4.over hp,by rw[<-lJn];exact hv.symm,fun e' z=> ?_⟩
    ·rw[<-lJn]
     refine⟨?_,?_,?_⟩
     ·rw[List.nodup_append];exact⟨i3.nd,by simp,fun a ha b hb=>by rw[lJs] at hb;subst hb;rintro rfl;exact hm ha⟩
     ·intro x hx
      rw[lJr,lJs] at hx
      rcases hx with hx | rfl
      ·exact i3.lt x hx
      ·exact fine.rng _ _ _ _ hen
     ·intro S h0 hc x hx
      rw[lJr,lJs] at hx
      rcases hx with hx | rfl
      ·exact i3.got S h0 hc x hx
      ·exact hc _ _ _ _ (h2.got S h0 hc r hfm) hen
    ·rw[hte,lJr,lJs] at z
     rw[<-lJn]
     rcases z with z | rfl
     ·exact lKe _ (i5 e' z)
     ·exact lJy _ (by simp)
  ·intro τ G' h_;apply xe3 h_;clear h_;intro v4 v5 X h_;apply ae5 h_;clear h_;intro i1 i3 i4 iB i5
   wp_walk using 1,tSeq
   rw[lJf,lQo] at iB i5
   refine⟨k+1,_,_,F++X,rfl,i1,i3,i4,?_,rfl,fun q hq e he=> ?_⟩
   ·rw[hB,show W.length-k=W.length-(k+1)+1 by omega,qJ3 hF,jYs hW,iB]
   ·rw[lK3,lK9 hat,hF,lQ0 (by omega)] at hq
    rcases (lJr.mp hq) with hq | hq
    ·exact lKe _ (hcl q hq e he)
    ·have:q=r:=by simpa using hq
     subst this
     rw[jYs hW] at he;exact i5 e he
 ·rename_i hc
  have hkF:F.length<=k:=by rw[jJo,lJf] at hc;omega
  have hb:bfs W r0=F:=by rw[hB,qJ4 hkF]
  rw[lQd hkF] at hcl
  refine tf3_ok fine h2.nd h2.lt hcl h1 fun G' s'=> ?_
  have:=kk G' (h3.trans s')
  unfold kJl at this
  rw[hb] at this
  exact this
abbrev DD:=List ((Nat×Nat)×(Nat×Nat))
def getE (e:Nat×Nat) (D:DD):Option (Nat×Nat):=(D.find? fun p=>decide (p.1=e)).map (·.2)
def putE (D:DD) (k v:Nat×Nat):DD:=if (D.any fun p=>decide (p.1=k))=true then D.map (fun p=>if p.1=k then (p.1,v) else p) else D++[(k,v)]
def webD (r d:Nat) (D:DD):Web:=(List.range r).map fun k=>(List.range d).map fun i=>(getE (k,i) D).getD (0,0)
noncomputable def prs:Nat->List (Nat×Nat)->List DD
 | _,[]=>[[]]
 | 0,_::_=>[]
 | n+1,f::rest=>(prs n rest).map ((f,f):: ·)++(List.range rest.length).flatMap fun k=>(prs n (rest.take k++rest.drop (k+1))).map ((f,rest.getD k (0,0)):: ·)
def allE (r d:Nat):List (Nat×Nat):=(List.range r).flatMap fun k=>(List.range d).map fun i=>(k,i)
def jKs (p:DD):DD:=(p++p.map fun x=>(x.2,x.1)).foldl (fun D x=>putE D x.1 x.2) []
def evL (r d:Nat):List Web:=((prs 9 (allE r d)).map fun p=>webD r d (jKs p)).filter fun W=>decide (kJl W 0=W)
def keyR (es:List (Nat×Nat)):List L2.K1:=es.map fun p=> .inr [.inl (p.1:Int),.inl (p.2:Int)]
def keyW (V:Web):L2.TKey:=V.map fun es=> .inr (keyR es)
def okL (l:List DD):Bool:=decide (l.length<=5000)&&l.all fun D=>decide (D.length<=20)&&D.all fun p=>decide (p.1.1<12)&&decide (p.1.2<12)
noncomputable def szF (most doors:Nat):List (Nat×Nat):=(List.range 8).flatMap fun w=>(((List.range (7-doors)).map (· +doors)).filter fun m=>decide ((w+1)*m<=most)&&(decide (m>0)||decide (w+1<4))).map fun m=>(w+1,m)
section
variable {S:Type} [DecidableEq S] {st:S->Nat->S} {d:Nat}
def kids (st:S->Nat->S) (d:Nat) (p:List Nat×S):List (List Nat×S):=(List.range d).map fun i=>(p.1++[i],st p.2 i)
def addK (a:List S×List (List Nat×S)) (c:List Nat×S):List S×List (List Nat×S):=if c.2∈a.1 then a else (a.1++[c.2],a.2++[c])
def jQc (st:S->Nat->S) (d:Nat) (s0:S):Nat->List (List Nat×S)
 | 0=>[([],s0)]
 | k+1=>(jQc st d s0 k).flatMap (kids st d)
def lvl (st:S->Nat->S) (d:Nat) (s0:S):Nat->List S×List (List Nat×S)
 | 0=>([s0],[([],s0)])
 | k+1=>((lvl st d s0 k).2.flatMap (kids st d)).foldl addK ((lvl st d s0 k).1,[])
theorem jZm {p:S->Bool}:∀(c:List (List Nat×S)) (K:List S) (out:List (List Nat×S)),(∀s,s∈K->p s=false\/s∈out.map (·.2))->(c.foldl addK (K,out)).2.find? (fun x=>p x.2)=(out++c).find? fun x=>p x.2
 | [],K,out,_=>by rw[List.foldl_nil,lKz]
 | x::c,K,out,h=>by
  rw[lQ4]
  by_cases hx:x.2∈K
  ·rw[show addK (K,out) x=(K,out) from lJc hx,jZm c K out h,lYd,lYd,lQc]
   rcases h _ hx with z | z
   ·rw[z]
   ·obtain⟨y,hy,e⟩:=lJj.mp z
    cases hp:p x.2 with
    | false=>rfl
    | true=>
     have:(out.find? fun x=>p x.2).isSome=true:=by rw[List.find?_isSome];exact⟨y,hy,by rw[e];exact hp⟩
     obtain⟨w,hw⟩:=lVe.mp this
     rw[hw];rfl
  ·rw[show addK (K,out) x=(K++[x.2],out++[x]) from lJb hx,jZm c _ _ fun s hs=> ?_,lJn];rfl
   rcases (lJr.mp hs) with z | z
   ·exact (h s z).imp id fun q=>by rw[lKr];exact lKe _ q
   ·rw[lJs.mp z,lKr];exact .inr (lJy _ (lJs.mpr rfl))
theorem jU7:∀(c:List (List Nat×S)) (K:List S) (out:List (List Nat×S)),(∀s,s∈K->s∈(c.foldl addK (K,out)).1)/\(∀x,x∈c->x.2∈(c.foldl addK (K,out)).1)/\(∀s,s∈(c.foldl addK (K,out)).1->s∈K\/s∈(c.foldl addK (K,out)).2.map (·.2))/\(∀x,x∈out->x∈(c.foldl addK (K,out)).2)/\(∀x,x∈(c.foldl addK (K,out)).2->x∈out\/x∈c)
 | [],K,out=>⟨fun _ h=>h,(fun _ h=>nomatch h),fun _ h=> .inl h,fun _ h=>h,fun _ h=> .inl h⟩
 | x::c,K,out=>by
  rw[lQ4]
  by_cases hx:x.2∈K
  ·rw[show addK (K,out) x=(K,out) from lJc hx]
   obtain⟨a1,a2,a3,a4,a5⟩:=jU7 c K out
   exact⟨a1,fun y hy=>(lJk.mp hy).elim (fun e=>by rw[e];exact a1 _ hx) (a2 y),a3,a4,fun y hy=>(a5 y hy).imp id (lJ2 _)⟩
  ·rw[show addK (K,out) x=(K++[x.2],out++[x]) from lJb hx]
   obtain⟨a1,a2,a3,a4,a5⟩:=jU7 c (K++[x.2]) (out++[x])
   refine⟨fun s h=>a1 s (lKe _ h),fun y hy=>(lJk.mp hy).elim (fun e=>by rw[e];exact a1 _ (lJy _ (lJs.mpr rfl))) (a2 y),fun s h=> ?_,fun y hy=>a4 y (lKe _ hy),fun y hy=> ?_⟩
   ·rcases a3 s h with z | z
    ·rcases (lJr.mp z) with z | z
     ·exact .inl z
     ·exact .inr (lJj.mpr ⟨x,a4 x (lJy _ (lJs.mpr rfl)),(lJs.mp z).symm⟩)
    ·exact .inr z
   ·rcases a5 y hy with z | z
    ·exact (lJr.mp z).imp id fun q=>by rw[lJs.mp q];exact lJ1 ..
    ·exact .inr (lJ2 _ z)
theorem jU8:∀(c:List (List Nat×S)) (K:List S) (out:List (List Nat×S)),(c.foldl addK (K,out)).1.length<=K.length+c.length/\(c.foldl addK (K,out)).2.length<=out.length+c.length
 | [],K,out=>⟨lJg _,lJg _⟩
 | x::c,K,out=>by
  rw[lQ4]
  by_cases hx:x.2∈K
  ·rw[show addK (K,out) x=(K,out) from lJc hx]
   have:=jU8 c K out
   (simp only[lJ9];omega)
  ·rw[show addK (K,out) x=(K++[x.2],out++[x]) from lJb hx]
   have:=jU8 c (K++[x.2]) (out++[x])
   simp only[lKb,lJ9,lQa] at this ⊢; omega
theorem jZf {p:S->Bool}:∀l:List (List Nat×S),(l.flatMap (kids st d)).find? (fun x=>p x.2)=(l.find? fun x=>(List.range d).any fun i=>p (st x.2 i)).bind fun u=>(kids st d u).find? fun x=>p x.2
 | []=>rfl
 | u::l=>by
  rw[lYy,lYd,lQc]
  have key:((kids st d u).find? fun x=>p x.2).isSome=((List.range d).any fun i=>p (st u.2 i)):=by
   rw[Bool.eq_iff_iff,List.find?_isSome,lQ7]
   constructor
   ·rintro⟨x,hx,hp⟩
    obtain⟨i,hi,rfl⟩:=lJj.mp hx
    exact⟨i,hi,hp⟩
   ·rintro⟨i,hi,hp⟩
    exact⟨_,lJj.mpr ⟨i,hi,rfl⟩,hp⟩
  cases hq:(List.range d).any fun i=>p (st u.2 i) with
  | true=>
   rw[hq] at key
   obtain⟨w,hw⟩:=lVe.mp key
   simp only[Option.bind_some]
   rw[hw];rfl
  | false=>
   rw[hq] at key
   rw[Option.isSome_eq_false_iff,Option.isNone_iff_eq_none] at key
   rw[key,Option.none_or]
   exact jZf l
theorem qU5 (s0:S):∀k s,s∈(lvl st d s0 k).1->s∈(lvl st d s0 k).2.map (·.2)\/∀i,i<d->st s i∈(lvl st d s0 k).1
 | 0,s,h=> .inl h
 | k+1,s,h=>by
  obtain⟨a1,a2,a3,_,_⟩:=jU7 ((lvl st d s0 k).2.flatMap (kids st d)) (lvl st d s0 k).1 []
  rcases a3 s h with z | z
  ·right
   intro i hi
   rcases qU5 s0 k s z with q | q
   ·obtain⟨u,hu,rfl⟩:=lJj.mp q
    exact a2 (u.1++[i],st u.2 i) (lQ9.mpr ⟨u,hu,lJj.mpr ⟨i,lJt.mpr hi,rfl⟩⟩)
   ·exact a1 _ (q i hi)
  ·exact .inl z
theorem kVf (s0:S):∀k (p:S->Bool),(∀j s,j<k->s∈(lvl st d s0 j).1->p s=false)->(lvl st d s0 k).2.find? (fun x=>p x.2)=(jQc st d s0 k).find? fun x=>p x.2
 | 0,p,_=>rfl
 | k+1,p,h=>by
  show (((lvl st d s0 k).2.flatMap (kids st d)).foldl addK ((lvl st d s0 k).1,[])).2.find? _=_
  rw[jZm _ _ _ fun s hs=> .inl (h k s (Nat.lt_succ_self k) hs),lXd]
  show _=((jQc st d s0 k).flatMap (kids st d)).find? _
  rw[jZf,jZf]
  rw[kVf s0 k (fun s=>(List.range d).any fun i=>p (st s i)) fun j s hj hs=> ?_]
  rw[List.any_eq_false]
  intro i hi
  rw[Bool.not_eq_true]
  have hi:=lJt.mp hi
  rcases qU5 s0 j s hs with q | q
  ·obtain⟨u,hu,rfl⟩:=lJj.mp q
   refine h (j+1) _ (by omega) ?_
   exact (jU7 ((lvl st d s0 j).2.flatMap (kids st d)) (lvl st d s0 j).1 []).2.1 (u.1++[i],st u.2 i) (lQ9.mpr ⟨u,hu,lJj.mpr ⟨i,lJt.mpr hi,rfl⟩⟩)
  ·exact h j _ (by omega) (q i hi)
theorem jQv:∀l:List (List Nat×S),(l.flatMap (kids st d)).length=l.length*d
 | []=>by simp
 | a::l=>by
  rw[lYy,lKb,jQv l,lJ9,lVx]
  simp[kids];omega
theorem kVv (s0:S):∀k,(jQc st d s0 k).length=d^k
 | 0=>by simp[jQc]
 | k+1=>by
  unfold jQc
  rw[jQv,kVv s0 k,lVz]
theorem kKz (s0:S):∀k s,s∈(lvl st d s0 k).1->∃j x,j<=k/\x∈(lvl st d s0 j).2/\x.2=s
 | 0,s,h=>⟨0,([],s0),lJg _,lJs.mpr rfl,(lJs.mp h).symm⟩
 | k+1,s,h=>by
  rcases (jU7 ((lvl st d s0 k).2.flatMap (kids st d)) (lvl st d s0 k).1 []).2.2.1 s h with z | z
  ·obtain⟨j,x,h1,h2,h3⟩:=kKz s0 k s z
   exact⟨j,x,by omega,h2,h3⟩
  ·obtain⟨x,hx,e⟩:=lJj.mp z
   exact⟨k+1,x,lJg _,hx,e⟩
theorem kUe (s0:S):∀k,(lvl st d s0 k).2.length<=d^k
 | 0=>lJg _
 | k+1=>by
  have h:=(jU8 ((lvl st d s0 k).2.flatMap (kids st d)) (lvl st d s0 k).1 []).2
  rw[jQv] at h
  simp only[lQa,lVh] at h
  refine lKd h ?_
  rw[lVz]
  exact Nat.mul_le_mul_right _ (kUe s0 k)
theorem kZk (s0:S) {p:S->Bool} {k:Nat} (h:∀j,j<k->(jQc st d s0 j).find? (fun x=>p x.2)=none):∀j,j<=k->(lvl st d s0 j).2.find? (fun x=>p x.2)=(jQc st d s0 j).find? fun x=>p x.2:=by
 intro j
 induction j using Nat.strongRecOn with
 | ind j ih=>
  intro hj
  refine kVf s0 j p fun i s hi hs=> ?_
  obtain⟨i',x,h1,h2,rfl⟩:=kKz s0 i s hs
  have:=ih i' (by omega) (by omega)
  rw[h i' (by omega),lVl] at this
  exact Bool.not_eq_true _▸this x h2
end
theorem kQy {α:Type} {P:List α->Prop} (h0:P []) (h1:∀ds d,P ds->P (ds++[d])) (ds:List α):P ds:=by
 have:∀l:List α,P l.reverse:=by
  intro l
  induction l with
  | nil=>exact h0
  | cons a as ih=>rw[List.reverse_cons];exact h1 _ _ ih
 have h:=this ds.reverse
 rwa [List.reverse_reverse] at h
theorem jXt {W:Web} {r:Nat} (hr:r<W.length):∃es,W[r]? =some es/\∀d,en W r d=es[d]? :=⟨W[r],lJp hr,fun d=>by unfold en;rw[lJp hr];rfl⟩
abbrev WS:=List (Nat×List Nat)
def nxt (W:Web) (a i:Nat):Nat:=((en W a i).map Prod.fst).getD 0
def wout (l:List Nat) (a:Nat):List Nat:=l.filter fun x=>decide (x≠a)
def begW (n:Nat):WS:=(List.range n).map fun a=>(a,wout (List.range n) a)
def stpW (W:Web) (s:WS) (i:Nat):WS:=s.map fun p=>(nxt W p.1 i,wout p.2 (nxt W p.1 i))
def okW (s:WS):Bool:=s.all fun p=>p.2.isEmpty
def jZ4 (W:Web) (d:Nat):Nat->List WS->Bool
 | 0,l=>l.any okW
 | k+1,l=>l.any okW||jZ4 W d k (l.flatMap fun s=>(List.range d).map (stpW W s))
def nx (d c a i:Nat):Nat:=c / 16^(d*a+i)%16
def codeW (n d:Nat) (V:Web):Nat:=(List.range n).foldl (fun z a=>(List.range d).foldl (fun z i=>z+nxt V a i*16^(d*a+i)) z) 0
def stpC (d c:Nat) (s:WS) (i:Nat):WS:=s.map fun p=>(nx d c p.1 i,wout p.2 (nx d c p.1 i))
def kU4 (d c:Nat):Nat->List WS->Bool
 | 0,l=>l.any okW
 | k+1,l=>l.any okW||kU4 d c k (l.flatMap fun s=>(List.range d).map (stpC d c s))
def agC (n d c:Nat) (V:Web):Bool:=(List.range n).all fun a=>(List.range d).all fun i=>decide (nxt V a i=nx d c a i)
def qU9 (n:Nat) (f:Nat->Bool):Bool:=match n with
 | 0=>f 0
 | c+1=>f (c+1)
theorem qQ1 {n:Nat} {f:Nat->Bool}:qU9 n f=f n:=by cases n<;>rfl
def chkR (n d:Nat) (V:Web):Bool:=qU9 (codeW n d V) fun c=>agC n d c V&&kU4 d c 8 [begW n]
def fP (r d:Nat) (p:DD):Bool:= !decide (kJl (webD r d (jKs p)) 0=webD r d (jKs p))||chkR r d (webD r d (jKs p))
def chkG (r d:Nat):Bool:=(prs 9 (allE r d)).all (fP r d)
def posN (W:Web) (a:Nat) (ds:List Nat):Nat:=ds.foldl (nxt W) a
def visB (W:Web) (a:Nat) (ds:List Nat) (b:Nat):Bool:=(List.range (ds.length+1)).any fun j=>posN W a (ds.take j) == b
theorem jQ4 {W:Web} {a i:Nat} {ds:List Nat}:posN W a (ds++[i])=nxt W (posN W a ds) i:=by unfold posN;rw[lQ8];rfl
theorem qKm {W:Web} {a b:Nat}:visB W a [] b=(a == b):=by simp[visB,posN]
theorem kX4 {W:Web} {a i b:Nat} {ds:List Nat}:visB W a (ds++[i]) b=(visB W a ds b||posN W a (ds++[i]) == b):=by
 unfold visB
 rw[lKb,List.length_singleton,lXl,List.any_append]
 congr 1
 ·rw[Bool.eq_iff_iff,lQ7,lQ7]
  constructor
  ·rintro⟨j,hj,h⟩;rw[lQ0 (by have:=lJt.mp hj;omega)] at h;exact⟨j,hj,h⟩
  ·rintro⟨j,hj,h⟩;exact⟨j,hj,by rw[lQ0 (by have:=lJt.mp hj;omega)];exact h⟩
 ·simp only[lKv,List.any_nil,Bool.or_false]
  (rw[lQd (by simp)])
theorem run_is {W:Web} {n:Nat} (ds:List Nat):ds.foldl (stpW W) (begW n)=(List.range n).map fun a=>(posN W a ds,(List.range n).filter fun b=> !visB W a ds b):=by
 refine kQy (P:=fun ds=>ds.foldl (stpW W) (begW n)=(List.range n).map fun a=>(posN W a ds,(List.range n).filter fun b=> !visB W a ds b)) ?_ ?_ ds
 ·rw[List.foldl_nil]
  unfold begW wout
  refine lVq fun a _=> ?_
  refine lKo (Prod.mk a) (List.filter_congr fun b _=> ?_)
  rw[qKm]
  by_cases h:b=a
  ·subst h;simp
  ·have h':¬ a=b:=fun e=>h e.symm
   simp[h,h']
 ·intro ds i ih
  rw[lQ8,ih]
  show stpW W _ i=_
  unfold stpW
  rw[lJ4]
  refine lVq fun a _=> ?_
  show (nxt W (posN W a ds) i,wout _ _)=_
  rw[jQ4]
  refine lKo (Prod.mk _) ?_
  unfold wout
  rw[List.filter_filter]
  refine List.filter_congr fun b _=> ?_
  rw[kX4,jQ4,Bool.not_or]
  by_cases h:b=nxt W (posN W a ds) i
  ·subst h;simp
  ·have h':¬ nxt W (posN W a ds) i=b:=fun e=>h e.symm
   simp[h,h']
def Sees (W:Web) (ds:List Nat):Prop:=∀a b,a<W.length->b<W.length->visB W a ds b=true
theorem ok_sees {W:Web} {ds:List Nat}:okW (ds.foldl (stpW W) (begW W.length))=true↔Sees W ds:=by
 rw[run_is]
 unfold okW Sees
 rw[List.all_map,lKk]
 constructor
 ·intro h a b ha hb
  have h1:=h a (lJt.mpr ha)
  simp only[Function.comp_apply,List.isEmpty_iff,List.filter_eq_nil_iff] at h1
  have:=h1 b (lJt.mpr hb)
  simpa using this
 ·intro h a ha
  simp only[Function.comp_apply,List.isEmpty_iff,List.filter_eq_nil_iff]
  intro b hb
  rw[h a b (lJt.mp ha) (lJt.mp hb)]
  simp
theorem jU3 {S:Type} {st:S->Nat->S} {d:Nat} {s0:S}:∀(k:Nat) (x:List Nat×S),x∈jQc st d s0 k↔(x.1.length=k/\(∀i,i∈x.1->i<d)/\x.2=x.1.foldl st s0)
 | 0,x=>by
  unfold jQc
  rw[lJs]
  constructor
  ·rintro rfl;exact⟨rfl,(fun i h=>nomatch h),rfl⟩
  ·rintro⟨h1,_,h2⟩
   obtain⟨w,s⟩:=x
   obtain rfl:=lQx.mp h1
   rw[show s=s0 from h2]
 | k+1,x=>by
  unfold jQc
  rw[lQ9]
  constructor
  ·rintro⟨u,hu,hx⟩
   obtain⟨i,hi,rfl⟩:=lJj.mp hx
   obtain⟨h1,h2,h3⟩:=(jU3 k u).mp hu
   refine⟨by simp[h1],fun j hj=> ?_,by rw[lQ8,<-h3];rfl⟩
   rcases (lJr.mp hj) with z | z
   ·exact h2 j z
   ·rw[lJs.mp z];exact lJt.mp hi
  ·rintro⟨h1,h2,h3⟩
   obtain⟨w,s⟩:=x
   rcases w.eq_nil_or_concat with rfl | ⟨l,a,e⟩
   ·cases h1
   ·rw[List.concat_eq_append] at e
    subst e
    refine⟨(l,l.foldl st s0),(jU3 k _).mpr ⟨by simpa using h1,fun i hi=>h2 i (lKe _ hi),rfl⟩,lJj.mpr ⟨a,lJt.mpr (h2 a (lJy _ (lJs.mpr rfl))),?_⟩⟩
    rw[show s=(l++[a]).foldl st s0 from h3,lQ8];rfl
theorem kU3 {W:Web} {d:Nat}:∀(k j:Nat) (s0:WS),jZ4 W d k ((jQc (stpW W) d s0 j).map (·.2))=true->∃i x,i<=k/\x∈jQc (stpW W) d s0 (j+i)/\okW x.2=true
 | 0,j,s0,h=>by
  unfold jZ4 at h
  obtain⟨s,hs,ho⟩:=lQ7.mp h
  obtain⟨x,hx,rfl⟩:=lJj.mp hs
  exact⟨0,x,lJg _,hx,ho⟩
 | k+1,j,s0,h=>by
  unfold jZ4 at h
  (rcases Bool.or_eq_true_iff.mp h with h | h)
  ·obtain⟨s,hs,ho⟩:=lQ7.mp h
   obtain⟨x,hx,rfl⟩:=lJj.mp hs
   exact⟨0,x,lJ6 _,hx,ho⟩
  ·have e:(((jQc (stpW W) d s0 j).map (·.2)).flatMap fun s=>(List.range d).map (stpW W s))=(jQc (stpW W) d s0 (j+1)).map (·.2):=by
    show _=((jQc (stpW W) d s0 j).flatMap (kids (stpW W) d)).map (·.2)
    rw[List.map_flatMap,List.flatMap_map]
    refine lKo List.flatten (lVq fun u _=> ?_)
    unfold kids
    rw[lJ4];rfl
   rw[e] at h
   obtain⟨i,x,h1,h2,h3⟩:=kU3 k (j+1) s0 h
   exact⟨i+1,x,by omega,by rw[show j+(i+1)=j+1+i by omega];exact h2,h3⟩
theorem jZ3 {W:Web} {n d c:Nat} (h:∀a i,a<n->i<d->nxt W a i=nx d c a i/\nxt W a i<n):∀(k:Nat) (l:List WS),(∀s,s∈l->∀p,p∈s->p.1<n)->kU4 d c k l=true->jZ4 W d k l=true
 | 0,l,_,z=>z
 | k+1,l,hl,z=>by
  unfold kU4 at z
  unfold jZ4
  rcases Bool.or_eq_true_iff.mp z with z | z
  ·rw[z,Bool.true_or]
  ·have e:(l.flatMap fun s=>(List.range d).map (stpC d c s))=l.flatMap fun s=>(List.range d).map (stpW W s):=by
    refine lKo List.flatten (lVq fun s hs=>lVq fun i hi=> ?_)
    unfold stpC stpW
    refine lVq fun p hp=> ?_
    rw[(h p.1 i (hl s hs p hp) (lJt.mp hi)).1]
   rw[e] at z
   rw[jZ3 h k _ (fun s hs p hp=> ?_) z,Bool.or_true]
   obtain⟨u,hu,hs⟩:=lQ9.mp hs
   obtain⟨i,hi,rfl⟩:=lJj.mp hs
   obtain⟨q,hq,rfl⟩:=lJj.mp hp
   exact (h q.1 i (hl u hu q hq) (lJt.mp hi)).2
theorem kJh {α:Type} {f:α->Bool} {b:Nat}:∀(n:Nat) (l:List α),l.length<=n*b->(∀i,i<n->((l.drop (i*b)).take b).all f=true)->l.all f=true
 | 0,l,h,_=>by
  rw[Nat.zero_mul] at h
  rw[lQx.mp (Nat.le_zero.mp h)];rfl
 | n+1,l,h,k=>by
  have e:=lKx b l
  rw[<-e,List.all_append]
  have h0:=k 0 (lVy n)
  rw[Nat.zero_mul,lXq] at h0
  rw[h0,Bool.true_and]
  refine kJh (b:=b) n (l.drop b) (by rw[lVw];have:=lVx n b;omega) fun i hi=> ?_
  have:=k (i+1) (by omega)
  rw[List.drop_drop]
  rwa [lVx,Nat.add_comm] at this
theorem jUx {q:(Nat×Nat)×(Nat×Nat)} {D:DD} {e:Nat×Nat}:getE e (q::D)=if q.1=e then some q.2 else getE e D:=by
 unfold getE
 rw[lQc]
 by_cases h:q.1=e
 ·rw[lJ5 h,lJc h];rfl
 ·rw[lJw h,lJb h]
theorem kVs {k v e:Nat×Nat}:∀D:DD,getE e (D.map fun p=>if p.1=k then (p.1,v) else p)=if k=e/\(D.any fun p=>decide (p.1=k))=true then some v else getE e D
 | []=>by simp[getE]
 | q::D=>by
  rw[lJo,jUx,kVs D,jUx,lKv]
  by_cases h1:q.1=k
  ·rw[lJc h1,lJ5 h1,Bool.true_or]
   by_cases h2:k=e
   ·rw[lJc (h1.trans h2),lJc ⟨h2,rfl⟩]
   ·rw[lJb (fun z=>h2 (h1.symm.trans z)),lJb (fun z=>h2 z.1),lJb (fun z=>h2 z.1),lJb (fun z=>h2 (h1.symm.trans z))]
  ·rw[lJb h1,lJw h1,Bool.false_or]
   by_cases h2:q.1=e
   ·have h3:¬ k=e:=fun z=>h1 (h2.trans z.symm)
    rw[lJc h2,lJb (fun z=>h3 z.1),lJc h2]
   ·rw[lJb h2,lJb h2]
theorem kK8 {k v e:Nat×Nat}:∀D:DD,(D.any fun p=>decide (p.1=k))=false->getE e (D++[(k,v)])=if k=e then some v else getE e D
 | [],_=>by rw[lXd,jUx]
 | q::D,h=>by
  rw[lKv,Bool.or_eq_false_iff] at h
  have h1:¬ q.1=k:=of_decide_eq_false h.1
  rw[List.cons_append,jUx,kK8 D h.2,jUx]
  by_cases h2:q.1=e
  ·rw[lJc h2,lJc h2,lJb (fun z=>h1 (h2.trans z.symm))]
  ·rw[lJb h2,lJb h2]
theorem kVr {D:DD} {k v e:Nat×Nat}:getE e (putE D k v)=if k=e then some v else getE e D:=by
 unfold putE
 by_cases ha:(D.any fun p=>decide (p.1=k))=true
 ·rw[lJc ha,kVs]
  by_cases h:k=e
  ·rw[lJc ⟨h,ha⟩,lJc h]
  ·rw[lJb (fun z=>h z.1),lJb h]
 ·rw[lJb ha,kK8 D (Bool.eq_false_iff.mpr ha)]
theorem kVi {e v:Nat×Nat}:∀(L D:DD),(∀x,x∈L->x.1=e->x.2=v)->((∃x,x∈L/\x.1=e)\/getE e D=some v)->getE e (L.foldl (fun D x=>putE D x.1 x.2) D)=some v
 | [],D,_,h=>by
  rcases h with ⟨x,hx,_⟩ | h
  ·cases hx
  ·exact h
 | x::L,D,hv,h=>by
  rw[lQ4]
  refine kVi L _ (fun y hy=>hv y (lJ2 _ hy)) ?_
  by_cases hx:x.1=e
  ·right;rw[kVr,lJc hx,hv x (lJ1 ..) hx]
  ·rcases h with ⟨y,hy,he⟩ | h
   ·rcases (lJk.mp hy) with rfl | hy
    ·exact absurd he hx
    ·exact .inl ⟨y,hy,he⟩
   ·right;rw[kVr,lJb hx];exact h
structure PR (es:List (Nat×Nat)) (p:DD):Prop where
 has:∀e,e∈es->∃x,x∈p/\(x.1=e\/x.2=e)
 in_:∀x,x∈p->x.1∈es/\x.2∈es
 one:∀x y,x∈p->y∈p->(x.1=y.1\/x.1=y.2\/x.2=y.1\/x.2=y.2)->x=y
 len:p.length<=es.length
theorem kU8:∀(n:Nat) (es:List (Nat×Nat)),es.Nodup->∀p,p∈prs n es->PR es p
 | n,[],_,p,h=>by
  have e:p=[]:=by cases n<;>(unfold prs at h;exact lJs.mp h)
  subst e
  exact⟨(fun _ z=>nomatch z),(fun _ z=>nomatch z),(fun _ _ z=>nomatch z),lJg _⟩
 | 0,_::_,_,p,h=>by unfold prs at h;cases h
 | n+1,f::rest,nd,p,h=>by
  unfold prs at h
  rw[lKu] at nd
  rcases (lJr.mp h) with h | h
  ·obtain⟨q,hq,rfl⟩:=lJj.mp h
   have P:=kU8 n rest nd.2 q hq
   have nf:∀y,y∈q->y.1≠f/\y.2≠f:=fun y hy=>⟨fun e=>nd.1 (e▸(P.in_ y hy).1),fun e=>nd.1 (e▸(P.in_ y hy).2)⟩
   refine⟨fun e he=> ?_,fun x hx=> ?_,fun x y hx hy hxy=> ?_,lX2 P.len⟩
   ·rcases (lJk.mp he) with rfl | he
    ·exact⟨_,lJ1 ..,.inl rfl⟩
    ·obtain⟨x,hx,z⟩:=P.has e he;exact⟨x,lJ2 _ hx,z⟩
   ·rcases (lJk.mp hx) with rfl | hx
    ·exact⟨lJ1 ..,lJ1 ..⟩
    ·exact⟨lJ2 _ (P.in_ x hx).1,lJ2 _ (P.in_ x hx).2⟩
   ·rcases (lJk.mp hx) with rfl | hx<;>rcases lJk.mp hy with rfl | hy
    ·rfl
    ·exfalso;have:=nf y hy;rcases hxy with z | z | z | z<;>first | exact this.1 z.symm | exact this.2 z.symm
    ·exfalso;have:=nf x hx;rcases hxy with z | z | z | z<;>first | exact this.1 z | exact this.2 z
    ·exact P.one x y hx hy hxy
  ·obtain⟨k,hk,h⟩:=lQ9.mp h
   obtain⟨q,hq,rfl⟩:=lJj.mp h
   have hkl:=lJt.mp hk
   obtain⟨g,hg⟩:∃g,rest[k]? =some g:=⟨_,lJp hkl⟩
   have eg:rest.getD k (0,0)=g:=by rw[lXr,hg];rfl
   rw[eg]
   have sp:rest=rest.take k++g::rest.drop (k+1):=by
    have e1:rest[k]=g:=by rw[lJp hkl] at hg;exact lJ0 hg
    rw[<-e1,<-lVm hkl,lKx]
   have nd2:(rest.take k++g::rest.drop (k+1)).Nodup:=sp▸nd.2
   have pm:(rest.take k++g::rest.drop (k+1)).Perm (g::(rest.take k++rest.drop (k+1))):=List.perm_middle
   have nd3:=lKu.mp (pm.nodup_iff.mp nd2)
   have P:=kU8 n _ nd3.2 q hq
   have mem:∀e,e∈rest↔e=g\/e∈rest.take k++rest.drop (k+1):=fun e=>by
    have z:=pm.mem_iff (a:=e)
    rw[<-sp,lJk] at z
    exact z
   have hgm:g∈rest:=lJx hg
   have fg:f≠g:=fun e=>nd.1 (e▸hgm)
   have nf:∀y,y∈q->y.1≠f/\y.2≠f/\y.1≠g/\y.2≠g:=fun y hy=>⟨fun e=>nd.1 (e▸(mem _).mpr (.inr (P.in_ y hy).1)),fun e=>nd.1 (e▸(mem _).mpr (.inr (P.in_ y hy).2)),fun e=>nd3.1 (e▸(P.in_ y hy).1),fun e=>nd3.1 (e▸(P.in_ y hy).2)⟩
   refine⟨fun e he=> ?_,fun x hx=> ?_,fun x y hx hy hxy=> ?_,?_⟩
   ·rcases (lJk.mp he) with rfl | he
    ·exact⟨_,lJ1 ..,.inl rfl⟩
    ·rcases (mem e).mp he with rfl | he
     ·exact⟨_,lJ1 ..,.inr rfl⟩
     ·obtain⟨x,hx,z⟩:=P.has e he;exact⟨x,lJ2 _ hx,z⟩
   ·rcases (lJk.mp hx) with rfl | hx
    ·exact⟨lJ1 ..,lJ2 _ hgm⟩
    ·exact⟨lJ2 _ ((mem _).mpr (.inr (P.in_ x hx).1)),lJ2 _ ((mem _).mpr (.inr (P.in_ x hx).2))⟩
   ·rcases (lJk.mp hx) with rfl | hx<;>rcases lJk.mp hy with rfl | hy
    ·rfl
    ·exfalso
     obtain⟨a,b,c,e⟩:=nf y hy
     rcases hxy with z | z | z | z<;>first | exact a z.symm | exact b z.symm | exact c z.symm | exact e z.symm
    ·exfalso
     obtain⟨a,b,c,e⟩:=nf x hx
     rcases hxy with z | z | z | z<;>first | exact a z | exact b z | exact c z | exact e z
    ·exact P.one x y hx hy hxy
   ·have h1:=P.len
    rw[lKb,lK1,lVw] at h1
    (simp only[lJ9];omega)
theorem kJ5 {es:List (Nat×Nat)} {p:DD} (P:PR es p) {a b:Nat×Nat} (h:(a,b)∈p\/(b,a)∈p):getE a (jKs p)=some b:=by
 refine kVi _ [] (fun x hx he=> ?_) (.inl ?_)
 ·rcases (lJr.mp hx) with hx | hx
  ·rcases h with h | h
   ·have:=P.one x _ hx h (.inl he);rw[this]
   ·have:=P.one x _ hx h (.inr (.inl he));rw[this] at he ⊢; exact he.symm▸rfl
  ·obtain⟨y,hy,rfl⟩:=lJj.mp hx
   rcases h with h | h
   ·have:=P.one y _ hy h (.inr (.inr (.inl he)));rw[this] at he ⊢; exact he.symm▸rfl
   ·have:=P.one y _ hy h (.inr (.inr (.inr he)));rw[this]
 ·rcases h with h | h
  ·exact⟨(a,b),lKe _ h,rfl⟩
  ·exact⟨(a,b),lJy _ (lJj.mpr ⟨(b,a),h,rfl⟩),rfl⟩
theorem kUi {es:List (Nat×Nat)} {p:DD} (P:PR es p) {a:Nat×Nat} (h:a∈es):∃b,b∈es/\getE a (jKs p)=some b/\getE b (jKs p)=some a:=by
 obtain⟨x,hx,z⟩:=P.has a h
 obtain⟨u,v⟩:=x
 rcases z with rfl | rfl
 ·exact⟨v,(P.in_ _ hx).2,kJ5 P (.inl hx),kJ5 P (.inr hx)⟩
 ·exact⟨u,(P.in_ _ hx).1,kJ5 P (.inr hx),kJ5 P (.inl hx)⟩
theorem jVq {r d:Nat} {D:DD}:(webD r d D).length=r:=by simp[webD]
theorem kJj {r d:Nat} {D:DD} {k:Nat} {es:List (Nat×Nat)} (h:(webD r d D)[k]? =some es):es.length=d:=by
 unfold webD at h
 rw[lJz] at h
 cases hk:(List.range r)[k]? with
 | none=>(rw[hk] at h;cases h)
 | some x=>rw[hk] at h;cases h;simp
structure Sz (W:Web):Prop where
 len:W.length<=1000
 row:∀(r:Nat) (es:List (Nat×Nat)),W[r]? =some es->es.length<=1000
theorem Sz.fine {W:Web} (h:Sz W) (s:Sym W):Fine W:=⟨h.len,h.row,fun _ _ _ _ he=>en_lt (s _ _ _ _ he)⟩
theorem kX3 {r d:Nat} {D:DD} (hr:r<=1000) (hd:d<=1000):Sz (webD r d D):=⟨by rw[jVq];exact hr,fun k es h=>by rw[kJj h];exact hd⟩
theorem kJ4 {r d k i:Nat} (hk:k<r) (hi:i<d):(k,i)∈allE r d:=lQ9.mpr ⟨k,lJt.mpr hk,lJj.mpr ⟨i,lJt.mpr hi,rfl⟩⟩
theorem kZc {r d:Nat} {e:Nat×Nat} (h:e∈allE r d):e.1<r/\e.2<d:=by
 obtain⟨k,hk,h⟩:=lQ9.mp h
 (obtain⟨i,hi,rfl⟩:=lJj.mp h)
 exact⟨lJt.mp hk,lJt.mp hi⟩
theorem qJ9 {r d:Nat}:(allE r d).Nodup:=by
 unfold allE
 rw[List.Nodup,List.pairwise_flatMap]
 refine⟨fun k _=> ?_,?_⟩
 ·rw[lXm]
  exact List.Pairwise.imp (fun h e=>h (lQp e).2) lXk
 ·refine List.Pairwise.imp (fun h x hx y hy e=> ?_) lXk
  obtain⟨i,_,rfl⟩:=lJj.mp hx
  obtain⟨j,_,rfl⟩:=lJj.mp hy
  exact h (lQp e).1
theorem kQs {r d k i:Nat} {D:DD} (hk:k<r) (hi:i<d):en (webD r d D) k i=some ((getE (k,i) D).getD (0,0)):=by
 unfold en webD
 rw[lJz,lVk hk,lQi,Option.bind_some,lJz,lVk hi];rfl
theorem qVj {r d k i:Nat} {D:DD} {e:Nat×Nat} (h:en (webD r d D) k i=some e):k<r/\i<d:=by
 obtain⟨es,h1,h2⟩:=kUn h
 have hl:=kJj h1
 have h3:=(lJq.mp h1).1
 rw[jVq] at h3
 exact⟨h3,by rw[<-hl];exact (lJq.mp h2).1⟩
theorem qUz {r d:Nat} {p:DD} (hl:(allE r d).length<=9) (hp:p∈prs 9 (allE r d)):p.length<=20/\(∀k i,k<r->i<d->(getE (k,i) (jKs p)).isSome=true)/\Sym (webD r d (jKs p)):=by
 have P:=kU8 9 _ qJ9 p hp
 refine⟨by have:=P.len;omega,fun k i hk hi=> ?_,fun k i s j h=> ?_⟩
 ·obtain⟨b,_,h,_⟩:=kUi P (kJ4 hk hi)
  rw[h];rfl
 ·obtain⟨hk,hi⟩:=qVj h
  obtain⟨b,hb,h1,h2⟩:=kUi P (kJ4 hk hi)
  rw[kQs hk hi,h1] at h
  obtain rfl:b=(s,j):=lJ0 h
  obtain⟨q1,q2⟩:=kZc hb
  rw[kQs q1 q2,h2];rfl
theorem qKa {r d:Nat} (h:r*d<=9):(allE r d).length<=9:=by
 unfold allE
 rw[List.length_flatMap,show ((List.range r).map fun k=>((List.range d).map fun i=>(k,i)).length)=List.replicate r d by
  rw[List.eq_replicate_iff]
  exact⟨by simp,fun b hb=>by obtain⟨k,_,rfl⟩:=lJj.mp hb;simp⟩]
 simp;exact h
structure EvW (d:Nat) (W:Web):Prop where
 fine:Fine W
 row:∀(r:Nat) (es:List (Nat×Nat)),W[r]? =some es->es.length=d
 pos:1<=W.length
 le:W.length<=9
 d6:d<=6
def qKd (d:Nat) (W:Web):Prop:=∃ds:List Nat,ds.length<=8/\(∀i,i∈ds->i<d)/\Sees W ds
structure Chk (r d:Nat):Prop where
 r1:1<=r
 r9:r<=9
 d6:d<=6
 rd:r*d<=9
 prs:∀p,p∈prs 9 (allE r d)->p.length<=20/\(∀k i,k<r->i<d->(getE (k,i) (jKs p)).isSome=true)/\Sym (webD r d (jKs p))
 good:∀V,V∈evL r d->EvW d V/\qKd d V/\V.length=r
theorem qVc {r d:Nat} (h1:1<=r) (h2:r<=9) (h3:d<=6) (h4:r*d<=9) (g:chkG r d=true):Chk r d:=by
 refine⟨h1,h2,h3,h4,fun p hp=>qUz (qKa h4) hp,fun V hV=> ?_⟩
 have ht:=(lVv.mp hV).2
 obtain⟨p,hp,rfl⟩:=lJj.mp (lVv.mp hV).1
 have hg:=lKk.mp g p hp
 unfold fP at hg
 rw[ht,Bool.not_true,Bool.false_or] at hg
 have hl:(webD r d (jKs p)).length=r:=jVq
 have ev:EvW d (webD r d (jKs p)):=⟨(kX3 (by omega) (by omega)).fine (qUz (qKa h4) hp).2.2,fun k es hk=>kJj hk,by rw[hl];exact h1,by rw[hl];exact h2,h3⟩
 refine⟨ev,?_,hl⟩
 unfold chkR at hg
 rw[qQ1,lK2] at hg
 obtain⟨a,c⟩:=hg
 unfold agC at a
 have ag:∀x i,x<r->i<d->nxt (webD r d (jKs p)) x i=nx d (codeW r d (webD r d (jKs p))) x i/\nxt (webD r d (jKs p)) x i<r:=fun x i hx hi=>by
  have q:=lKk.mp (lKk.mp a x (lJt.mpr hx)) i (lJt.mpr hi)
  refine⟨lYh q,?_⟩
  unfold nxt
  rw[kQs hx hi]
  obtain⟨b,hb,h5,_⟩:=kUi (kU8 9 _ qJ9 p hp) (kJ4 hx hi)
  rw[h5]
  exact (kZc hb).1
 have rb:=jZ3 ag 8 [begW r] (fun s hs p hp=>by
  rw[lJs.mp hs] at hp
  unfold begW at hp
  obtain⟨x,hx,rfl⟩:=lJj.mp hp
  exact lJt.mp hx) c
 obtain⟨i,x,q1,q2,q3⟩:=kU3 8 0 (begW r) rb
 obtain⟨z1,z2,z3⟩:=(jU3 _ x).mp q2
 rw[z3] at q3
 exact⟨x.1,by omega,z2,ok_sees.mp (by rw[hl];exact q3)⟩
structure LeastAt (d:Nat) (W:Web) (k:Nat) (ds:List Nat):Prop where
 k8:k<=8
 none:∀j,j<k->(jQc (stpW W) d (begW W.length) j).find? (fun x=>okW x.2)=none
 one:∃s,(jQc (stpW W) d (begW W.length) k).find? (fun x=>okW x.2)=some (ds,s)
theorem qQo {d:Nat} {W:Web} (h:qKd d W):∃k ds,LeastAt d W k ds:=by
 obtain⟨w,h1,h2,h3⟩:=h
 have hm:(jQc (stpW W) d (begW W.length) w.length).find? (fun x=>okW x.2)≠none:=by
  intro z
  rw[lVl] at z
  exact z (w,w.foldl (stpW W) (begW W.length)) ((jU3 _ _).mpr ⟨rfl,h2,rfl⟩) (ok_sees.mpr h3)
 have key:∀n,n<=8->(jQc (stpW W) d (begW W.length) n).find? (fun x=>okW x.2)≠none->∃k ds,LeastAt d W k ds:=by
  intro n
  induction n using Nat.strongRecOn with
  | ind n ih=>
   intro hn hne
   by_cases hz:∃j,j<n/\(jQc (stpW W) d (begW W.length) j).find? (fun x=>okW x.2)≠none
   ·obtain⟨j,hj,hz⟩:=hz
    exact ih j hj (by omega) hz
   ·obtain⟨x,hx⟩:=Option.ne_none_iff_exists'.mp hne
    exact⟨n,x.1,hn,fun j hj=>lVc fun z=>hz ⟨j,hj,z⟩,x.2,hx⟩
 exact key w.length h1 hm
def numW (V:Web) (p:List Nat):Web:=(List.range V.length).map fun k=>(row V (p.idxOf k)).map fun e=>(p.getD e.1 0,e.2)
structure Prm (n:Nat) (p:List Nat):Prop where
 len:p.length=n
 nd:p.Nodup
 lt:∀x,x∈p->x<n
theorem Prm.mem {n:Nat} {p:List Nat} (h:Prm n p) {k:Nat} (hk:k<n):k∈p:=kZg h.nd h.lt h.len k hk
theorem jV1 {V:Web} {p:List Nat}:(numW V p).length=V.length:=by simp[numW]
theorem qV8 {V:Web} {p:List Nat} (h:Prm V.length p) {a i:Nat} (ha:a<V.length):en (numW V p) (p.getD a 0) i=(en V a i).map fun e=>(p.getD e.1 0,e.2):=by
 have hp:p[a]? =some (p.getD a 0):=by rw[lXr,lJp (by rw[h.len];exact ha)];rfl
 have hlt:p.getD a 0<V.length:=h.lt _ (lJx hp)
 have hix:p.idxOf (p.getD a 0)=a:=by
  have hal:a<p.length:=by rw[h.len];exact ha
  have e:p.getD a 0=p[a]:=by rw[lXr,lJp hal];rfl
  rw[e];exact List.Nodup.idxOf_getElem h.nd a hal
 unfold en numW
 rw[lJz,lVk hlt,lQi,Option.bind_some,hix,lJz]
 obtain⟨es,he,_⟩:=jXt ha
 rw[jYs he,he];rfl
theorem qV7 {d:Nat} {V:Web} {p:List Nat} (h:Prm V.length p) (e:EvW d V):EvW d (numW V p):=by
 have rl:∀(r:Nat) (es:List (Nat×Nat)),(numW V p)[r]? =some es->∃(q:Nat) (fs:List (Nat×Nat)),V[q]? =some fs/\es=fs.map fun e=>(p.getD e.1 0,e.2):=fun r es hr=>by
  unfold numW at hr
  rw[lJz] at hr
  cases hk:(List.range V.length)[r]? with
  | none=>rw[hk] at hr;cases hr
  | some x=>
   rw[hk] at hr
   obtain⟨q1,q2⟩:=lJq.mp hk
   rw[lYx] at q2
   rw[lKi] at q1
   subst q2
   have hi:p.idxOf r<V.length:=by rw[<-h.len];exact List.idxOf_lt_length_of_mem (h.mem q1)
   obtain⟨fs,hf,_⟩:=jXt hi
   cases hr
   exact⟨_,fs,hf,by dsimp only;rw[jYs hf]⟩
 refine⟨⟨by rw[jV1];have:=e.le;omega,fun r es hr=> ?_,fun r i s j he=> ?_⟩,fun r es hr=> ?_,by rw[jV1];exact e.pos,by rw[jV1];exact e.le,e.d6⟩
 ·obtain⟨q,fs,h1,rfl⟩:=rl r es hr
  rw[lJf,e.row q fs h1];have:=e.d6;omega
 ·obtain⟨es,h1,h2⟩:=kUn he
  obtain⟨q,fs,h3,rfl⟩:=rl r es h1
  rw[lJz] at h2
  cases hk:fs[i]? with
  | none=>rw[hk] at h2;cases h2
  | some x=>
   rw[hk] at h2;cases h2
   have hx:x.1<V.length:=e.fine.rng q i x.1 x.2 (by rw[qX4 h3 hk])
   rw[jV1]
   have hp:p[x.1]? =some (p.getD x.1 0):=by rw[lXr,lJp (by rw[h.len];exact hx)];rfl
   exact h.lt _ (lJx hp)
 ·obtain⟨q,fs,h1,rfl⟩:=rl r es hr
  rw[lJf,e.row q fs h1]
theorem qJo {d:Nat} {W:Web} (e:EvW d W) {a i:Nat} (ha:a<W.length) (hi:i<d):∃x,en W a i=some x/\x.1<W.length/\nxt W a i=x.1:=by
 obtain⟨es,he,hq⟩:=jXt ha
 have hl:=e.row a es he
 have h:en W a i=some es[i]:=by rw[hq i,lJp (by omega)]
 exact⟨_,h,e.fine.rng a i _ _ (by rw[h]),by unfold nxt;rw[h];rfl⟩
theorem kYz {d:Nat} {W:Web} (e:EvW d W) {a:Nat} (ha:a<W.length):∀ds:List Nat,(∀i,i∈ds->i<d)->posN W a ds<W.length:=by
 intro ds
 refine kQy (P:=fun ds=>(∀i,i∈ds->i<d)->posN W a ds<W.length) (fun _=>ha) ?_ ds
 intro ds i ih h
 obtain⟨x,h1,h2,h3⟩:=qJo e (ih fun j hj=>h j (lKe _ hj)) (h i (lJy _ (lJs.mpr rfl)))
 rw[jQ4,h3];exact h2
theorem qVx {d:Nat} {V:Web} {p:List Nat} (h:Prm V.length p) (e:EvW d V) {a:Nat} (ha:a<V.length):∀ds:List Nat,(∀i,i∈ds->i<d)->posN (numW V p) (p.getD a 0) ds=p.getD (posN V a ds) 0:=by
 intro ds
 refine kQy (P:=fun ds=>(∀i,i∈ds->i<d)->posN (numW V p) (p.getD a 0) ds=p.getD (posN V a ds) 0) (fun _=>rfl) ?_ ds
 intro ds i ih h2
 have h3:∀j,j∈ds->j<d:=fun j hj=>h2 j (lKe _ hj)
 have hp:=kYz e ha ds h3
 obtain⟨x,q1,q2,q3⟩:=qJo e hp (h2 i (lJy _ (lJs.mpr rfl)))
 rw[jQ4,jQ4,ih h3,q3]
 unfold nxt
 rw[qV8 h hp,q1];rfl
theorem kYq {d:Nat} {V:Web} {p:List Nat} (h:Prm V.length p) (e:EvW d V) (r:qKd d V):qKd d (numW V p):=by
 obtain⟨ds,h1,h2,h3⟩:=r
 refine⟨ds,h1,h2,fun a' b' ha hb=> ?_⟩
 rw[jV1] at ha hb
 have ex:∀ {k:Nat},k<V.length->∃a,a<V.length/\p.getD a 0=k:=fun {k} hk=>by
  obtain⟨a,ha⟩:=lKw (h.mem hk)
  have:=(lJq.mp ha).1
  exact⟨a,by rw[<-h.len];exact this,by rw[lXr,ha];rfl⟩
 obtain⟨a,ha2,rfl⟩:=ex ha
 obtain⟨b,hb2,rfl⟩:=ex hb
 have:=h3 a b ha2 hb2
 unfold visB at this ⊢
 rw[lQ7] at this ⊢
 obtain⟨j,hj,hq⟩:=this
 refine⟨j,hj,?_⟩
 rw[qVx h e ha2 _ fun i hi=>h2 i (lQk hi),eq_of_beq hq]
 exact beq_self_eq_true _
theorem qKj {α β γ:Type} {f:α->γ} {us:List α} {Ds:List β} (h:us.length=Ds.length):(us.zip Ds).map (fun z=>f z.1)=us.map f:=by
 have:=lKo (List.map f) (List.map_fst_zip (l₁:=us) (l₂:=Ds) (by omega))
 rwa [lJ4] at this
theorem cg0:(((prs 9 (allE 3 3)).drop (0*330)).take 330).all (fP 3 3)=true:=by decide +kernel
theorem cg1:(((prs 9 (allE 3 3)).drop (1*330)).take 330).all (fP 3 3)=true:=by decide +kernel
theorem cg2:(((prs 9 (allE 3 3)).drop (2*330)).take 330).all (fP 3 3)=true:=by decide +kernel
theorem cg3:(((prs 9 (allE 3 3)).drop (3*330)).take 330).all (fP 3 3)=true:=by decide +kernel
theorem cg4:(((prs 9 (allE 3 3)).drop (4*330)).take 330).all (fP 3 3)=true:=by decide +kernel
theorem cg5:(((prs 9 (allE 3 3)).drop (5*330)).take 330).all (fP 3 3)=true:=by decide +kernel
theorem cg6:(((prs 9 (allE 3 3)).drop (6*330)).take 330).all (fP 3 3)=true:=by decide +kernel
theorem cg7:(((prs 9 (allE 3 3)).drop (7*330)).take 330).all (fP 3 3)=true:=by decide +kernel
theorem prs33:(prs 9 (allE 3 3)).length<=8*330:=by decide +kernel
theorem chg33:chkG 3 3=true:=by
 refine kJh 8 _ prs33 fun i hi=> ?_
 rcases (by omega:i=0\/i=1\/i=2\/i=3\/i=4\/i=5\/i=6\/i=7) with rfl | rfl | rfl | rfl | rfl | rfl | rfl | rfl
 ·exact cg0
 ·exact cg1
 ·exact cg2
 ·exact cg3
 ·exact cg4
 ·exact cg5
 ·exact cg6
 ·exact cg7
theorem kKd:chkG 1 1=true:=by decide +kernel
theorem qJz:chkG 1 2=true:=by decide +kernel
theorem qUc:chkG 1 3=true:=by decide +kernel
theorem qYi:chkG 1 4=true:=by decide +kernel
theorem chg15:chkG 1 5=true:=by decide +kernel
theorem chg16:chkG 1 6=true:=by decide +kernel
theorem chg21:chkG 2 1=true:=by decide +kernel
theorem chg22:chkG 2 2=true:=by decide +kernel
theorem chg23:chkG 2 3=true:=by decide +kernel
theorem chg24:chkG 2 4=true:=by decide +kernel
theorem chg31:chkG 3 1=true:=by decide +kernel
theorem chg32:chkG 3 2=true:=by decide +kernel
theorem chg41:chkG 4 1=true:=by decide +kernel
theorem chg42:chkG 4 2=true:=by decide +kernel
theorem chg51:chkG 5 1=true:=by decide +kernel
theorem chg61:chkG 6 1=true:=by decide +kernel
theorem chg71:chkG 7 1=true:=by decide +kernel
theorem chg81:chkG 8 1=true:=by decide +kernel
theorem qUq:szF 9 1=[(1,1),(1,2),(1,3),(1,4),(1,5),(1,6),(2,1),(2,2),(2,3),(2,4),(3,1),(3,2),(3,3),(4,1),(4,2),(5,1),(6,1),(7,1),(8,1)]:=by decide +kernel
theorem che_of {s:Nat×Nat} (h:s∈szF 9 1):(1<=s.1/\s.1<=9/\1<=s.2/\s.2<=6/\s.1*s.2<=9)/\chkG s.1 s.2=true/\chkG 1 s.2=true:=by
 rw[qUq] at h
 simp only[lJk,lKc,lKt] at h
 rcases h with rfl | rfl | rfl | rfl | rfl | rfl | rfl | rfl | rfl | rfl | rfl | rfl | rfl | rfl | rfl | rfl | rfl | rfl | rfl
 ·exact⟨by decide,kKd,kKd⟩
 ·exact⟨by decide,qJz,qJz⟩
 ·exact⟨by decide,qUc,qUc⟩
 ·exact⟨by decide,qYi,qYi⟩
 ·exact⟨by decide,chg15,chg15⟩
 ·exact⟨by decide,chg16,chg16⟩
 ·exact⟨by decide,chg21,kKd⟩
 ·exact⟨by decide,chg22,qJz⟩
 ·exact⟨by decide,chg23,qUc⟩
 ·exact⟨by decide,chg24,qYi⟩
 ·exact⟨by decide,chg31,kKd⟩
 ·exact⟨by decide,chg32,qJz⟩
 ·exact⟨by decide,chg33,qUc⟩
 ·exact⟨by decide,chg41,kKd⟩
 ·exact⟨by decide,chg42,qJz⟩
 ·exact⟨by decide,chg51,kKd⟩
 ·exact⟨by decide,chg61,kKd⟩
 ·exact⟨by decide,chg71,kKd⟩
 ·exact⟨by decide,chg81,kKd⟩
abbrev Kvs:=List (L2.TKey×T)
def kvD (D:DD):Kvs:=D.map fun p=>(keyE p.1,encE p.2)
theorem kVn {a b:Nat×Nat}:keyE a=keyE b↔a=b:=⟨kVm,fun h=>by rw[h]⟩
theorem qKo {D:DD} {e:Nat×Nat}:valT (kvD D) (keyE e)=(getE e D).map encE:=by
 unfold valT getE kvD
 rw[List.find?_map,show ((fun kv:L2.TKey×T=>decide (kv.1=keyE e))∘fun p:(Nat×Nat)×(Nat×Nat)=>(keyE p.1,encE p.2))=fun p=>decide (p.1=e) from funext fun p=>decide_eq_decide.mpr kVn,Option.map_map,Option.map_map]
 rfl
theorem qK9 {D:DD} {k v:Nat×Nat}:putT (kvD D) (keyE k) (encE v)=kvD (putE D k v):=by
 unfold putT putE kvD
 rw[List.any_map,show ((fun kv:L2.TKey×T=>decide (kv.1=keyE k))∘fun p:(Nat×Nat)×(Nat×Nat)=>(keyE p.1,encE p.2))=fun p=>decide (p.1=k) from funext fun p=>decide_eq_decide.mpr kVn]
 split
 ·rw[lJ4,lJ4]
  refine lVq fun p _=> ?_
  show (if keyE p.1=keyE k then (keyE p.1,encE v) else (keyE p.1,encE p.2))=(fun p:(Nat×Nat)×(Nat×Nat)=>(keyE p.1,encE p.2)) (if p.1=k then (p.1,v) else p)
  by_cases h:p.1=k
  ·rw[lJc (by rw[h]),lJc h]
  ·rw[lJb (fun z=>h (kVm z)),lJb h]
 ·rw[lKr];rfl
def rowD (d:Nat) (D:DD) (k:Nat):List (Nat×Nat):=(List.range d).map fun i=>(getE (k,i) D).getD (0,0)
theorem kKa {α:Type} [DecidableEq α] {f:α->T} (h:∀x y,eqT (f x) (f y)=decide (x=y)):∀xs ys:List α,eqTs (xs.map f) (ys.map f)=decide (xs=ys)
 | [],[]=>by simp[eqTs]
 | [],_::_=>by simp[eqTs]
 | _::_,[]=>by simp[eqTs]
 | x::xs,y::ys=>by
  show (eqT (f x) (f y)&&eqTs (xs.map f) (ys.map f))=_
  rw[h,kKa h xs ys]
  by_cases e:x=y
  ·subst e;by_cases e2:xs=ys<;>simp[e2]
  ·simp[e]
theorem qJj (x y:Nat):eqT (.int x) (.int y)=decide (x=y):=by
 by_cases h:x=y
 ·subst h;simp[eqT]
 ·have:¬ (x:Int)=y:=by omega
  simp[eqT,h,this]
theorem eqT_E (x y:Nat×Nat):eqT (encE x) (encE y)=decide (x=y):=by
 obtain⟨a,b⟩:=x
 obtain⟨c,d⟩:=y
 show (eqT (.int a) (.int c)&&(eqT (.int b) (.int d)&&true))=_
 rw[qJj,qJj]
 by_cases h:a=c<;>by_cases h2:b=d<;>simp[h,h2]
theorem eqT_R (x y:List (Nat×Nat)):eqT (encR x) (encR y)=decide (x=y):=kKa eqT_E x y
theorem eqT_W (x y:Web):eqT (encW x) (encW y)=decide (x=y):=kKa eqT_R x y
structure OkD (d:Nat) (x:T):Prop where
 tr:tree x=true
 lay:(td x).canLay0=true
 dep:(td x).depth<=d
theorem kZa {i:Int}:OkD 0 (.int i):=⟨rfl,rfl,Nat.le_of_eq (by simp[td,PyData.depth])⟩
theorem kUc {d:Nat}:∀xs:List T,(∀x,x∈xs->OkD d x)->jK3 xs=true/\PyData.canLayAll0 (tds xs)=true/\PyData.depthAll (tds xs)<=d
 | [],_=>⟨rfl,by simp[tds,PyData.canLayAll0],by simp[tds,PyData.depthAll]⟩
 | x::xs,h=>by
  obtain⟨a1,a2,a3⟩:=kUc xs fun y hy=>h y (lJ2 _ hy)
  obtain⟨b1,b2,b3⟩:=h x (lJ1 ..)
  refine⟨?_,?_,?_⟩
  ·show (tree x&&jK3 xs)=true;rw[a1,b1];rfl
  ·rw[tds,PyData.canLayAll0,a2,b2];rfl
  ·rw[tds,PyData.depthAll];omega
theorem kJ2 {d:Nat} {xs:List T} (h:∀x,x∈xs->OkD d x):OkD (d+1) (.tup xs):=by
 obtain⟨a1,a2,a3⟩:=kUc xs h
 exact⟨a1,by rw[td,PyData.canLay0];exact a2,by rw[td,PyData.depth];omega⟩
theorem OkD.mono {d d':Nat} {x:T} (h:OkD d x) (l:d<=d'):OkD d' x:=⟨h.tr,h.lay,lKd h.dep l⟩
theorem qV3 {xs:List T} (h:∀x,x∈xs->OkD 40 x):kKb xs=true:=by
 obtain⟨a1,a2,a3⟩:=kUc xs h
 unfold kKb
 rw[a1,a2,lJ5 (show (PyData.list (tds xs)).depth<=50 by rw[PyData.depth];omega)];rfl
theorem qV2 {W:Web}:OkD 3 (encW W):=by
 refine kJ2 fun x hx=> ?_
 obtain⟨es,_,rfl⟩:=lJj.mp hx
 refine kJ2 fun x hx=> ?_
 obtain⟨e,_,rfl⟩:=lJj.mp hx
 refine kJ2 fun x hx=> ?_
 simp only[lKc,lJk,lKt] at hx
 rcases hx with rfl | rfl<;>exact kZa
theorem kVy {G:Gp} {A B:Web}:eqG G (encW A) (encW B)=some (decide (A=B)):=by
 have e:∀W:Web,eqOk (encW W)=true:=by
  intro W
  have h:=qV2 (W:=W)
  unfold eqOk
  rw[h.tr,h.lay,lJ5 (show (td (encW W)).depth<=50 by have:=h.dep;omega)];rfl
 show (if eqOk (encW A)=true/\eqOk (encW B)=true then some (eqT (encW A) (encW B)) else none)=_
 rw[lJc ⟨e A,e B⟩,eqT_W]
theorem kQn {k d:Nat}:allE (k+1) d=allE k d++(List.range d).map fun i=>(k,i):=by
 unfold allE
 rw[lXl,lV4];simp
theorem kKg {d:Nat}:∀ {k:Nat},(allE k d).length=k*d
 | 0=>by simp[allE]
 | k+1=>by rw[kQn,lKb,kKg,lJf,lKi,lVx]
def jUa:Sp3:=fun xs G Q=>∃r d:Nat,xs=[.int r,.int d]/\r<=9/\d<=9/\∀q G',G q=none->G' q=some (.lst ((allE r d).map encE))->Sub G G'->Q (.ref q) G'
def kQq:List Str:=["_law_wide","_law_doors","_law_found","_law_room","_law_door"]
noncomputable def jUc:TS3:=
 (tSeq (tAsg (tLst tNil) (jJg 2))
 (tSeq (tFor (jUf (jJc (tVar 0) tNil)) (jJg 3) (jXa (tBM "list" jY0 (tVar 2) (jJc (jKn [false,false,false,false,true] (jUf (jJc (tVar 1) tNil)) (jJg 4) jK4 (tTup (jJc (tVar 3) (jJc (tVar 4) tNil)))) tNil))))
 (tRet (tVar 2))))
theorem jYu:RdOk jUa jUc kQq:=by
 intro xs G Q h_;apply xe2 h_;clear h_;intro r d h_;apply ae3 h_;clear h_;intro hr hd kk
 show jUc _ [some (.int r),some (.int d),none,none,none] G
 have hs:=sz
 wp_walk using 1,jUc,jKq,jUf
 refine⟨by omega,fun q hq=>⟨by omega,by omega,?_⟩⟩
 rw[show ((r:Nat):Int).toNat=r by omega]
 let J1:Nat->St3->Gp->Prop:=fun k τ G'=>∃(v3:Option T),τ=[some (.int r),some (.int d),some (.ref q),v3,none]/\G' q=some (.lst ((allE k d).map encE))/\Sub G G'
 refine⟨J1,?_,?_,?_,?_⟩
 ·exact xi1 _ rfl ⟨jJd,.new hq⟩
 ·intros;trivial
 ·intro k y τ G1 hy h_;apply xe1 h_;clear h_;intro v3 h_;apply ae2 h_;clear h_;intro h1 h2
  obtain⟨hk,rfl⟩:=kYm hy
  wp_walk using 1,jUf,jK2 h1
  refine⟨by omega,by omega,?_⟩
  rw[show ((d:Nat):Int).toNat=d by omega,jKz]
  refine jJ5 (es:=List.range d) (enc:=fun k:Nat=>T.int k) (fun j=>encE (k,j)) (by simp;omega) (fun _ _=>trivial) ?_ ?_
  ·intro j x hx G2 K K0 s2 hK
   wp_walk using 1,tSeq
   exact⟨by omega,hK G2 (.refl _)⟩
  ·intro E G2 hE hE2 s2
   have hkd:k*d<=9*9:=lYe (by omega) hd
   refine⟨q,E,_,_,rfl,rfl,s2 _ _ h1,hE2,by rw[lJf,lJf,lKi,kKg];omega,?_⟩
   exact xi1 _ rfl ⟨by rw[jJd,kQn,lKr,lJ4];rfl,(h2.trans s2).over hq⟩
 ·intro τ G1 h_;apply xe1 h_;clear h_;intro v3 h_;apply ae2 h_;clear h_;intro h1 h2
  rw[qK0] at h1
  wp_walk using 1,tSeq
  exact kk q G1 hq h1 h2
def encP (x:(Nat×Nat)×(Nat×Nat)):T:= .tup [encE x.1,encE x.2]
def PrAt (G:Gp) (rs:List Addr) (Ps:List DD):Prop:=rs.length=Ps.length/\∀(i:Nat) (r:Addr),rs[i]? =some r->∃P,Ps[i]? =some P/\G r=some (.lst (P.map encP))
theorem PrAt.sub {G G':Gp} {us:List Addr} {Ds:List DD} (h:PrAt G us Ds) (s:∀u,u∈us->∀o,G u=some o->G' u=some o):PrAt G' us Ds:=⟨h.1,fun i u hu=>let ⟨D,h1,h2⟩:=h.2 i u hu;⟨D,h1,s u (lJx hu) _ h2⟩⟩
theorem PrAt.app {G:Gp} {us vs:List Addr} {Ds Es:List DD} (h:PrAt G us Ds) (h':PrAt G vs Es):PrAt G (us++vs) (Ds++Es):=by
 refine⟨by simp[h.1,h'.1],fun i u hu=> ?_⟩
 by_cases hi:i<us.length
 ·rw[lK9 hi] at hu
  rw[lK9 (by rw[<-h.1];exact hi)]
  exact h.2 i u hu
 ·rw[lK8 (by omega)] at hu
  rw[lK8 (by rw[<-h.1];omega),<-h.1]
  exact h'.2 _ u hu
def fct:Nat->Nat
 | 0=>1
 | n+1=>(n+1)*fct n
theorem qJg:∀ {n:Nat},n<=9->fct n<=362880:=by decide
theorem qJe {α β:Type} {f:α->List β} {c:Nat}:∀ {l:List α},(∀a,a∈l->(f a).length<=c)->(l.flatMap f).length<=l.length*c
 | [],_=>by simp
 | a::l,h=>by
  rw[lYy,lKb,lJ9,lVx]
  have h1:=h a (lJ1 ..)
  have h2:=qJe (l:=l) fun b hb=>h b (lJ2 _ hb)
  omega
theorem jXk:∀ {n:Nat} {es:List (Nat×Nat)},es.length<=n->(prs n es).length<=fct n
 | n,[],h=>by
  clear h
  have:1<=fct n:=by
   induction n with
   | zero=>exact lJg _
   | succ n ih=>rw[fct];exact lYe (lX2 (lJ6 n)) ih
  rw[prs];exact this
 | n+1,f::rest,h=>by
  rw[prs,lKb,lJf,fct,lVx]
  have hl:rest.length<=n:=by simpa using h
  have h1:=jXk hl
  have h2:((List.range rest.length).flatMap fun k=>(prs n (rest.take k++rest.drop (k+1))).map ((f,rest.getD k (0,0)):: ·)).length<=(List.range rest.length).length*fct n:=qJe fun k hk=>by
   rw[lJf]
   exact jXk (by simp;have:=lJt.mp hk;omega)
  rw[lKi] at h2
  have h3:rest.length*fct n<=n*fct n:=Nat.mul_le_mul_right _ hl
  omega
theorem kV1 {xs:List T} {k:Nat} (h:k<=xs.length):cutT xs (some (k:Int)) none=xs.drop k:=by
 simp only[cutT,HT.sIx]
 rw[lJb (by omega),show min ((k:Int).toNat) xs.length=k by omega]
 (rw[lQd (by simp)])
theorem cut_to {xs:List T} {k:Nat} (h:k<=xs.length):cutT xs none (some (k:Int))=xs.take k:=by
 simp only[cutT,HT.sIx]
 rw[lJb (by omega),show min ((k:Int).toNat) xs.length=k by omega]
 simp
theorem okE {e:Nat×Nat}:OkD 40 (encE e):=(kJ2 (d:=0) fun x hx=>by
 (simp only[lJk,lKc,lKt] at hx)
 rcases hx with rfl | rfl<;>exact kZa).mono (by decide)
theorem kVz {G:Gp} {p q:Addr} {F:List (Nat×Nat)} (h1:G p=some (.lst (F.map encE))) (h2:G q=some (.lst [])):eqG G (.ref p) (.ref q)=some F.isEmpty:=by
 have:eqG G (.ref p) (.ref q)=if kKb (F.map encE)=true/\kKb []=true then some (eqTs (F.map encE) []) else none:=by simp only[eqG,h1,h2]
 rw[this,lJc ⟨qV3 fun x hx=>by obtain⟨e,_,rfl⟩:=lJj.mp hx;exact okE,rfl⟩]
 cases F<;>rfl
noncomputable def jVa (n:Nat):Sp3:=fun xs G Q=>∃(p:Addr) (es:List (Nat×Nat)),xs=[.ref p]/\G p=some (.lst (es.map encE))/\es.length<=n/\n<=9/\∀q rs G',G q=none->G' q=some (.lst (rs.map T.ref))->PrAt G' rs (prs n es)->(∀r,r∈rs->G r=none)->Sub G G'->Q (.ref q) G'
section
variable (jK6:Sp3)
def jU0:List Str:=["_law_ends","_law_first","_law_rest","_law_found","_law_k","_law_other","_law_more"]
noncomputable def jKb:TS3:=
 (tSeq (tIfS (jKp (tOp rEqA (tVar 0) (tLst tNil))) (tRet (tLst (jJc (tLst tNil) tNil))) jU9)
 (tSeq (tAsg (tTup (jJc (tOp rIxF (tVar 0) (tC (.int 0))) (jJc (tSl rSlF (tVar 0) (jZq (tC (.int 1))) jUo) tNil))) (gTup 2 (jJ8 (jJg 1) (jJ8 (jJg 2) gNil))))
 (tSeq (tAsg (jKn [false,false,false,false,false,false,true] (iSeq (jK0 jK6 (jJc (tVar 2) tNil))) (jJg 6) jK4 (tOp jQr (tLst (jJc (tTup (jJc (tVar 1) (jJc (tVar 1) tNil))) tNil)) (tVar 6))) (jJg 3))
 (tSeq (tFor (jZd (jJc (tVar 2) tNil)) (gTup 2 (jJ8 (jJg 4) (jJ8 (jJg 5) gNil))) (jXa (tBM "list" jY0 (tVar 3) (jJc (jKn [false,false,false,false,false,false,true] (iSeq (jK0 jK6 (jJc (tOp jQr (tSl rSlF (tVar 2) jUo (jZq (tVar 4))) (tSl rSlF (tVar 2) (jZq (tOp jQr (tVar 4) (tC (.int 1)))) jUo)) tNil))) (jJg 6) jK4 (tOp jQr (tLst (jJc (tTup (jJc (tVar 1) (jJc (tVar 5) tNil))) tNil)) (tVar 6))) tNil))))
 (tRet (tVar 3))))))
end
theorem qU0 {sp:Sp3} {n:Nat} {p:Addr} {G:Gp} {Q:VK3} (hp:G p=some (.lst [])) (kk:∀q rs G',G q=none->G' q=some (.lst (rs.map T.ref))->PrAt G' rs (prs n [])->(∀r,r∈rs->G r=none)->Sub G G'->Q (.ref q) G'):jKb sp {nx:=fun _ G'=>Q .non G',rt:=Q} [some (.ref p),none,none,none,none,none,none] G:=by
 have hs:=sz
 wp_walk using 1,jKb,rEqA
 refine⟨by omega,fun c hc=> ?_⟩
 have hpc:=jJi hp hc
 refine⟨true,kVz (F:=[]) (by rw[jJp hpc];exact hp) jJd,?_⟩
 rw[lJc rfl]
 refine⟨by omega,fun a ha=>⟨by omega,fun q hq=> ?_⟩⟩
 have hqa:=(jQb hq).1
 refine kk q [a] _ ((jQb (jQb hq).2).2) jJd ⟨by rw[prs];rfl,fun i u hu=> ?_⟩ (fun r hr=>by rw[lJs.mp hr];exact (jQb ha).2) (((Sub.new hc).trans (.new ha)).trans (.new hq))
 match i,hu with
 | 0,hu=>cases hu;exact⟨[],by rw[prs];rfl,by rw[jJp hqa.symm,jJd];rfl⟩
theorem jXy (sp:Sp3):∀xs G Q,jVa 0 xs G Q->jKb sp {nx:=fun _ G'=>Q .non G',rt:=Q} (jKc jU0 xs) G:=by
 intro xs G Q h_;apply xe2 h_;clear h_;intro p es h_;apply ae4 h_;clear h_;intro hp hl _ kk
 cases lQx.mp (Nat.le_zero.mp hl)
 exact qU0 hp kk
theorem kU7:∀ {n:Nat} {es:List (Nat×Nat)} {P:DD},P∈prs n es->P.length<=n
 | n,[],P,h=>by rw[prs] at h;rw[lJs.mp h];exact lJ6 _
 | 0,_::_,P,h=>by rw[prs] at h;cases h
 | n+1,f::rest,P,h=>by
  rw[prs] at h
  rcases (lJr.mp h) with h | h
  ·obtain⟨P',hP,rfl⟩:=lJj.mp h
   rw[lJ9]
   exact lX2 (kU7 hP)
  ·obtain⟨k,_,h⟩:=lQ9.mp h
   obtain⟨P',hP,rfl⟩:=lJj.mp h
   rw[lJ9]
   exact lX2 (kU7 hP)
theorem kVw {α:Type} {G:Gp} {rs:List Addr} {es:List α} (hl:rs.length=es.length) (h:∀(i:Nat) (r:Addr) (e:α),rs[i]? =some r->es[i]? =some e->G r=none):∀r,r∈rs->G r=none:=by
 intro r hr
 obtain⟨i,hi⟩:=lKw hr
 have hil:i<es.length:=by rw[<-hl];exact (lJq.mp hi).1
 exact h i r _ hi (lJp hil)
theorem kU9 {G:Gp} {x:(Nat×Nat)×(Nat×Nat)} {rs rs1:List Addr} {Ps:List DD} (h0:rs.length=Ps.length) (h1:rs1.length=(rs.zip Ps).length) (h:∀(i:Nat) (r:Addr) (z:Addr×DD),rs1[i]? =some r->(rs.zip Ps)[i]? =some z->G r=some (.lst ((x::z.2).map encP))):PrAt G rs1 (Ps.map (x:: ·)):=by
 rw[lX8] at h1
 refine⟨by rw[lJf];omega,fun i r hr=> ?_⟩
 have hi:i<rs1.length:=(lJq.mp hr).1
 have e1:Ps[i]? =some (Ps[i]'(by omega)):=lJp _
 have e2:rs[i]? =some (rs[i]'(by omega)):=lJp _
 have:=h i r (rs[i]'(by omega),Ps[i]'(by omega)) hr (lXe.mpr ⟨e2,e1⟩)
 exact⟨_,by rw[lJz,e1];rfl,this⟩
theorem jJu (n:Nat):∀xs G Q,jVa (n+1) xs G Q->jKb (jVa n) {nx:=fun _ G'=>Q .non G',rt:=Q} (jKc jU0 xs) G:=by
 intro xs G Q h_;apply xe2 h_;clear h_;intro p es h_;apply ae4 h_;clear h_;intro hp hl hn kk
 cases es with
 | nil=>exact qU0 hp kk
 | cons f rest=>
 show jKb _ _ [some (.ref p),none,none,none,none,none,none] G
 have hs:=sz
 have hrl:rest.length<=n:=by simpa using hl
 have hf:=qJg (n:=n) (by omega)
 have hf1:=qJg hn
 have pl:=jXk hl
 wp_walk using 1,jKb,rEqA,jKq,iSeq,jZd,tSl,rSlF,jZq,jUo
 refine⟨by omega,fun c hc=> ?_⟩
 have hpc:=jJi hp hc
 refine⟨false,kVz (F:=f::rest) (by rw[jJp hpc];exact hp) jJd,?_⟩
 rw[lJb (by decide)]
 have hpc':(gup G c (.lst [])) p=some (.lst ((f::rest).map encE)):=by rw[jJp hpc];exact hp
 refine⟨encE f,by rw[jQ0 hpc',show (0:Int)=((0:Nat):Int) from rfl,atN];rfl,.newL (rest.map encE),?_,?_⟩
 ·simp only[slR,hpc']
  rw[show (1:Int)=((1:Nat):Int) from rfl,kV1 (by simp)];rfl
 intro a2 ha2
 have h2:gup (gup G c (.lst [])) a2 (.lst (rest.map encE)) a2=some (.lst (rest.map encE)):=jJd
 have s2:Sub G (gup (gup G c (.lst [])) a2 (.lst (rest.map encE))):=(Sub.new hc).trans (.new ha2)
 generalize gup (gup G c (.lst [])) a2 (.lst (rest.map encE))=G2 at h2 s2 ⊢
 refine⟨by omega,a2,rest,rfl,h2,hrl,by omega,fun q rs G3 hq hq3 pr _ s3=>⟨_,jJh hq3,?_⟩⟩
 have pl1:=jXk hrl
 have body:∀(x:Nat×Nat) {G3:Gp} {rs:List Addr} {Ps:List DD},PrAt G3 rs Ps->(∀P,P∈Ps->P.length<=n)->∀(i:Nat) (z:Addr×DD),(rs.zip Ps)[i]? =some z->∀G4 (K:T->Gp->Prop),Sub G3 G4->(∀p G5,G4 p=none->G5 p=some (.lst (((f,x)::z.2).map encP))->Sub G4 G5->K (.ref p) G5)->
   2<=sizeLine/\1<=sizeLine/\∀c2,G4 c2=none->∃r,addR (gup G4 c2 (.lst [.tup [encE f,encE x]])) (.ref c2) (.ref z.1)=some r/\fin3 r (gup G4 c2 (.lst [.tup [encE f,encE x]])) K:=by
  intro x G3 rs Ps pr hPl i z hz G4 K s4 hK
  have hz2:=lXe.mp hz
  obtain⟨P2,hP2,hG⟩:=pr.2 i z.1 hz2.1
  rw[hz2.2] at hP2;cases hP2
  have hG4:=s4 _ _ hG
  have hPn:=hPl _ (lJx hz2.2)
  refine⟨by omega,by omega,fun c2 hc2=> ?_⟩
  have huc:=jJi hG4 hc2
  refine⟨_,jYj jJd (by rw[jJp huc];exact hG4) (by simp;omega),?_⟩
  intro m hm
  exact hK m _ (jQb hm).2 jJd ((Sub.new hc2).trans (.new hm))
 rw[<-qKj (f:=T.ref) (Ds:=prs n rest) pr.1]
 refine jXr (es:=rs.zip (prs n rest)) (enc:=fun z=>T.ref z.1) (fun z=>((f,f)::z.2).map encP) (by rw[lX8];omega) (fun G' s=>by rw[qKj (f:=T.ref) pr.1];exact jJh (s _ _ hq3)) ?_ ?_
 ·intro i z hz G4 K K0 s4 hK
  wp_walk using 1,tSeq
  exact body f pr (fun P hP=>kU7 hP) i z hz G4 K s4 hK
 intro D rs1 G4 hD hD4 s4 hl1 hn1 hr1
 have hG2D:=s3.none hD
 have ls:∀G',Sub G2 G'->jKt G' (.ref a2)=some (rest.map encE):=fun G' s=>by simp only[jKt,s _ _ h2,asL]
 refine⟨_,ls _ (s3.trans s4),?_⟩
 rw[lKu] at hn1
 let Fk:Nat->List DD:=fun k=>(prs n (rest.take k++rest.drop (k+1))).map ((f,rest.getD k (0,0)):: ·)
 have hprs:prs (n+1) (f::rest)=(prs n rest).map ((f,f):: ·)++(List.range rest.length).flatMap Fk:=by rw[prs]
 let J:Nat->St3->Gp->Prop:=fun i τ G'=>∃(v4 v5:Option T) (ws:List Addr),τ=[some (.ref p),some (encE f),some (.ref a2),some (.ref D),v4,v5,none]/\G' D=some (.lst (ws.map T.ref))/\PrAt G' ws ((prs n rest).map ((f,f):: ·)++(List.range i).flatMap Fk)/\D∉ws/\(∀w,w∈ws->G w=none)/\Sub G2 G'
 refine⟨J,?_,?_,?_,?_⟩
 ·exact⟨none,none,rs1,rfl,hD4,by simpa using kU9 pr.1 hl1 fun i r z h1 h2=>(hr1 i r z h1 h2).2,hn1.1,kVw hl1 (fun i r z h1 h2=>(s2.trans s3).none (hr1 i r z h1 h2).1),s3.trans s4⟩
 ·intro i τ G' hi h_;apply xe3 h_;clear h_;intro v4 v5 ws h_;apply ae5 h_;clear h_;intro h1 h3 h4 hw h5
  exact ls _ h5
 ·intro i y τ G5 hy h_;apply xe3 h_;clear h_;intro v4 v5 ws h_;apply ae5 h_;clear h_;intro h1 h3 h4 hw h5
  obtain⟨z,hz,rfl⟩:=kZe hy
  obtain⟨o,ho,rfl⟩:=jKk hz
  have hil:i<rest.length:=(lJq.mp ho).1
  have hog:rest.getD i (0,0)=o:=by simp[List.getD,ho]
  wp_walk using 1,iSeq,tSl,rSlF,jZq,jUo,jK2 h1
  have a5:=h5 _ _ h2
  refine⟨.newL ((rest.take i).map encE),?_,?_⟩
  ·simp only[slR,a5]
   rw[cut_to (by rw[lJf];omega),lXp]
  intro b1 hb1
  have ab1:=jJi a5 hb1
  refine⟨.newL ((rest.drop (i+1)).map encE),?_,?_⟩
  ·simp only[slR,jJp ab1,a5]
   rw[show ((i:Nat):Int)+1=((i+1:Nat):Int) by omega,kV1 (by rw[lJf];omega),List.map_drop]
  intro b2 hb2
  have hb21:=(jQb hb2).1
  refine⟨_,jYj (by rw[jJp hb21.symm];exact jJd) jJd (by simp;omega),?_⟩
  intro b3 hb3
  have s6:Sub G5 (gup (gup (gup G5 b1 (.lst ((rest.take i).map encE))) b2 (.lst ((rest.drop (i+1)).map encE))) b3 (.lst ((rest.take i).map encE++(rest.drop (i+1)).map encE))):=((Sub.new hb1).trans (.new hb2)).trans (.new hb3)
  have h6:gup (gup (gup G5 b1 (.lst ((rest.take i).map encE))) b2 (.lst ((rest.drop (i+1)).map encE))) b3 (.lst ((rest.take i).map encE++(rest.drop (i+1)).map encE)) b3=some (.lst ((rest.take i++rest.drop (i+1)).map encE)):=by rw[jJd,lKr]
  generalize gup (gup (gup G5 b1 (.lst ((rest.take i).map encE))) b2 (.lst ((rest.drop (i+1)).map encE))) b3 (.lst ((rest.take i).map encE++(rest.drop (i+1)).map encE))=G6 at s6 h6 ⊢
  have hl6:(rest.take i++rest.drop (i+1)).length<=n:=by simp;omega
  have pl6:=jXk hl6
  refine⟨b3,_,rfl,h6,hl6,by omega,fun q2 rs2 G7 hq2 hq7 pr7 _ s7=>⟨_,jJh hq7,?_⟩⟩
  rw[<-qKj (f:=T.ref) (Ds:=prs n (rest.take i++rest.drop (i+1))) pr7.1]
  refine jXr (es:=rs2.zip (prs n (rest.take i++rest.drop (i+1)))) (enc:=fun z=>T.ref z.1) (fun z=>((f,o)::z.2).map encP) (by rw[lX8];omega) (fun G' s=>by rw[qKj (f:=T.ref) pr7.1];exact jJh (s _ _ hq7)) ?_ ?_
  ·intro j z hz G8 K K0 s8 hK
   wp_walk using 1,tSeq
   exact body o pr7 (fun P hP=>kU7 hP) j z hz G8 K s8 hK
  intro E rs3 G8 hE hE8 s8 hl3 hn3 hr3
  have D8:=s8 _ _ (s7 _ _ (s6 _ _ h1))
  have hDr:D∉rs3:=fun z=>by
   obtain⟨j,hj⟩:=lKw z
   have hjl:j<(rs2.zip (prs n (rest.take i++rest.drop (i+1)))).length:=by rw[<-hl3];exact (lJq.mp hj).1
   have:=(hr3 j D _ hj (lJp hjl)).1
   rw[s7 _ _ (s6 _ _ h1)] at this;cases this
  have p8:=kU9 (G:=G8) (x:=(f,o)) pr7.1 hl3 fun i r z h1 h2=>(hr3 i r z h1 h2).2
  have all8:=(h3.sub fun u hu o ho=>s8 _ _ (s7 _ _ (s6 _ _ ho))).app p8
  have e8:(prs n rest).map ((f,f):: ·)++(List.range i).flatMap Fk++(prs n (rest.take i++rest.drop (i+1))).map ((f,o):: ·)=(prs n rest).map ((f,f):: ·)++(List.range (i+1)).flatMap Fk:=by
   rw[lXl,lV4,<-lJn]
   simp only[lYy,List.flatMap_nil,lKz,Fk,hog]
  rw[e8] at all8
  have len8:ws.length+rs3.length<=362880:=by
   have e1:=all8.1
   rw[lKb] at e1
   rw[e1]
   rw[hprs] at pl
   have e2:(List.range rest.length).flatMap Fk=(List.range (i+1)).flatMap Fk++((List.range rest.length).drop (i+1)).flatMap Fk:=by
    rw[<-lV4]
    congr 1
    rw[show List.range (i+1)=(List.range rest.length).take (i+1) by rw[List.take_range];congr 1;omega,lKx]
   rw[e2,<-lJn,lKb] at pl
   omega
  refine⟨D,E,_,_,rfl,rfl,D8,hE8,by rw[lJf,lJf];omega,_,_,ws++rs3,rfl,by rw[jJd,lKr],all8.sub fun u hu o ho=> ?_,fun z=>(lJr.mp z).elim h4 hDr,fun w hm=>(lJr.mp hm).elim (hw w) (kVw hl3 (fun i r z h1 h2=>(((s2.trans h5).trans s6).trans s7).none (hr3 i r z h1 h2).1) w),(((h5.trans s6).trans s7).trans s8).over hG2D⟩
  rw[jJp (show u≠D from fun e=>(lJr.mp (e▸hu)).elim h4 hDr)];exact ho
 ·intro τ G5 h_;apply xe3 h_;clear h_;intro v4 v5 ws h_;apply ae5 h_;clear h_;intro h1 h3 h4 hw h5
  wp_walk using 1,tSeq
  rw[jKx,lJf] at h3
  exact kk D ws G5 (s2.none hG2D) h1 (by rw[hprs];exact h3) hw (s2.trans h5)
abbrev jK6:=jVa 9
theorem jV7 {α K:Type} {f:T->Option K} {enc:α->T} {g:α->K} (h:∀a,f (enc a)=some (g a)):∀l:List α,allK f (l.map enc)=some (l.map g)
 | []=>rfl
 | a::l=>by
  rw[lJo,lJo]
  unfold allK
  rw[h a,jV7 h l]
theorem keysW (V:Web):jUj (V.map encR)=some (keyW V):=jV7 (fun es=>by
 show (allK key1 _).map Sum.inr=_
 rw[jV7 (g:=fun p:Nat×Nat=>(.inr [.inl (p.1:Int),.inl (p.2:Int)]:L2.K1)) fun p=>rfl];rfl) V
theorem qKs {V:Web} (h:1<=V.length):SKey false (V.map encR) (keyW V):=by
 refine⟨keysW V,?_,?_⟩
 ·cases V with
  | nil=>cases h
  | cons a V=>rfl
 ·show (keyW V).all _=true
  rw[lKk]
  intro k hk
  obtain⟨es,_,rfl⟩:=lJj.mp hk
  show (keyR es).all _=true
  rw[lKk]
  intro k hk
  obtain⟨p,_,rfl⟩:=lJj.mp hk
  rfl
theorem jX9 {α K:Type} [DecidableEq K] {lt:K->K->Option Bool} {f:α->K} (h:∀a b,(lt (f a) (f b)).isSome=true):∀a b:List α,(L3.lexLt lt (a.map f) (b.map f)).isSome=true
 | [],[]=>rfl
 | [],_::_=>rfl
 | _::_,[]=>rfl
 | x::a,y::b=>by
  rw[lJo,lJo]
  unfold L3.lexLt
  split
  ·exact jX9 h a b
  ·exact h x y
theorem qVz (p q:Nat×Nat):(L3.lexLt ltI [.inl (p.1:Int),.inl (p.2:Int)] [.inl (q.1:Int),.inl (q.2:Int)]).isSome=true:=
 jX9 (lt:=ltI) (f:=fun i:Nat=>(.inl (i:Int):L2.Key)) (fun i j=>rfl) [p.1,p.2] [q.1,q.2]
theorem row_lt (es fs:List (Nat×Nat)):(L3.lexLt (ltS ltI) (keyR es) (keyR fs)).isSome=true:=
 jX9 (lt:=ltS ltI) (f:=fun p:Nat×Nat=>(.inr [.inl (p.1:Int),.inl (p.2:Int)]:L2.K1)) (fun p q=>qVz p q) es fs
theorem web_lt (V V':Web):(ltK (keyW V) (keyW V')).isSome=true:=
 jX9 (lt:=ltS (ltS ltI)) (f:=fun es=>(.inr (keyR es):L2.K2)) (fun es fs=>row_lt es fs) V V'
theorem kVa {α β:Type} {l:List α} {f:α->β}:∀k:List β,(∀x,x∈k->x∈l.map f)->∃w:List α,k=w.map f/\∀v,v∈w->v∈l
 | [],_=>⟨[],rfl,fun v h=>nomatch h⟩
 | x::k,h=>by
  obtain⟨w,e,hw⟩:=kVa k fun y hy=>h y (lJ2 _ hy)
  obtain⟨v,hv,rfl⟩:=lJj.mp (h x (lJ1 ..))
  refine⟨v::w,by rw[e];rfl,fun u hu=> ?_⟩
  rcases (lJk.mp hu) with rfl | hu
  ·exact hv
  ·exact hw u hu
theorem kZo:∀(L D:DD),(L.map fun x=>(([.int (x.1.1:Nat),.int (x.1.2:Nat)]:List T),keyE x.1,encE x.2)).foldl (fun kvs e=>putT kvs e.2.1 e.2.2) (kvD D)=kvD (L.foldl (fun D x=>putE D x.1 x.2) D)
 | [],D=>rfl
 | x::L,D=>by
  rw[lJo,lQ4,lQ4,<-kZo L,qK9]
theorem qXc {r d:Nat} {V:Web} (h:V∈evL r d):∃p,p∈prs 9 (allE r d)/\V=webD r d (jKs p):=by
 obtain⟨p,hp,e⟩:=lJj.mp (lVv.mp h).1
 exact⟨p,hp,e.symm⟩
theorem ixR_dE {G:Gp} {p:Addr} {D:DD} {e v:Nat×Nat} (h:G p=some (.dct (kvD D))) (hv:getE e D=some v):ixR G (.ref p) (.tup [.int (e.1:Nat),.int (e.2:Nat)])=some (encE v):=by
 have h1:valT (kvD D) (keyE e)=some (encE v):=by rw[qKo,hv];rfl
 have h2:jUj [.int (e.1:Nat),.int (e.2:Nat)]=some (keyE e):=rfl
 simp only[ixR,seqT,h,asL,dAt,h2,h1]
noncomputable def jVu:Sp3:=fun xs G Q=>∃r d:Nat,xs=[.int r,.int d]/\Chk r d/\∀(q:Addr) (G':Gp) (Ws:List Web),(∀V,V∈Ws->V∈evL r d)->Ws.length=(evL r d).length->Ws.length<=362880->G q=none->G' q=some (.lst (Ws.map encW))->Sub G G'->Q (.ref q) G'
def qUk:List Str:=["_law_wide","_law_doors","_law_found","_law_pairs","_law_lead","_law_web","_law_end","_law_other","_law_room","_law_door"]
noncomputable def jYx:TS3:=
 (tSeq (tAsg (tLst tNil) (jJg 2))
 (tSeq (tFor (iSeq (jK0 jK6 (jJc (jK0 jUa (jJc (tVar 0) (jJc (tVar 1) tNil))) tNil))) (jJg 3) (tSeq (tAsg (tCB qUw (jJc (tOp jQr (tVar 3) (jKn [false,false,false,false,false,false,true,true,false,false] (iSeq (tVar 3)) (gTup 2 (jJ8 (jJg 6) (jJ8 (jJg 7) gNil))) jK4 (tTup (jJc (tVar 7) (jJc (tVar 6) tNil))))) tNil)) (jJg 4))
 (tSeq (tAsg (tCB jKe (jJc (jKn [false,false,false,false,false,false,false,false,true,false] (jUf (jJc (tVar 0) tNil)) (jJg 8) jK4 (tCB jKe (jJc (jKn [false,false,false,false,false,false,false,false,false,true] (jUf (jJc (tVar 1) tNil)) (jJg 9) jK4 (tOp rIxF (tVar 4) (tTup (jJc (tVar 8) (jJc (tVar 9) tNil))))) tNil))) tNil)) (jJg 5))
 (tIfS (jKp (tOp rEqA (jK0 jYn (jJc (tVar 5) (jJc (tC (.int 0)) tNil))) (tVar 5))) (jXa (tBM "list" jQo (tVar 2) (jJc (tVar 5) tNil))) jU9))))
 (tRet (tCB qUu (jJc (tVar 2) tNil)))))
theorem kQ6:RdOk jVu jYx qUk:=by
 intro xs G Q h_;apply xe2 h_;clear h_;intro r d h_;apply ae2 h_;clear h_;intro c kk
 show jYx _ [some (.int r),some (.int d),none,none,none,none,none,none,none,none] G
 have hs:=sz
 have hr:=c.r9
 have hr1:=c.r1
 have hd:=c.d6
 have hrd:=c.rd
 wp_walk using 1,jYx,jKq,iSeq
 refine⟨by omega,fun f hf=> ?_⟩
 refine⟨r,d,rfl,by omega,by omega,fun q0 G2 hq0 hq2 s2=> ?_⟩
 have f2:=s2 _ _ (jJd (a:=f) (o:= .lst []))
 have sG2:Sub G G2:=(Sub.new hf).trans s2
 have hal:(allE r d).length<=9:=by rw[kKg];exact hrd
 refine⟨q0,allE r d,rfl,hq2,hal,lJg _,fun q1 rs G3 hq1 hq3 pr fr s3=>⟨_,jJh hq3,?_⟩⟩
 have pl:=jXk hal
 have pl9:fct 9<=362880:=qJg (lJg _)
 have f3:=s3 _ _ f2
 have q1f:q1≠f:=(jJi f2 hq1).symm
 have rf:∀u,u∈rs->u≠f:=fun u hu e=>by have:=fr u hu;rw[e,f2] at this;cases this
 generalize hPs:prs 9 (allE r d)=Ps at pr pl
 have cp:=c.prs
 rw[hPs] at cp
 let J:Nat->St3->Gp->Prop:=fun i τ G'=>∃(v3 v4 v5:Option T),τ=[some (.int r),some (.int d),some (.ref f),v3,v4,v5,none,none,none,none]/\G' f=some (.lst ((((Ps.take i).map fun p=>webD r d (jKs p)).filter fun W=>decide (kJl W 0=W)).map encW))/\G' q1=some (.lst (rs.map T.ref))/\PrAt G' rs Ps/\Sub G G'
 refine⟨J,?_,?_,?_,?_⟩
 ·exact⟨none,none,none,rfl,f3,hq3,pr,sG2.trans s3⟩
 ·intro i τ G' hi h_;apply xe3 h_;clear h_;intro v3 v4 v5 h_;apply ae4 h_;clear h_;intro h1 h2 h3 h4
  exact jJh h2
 ·intro i y τ G4 hy h_;apply xe3 h_;clear h_;intro v3 v4 v5 h_;apply ae4 h_;clear h_;intro h1 h2 h3 h4
  obtain⟨u,hu,rfl⟩:=jKk hy
  obtain⟨P,hP,hG⟩:=h3.2 i u hu
  have hPm:=lJx hP
  obtain⟨c1,c2,c3⟩:=cp P hPm
  wp_walk using 1,iSeq,rEqA,jUf
  refine⟨_,jJh hG,?_⟩
  refine jJ5 (es:=P) (enc:=encP) (fun x=>encP (x.2,x.1)) (by omega) (fun G' s=>jJh (s _ _ hG)) ?_ ?_
  ·intro j x hx G5 K K0 s5 hK
   wp_walk using 1,encP
   exact⟨by omega,hK G5 (.refl _)⟩
  intro E G5 hE hE5 s5
  refine⟨_,jYj (s5 _ _ hG) hE5 (by simp;omega),?_⟩
  intro m hm
  refine⟨m,(P++P.map fun x=>(x.2,x.1)).map (fun x=>(([.int (x.1.1:Nat),.int (x.1.2:Nat)]:List T),keyE x.1,encE x.2)),rfl,by rw[jJd,lJ4,lKr,lJ4];rfl,fun e he=> ?_,by simp;omega,fun lq hlq=> ?_⟩
  ·obtain⟨x,_,rfl⟩:=lJj.mp he;rfl
  have hlead:=(jJd (G:=gup G5 m (.lst (P.map encP++P.map fun x=>encP (x.2,x.1)))) (a:=lq) (o:= .dct (((P++P.map fun x=>(x.2,x.1)).map (fun x=>(([.int (x.1.1:Nat),.int (x.1.2:Nat)]:List T),keyE x.1,encE x.2))).foldl (fun kvs e=>putT kvs e.2.1 e.2.2) [])))
  have s7:Sub G4 (gup (gup G5 m (.lst (P.map encP++P.map fun x=>encP (x.2,x.1)))) lq (.dct (((P++P.map fun x=>(x.2,x.1)).map (fun x=>(([.int (x.1.1:Nat),.int (x.1.2:Nat)]:List T),keyE x.1,encE x.2))).foldl (fun kvs e=>putT kvs e.2.1 e.2.2) []))):=(s5.trans (.new hm)).trans (.new hlq)
  generalize gup (gup G5 m (.lst (P.map encP++P.map fun x=>encP (x.2,x.1)))) lq (.dct (((P++P.map fun x=>(x.2,x.1)).map (fun x=>(([.int (x.1.1:Nat),.int (x.1.2:Nat)]:List T),keyE x.1,encE x.2))).foldl (fun kvs e=>putT kvs e.2.1 e.2.2) []))=G7 at hlead s7 ⊢
  rw[show ((P++P.map fun x=>(x.2,x.1)).map (fun x=>(([.int (x.1.1:Nat),.int (x.1.2:Nat)]:List T),keyE x.1,encE x.2))).foldl (fun kvs e=>putT kvs e.2.1 e.2.2) []=kvD (jKs P) from kZo _ []] at hlead
  refine⟨by omega,by omega,?_⟩
  rw[show ((r:Nat):Int).toNat=r by omega,jKz]
  refine jJ5 (es:=List.range r) (enc:=fun k:Nat=>T.int k) (fun k=>encR (rowD d (jKs P) k)) (by simp;omega) (fun _ _=>trivial) ?_ ?_
  ·intro j k hk G8 K K0 s8 hK
   have hkr:k<r:=by have:=lJx hk;simpa using this
   wp_walk using 1,jUf
   refine⟨by omega,by omega,?_⟩
   rw[show ((d:Nat):Int).toNat=d by omega,jKz]
   refine jJ5 (es:=List.range d) (enc:=fun k:Nat=>T.int k) (fun i=>encE ((getE (k,i) (jKs P)).getD (0,0))) (by simp;omega) (fun _ _=>trivial) ?_ ?_
   ·intro j2 x hx G9 K' K0' s9 hK'
    have hxd:x<d:=by have:=lJx hx;simpa using this
    obtain⟨v,hv⟩:=lVe.mp (c2 k x hkr hxd)
    wp_walk using 1,tSeq
    refine⟨by omega,_,ixR_dE (e:=(k,x)) (s9 _ _ (s8 _ _ hlead)) hv,?_⟩
    have:=hK' G9 (.refl _)
    rw[hv] at this
    exact this
   ·intro E2 G9 hE2 hE9 s9
    refine⟨_,jJh hE9,?_⟩
    have:=hK G9 s9
    unfold encR rowD at this
    rw[lJ4] at this
    exact this
  intro E2 G8 hE2 hE8 s8
  refine⟨_,jJh hE8,?_⟩
  have hW:T.tup ((List.range r).map fun k=>encR (rowD d (jKs P) k))=encW (webD r d (jKs P)):=by unfold encW webD;rw[lJ4];rfl
  rw[hW]
  have tk:Ps.take (i+1)=Ps.take i++[P]:=by rw[lK3,hP];rfl
  have hlen:(((Ps.take i).map fun p=>webD r d (jKs p)).filter fun W=>decide (kJl W 0=W)).length<=362880:=by
   have h1:=lXs (fun W=>decide (kJl W 0=W)) ((Ps.take i).map fun p=>webD r d (jKs p))
   rw[lJf,lK1] at h1
   omega
  refine⟨webD r d (jKs P),0,rfl,(kX3 (by omega) (by omega)).fine c3,by rw[jVq];omega,fun G9 s9=>⟨_,kVy,?_⟩⟩
  have s49:=(s7.trans s8).trans s9
  by_cases ht:kJl (webD r d (jKs P)) 0=webD r d (jKs P)
  ·rw[lJc (lJ5 ht)]
   have f9:=s49 _ _ h1
   wp_walk using 1,jK2 f9,f9
   refine⟨by rw[lJf];omega,_,_,_,rfl,?_,by rw[jJp q1f];exact s49 _ _ h2,(h3.sub fun u hu o ho=>by rw[jJp (rf u hu)];exact s49 _ _ ho),(h4.trans s49).over hf⟩
   rw[jJd,tk,lKr,List.filter_append,lKr]
   simp only[lJo,List.map_nil,List.filter_cons,lJ5 ht,lKl,List.filter_nil]
  ·rw[lJb (by simpa using ht)]
   refine⟨_,_,_,rfl,?_,s49 _ _ h2,h3.sub fun u hu o ho=>s49 _ _ ho,h4.trans s49⟩
   rw[s49 _ _ h1,tk,lKr,List.filter_append]
   simp only[lJo,List.map_nil,List.filter_cons,lJw ht,lKn,lKj,List.filter_nil,lKz]
 ·intro τ G4 h_;apply xe3 h_;clear h_;intro v3 v4 v5 h_;apply ae4 h_;clear h_;intro h1 h2 h3 h4
  rw[lJf,pr.1,lQo,<-hPs] at h1
  have h1':G4 f=some (.lst ((evL r d).map encW)):=h1
  wp_walk using 1,tSeq
  have hel:(evL r d).length<=362880:=by
   have h1:=lXs (fun W=>decide (kJl W 0=W)) ((prs 9 (allE r d)).map fun p=>webD r d (jKs p))
   rw[lJf,hPs] at h1
   show (List.filter _ _).length<=_
   rw[hPs];omega
  have hVl:∀V,V∈evL r d->1<=V.length:=fun V hV=>by obtain⟨p,_,rfl⟩:=qXc hV;rw[jVq];exact hr1
  refine⟨.ref f,false,(evL r d).map fun V=>(V.map encR,keyW V),rfl,by simp only[jKt,h1',asL,lJ4];rfl,by rw[lJf];omega,fun e he=> ?_,fun e he e' he'=> ?_,fun p kys hp pe pw=> ?_⟩
  ·obtain⟨V,hV,rfl⟩:=lJj.mp he
   exact qKs (hVl V hV)
  ·obtain⟨V,hV,rfl⟩:=lJj.mp he
   obtain⟨V',hV',rfl⟩:=lJj.mp he'
   exact web_lt V V'
  ·obtain⟨Ws,ek,hWs⟩:=kVa kys fun x hx=>pe.mem_iff.mp hx
   have el:Ws.length=(evL r d).length:=by
    have:=pe.length_eq
    rw[ek,lJf,lJf] at this;exact this
   refine kk p _ Ws hWs el (by omega) (h4.none hp) ?_ (h4.trans (.new hp))
   rw[jJd,ek,lJ4];rfl
theorem jUy {α β:Type} {p:α->Bool} {f:α->β}:∀l:List α,l.filterMap (fun r=>if p r=true then some (f r) else none)=(l.filter p).map f
 | []=>rfl
 | a::l=>by
  rw[lVd,List.filter_cons]
  by_cases h:p a=true
  ·rw[lJc h,lJc h,lJo,jUy l]
  ·rw[lJb h,lJb h,jUy l]
noncomputable def szR (most doors w:Nat):List (Nat×Nat):=(((List.range (7-doors)).map (· +doors)).filter fun m=>decide ((w+1)*m<=most)&&(decide (m>0)||decide (w+1<4))).map fun m=>(w+1,m)
theorem kYe {most doors w:Nat}:(szR most doors w).length<=7:=by
 unfold szR
 rw[lJf]
 refine lKd (lXs _ _) ?_
 rw[lJf,lKi];omega
noncomputable def jXb:Sp3:=fun xs G Q=>∃most doors:Nat,xs=[.int most,.int doors]/\most<=100/\doors<=7/\∀q G',G q=none->G' q=some (.lst ((szF most doors).map encE))->Sub G G'->Q (.ref q) G'
def qKf:List Str:=["_law_most","_law_doors","_law_found","_law_wide","_law_some","_law_many"]
noncomputable def jXi:TS3:=
 (tSeq (tAsg (tLst tNil) (jJg 2))
 (tSeq (tFor (kZ3 (jJc (tC (.int 1)) (jJc (tC (.int 9)) tNil))) (jJg 3) (tSeq (tAsg (jKn [false,false,false,false,false,true] (kZ3 (jJc (tVar 1) (jJc (tC (.int 7)) tNil))) (jJg 5) (jKp (tOp rLeF (tOp jYz (tVar 3) (tVar 5)) (tVar 0))) (tVar 5)) (jJg 4))
 (jXa (tBM "list" jY0 (tVar 2) (jJc (jKn [false,false,false,false,false,true] (iSeq (tVar 4)) (jJg 5) (tOr (jKp (tOp rGt (tVar 5) (tC (.int 0)))) (jKp (tOp rLt (tVar 3) (tC (.int 4))))) (tTup (jJc (tVar 3) (jJc (tVar 5) tNil)))) tNil)))))
 (tRet (tVar 2))))
theorem kKq:RdOk jXb jXi qKf:=by
 intro xs G Q h_;apply xe2 h_;clear h_;intro most doors h_;apply ae3 h_;clear h_;intro hm hd kk
 show jXi _ [some (.int most),some (.int doors),none,none,none,none] G
 have hs:=sz
 wp_walk using 1,jXi,jKq,kZ3
 refine⟨by omega,fun q hq=>⟨by omega,by omega,by omega,by omega,?_⟩⟩
 rw[show ((9:Int)-1).toNat=8 from rfl,show (1:Int)=((1:Nat):Int) from rfl,kKo]
 let J1:Nat->St3->Gp->Prop:=fun k τ G'=>∃(v3 v4:Option T),τ=[some (.int most),some (.int doors),some (.ref q),v3,v4,none]/\G' q=some (.lst (((List.range k).flatMap (szR most doors)).map encE))/\Sub G G'
 refine⟨J1,?_,?_,?_,?_⟩
 ·exact xi2 _ _ rfl ⟨jJd,.new hq⟩
 ·intros;trivial
 ·intro w y τ G1 hy h_;apply xe2 h_;clear h_;intro v3 v4 h_;apply ae2 h_;clear h_;intro h1 h2
  obtain⟨w',hw',rfl⟩:=jKk hy
  obtain⟨hw,rfl⟩:w<8/\w=w':=by
   obtain⟨q1,q2⟩:=lJq.mp hw'
   rw[lYx] at q2
   rw[lKi] at q1
   exact⟨q1,q2⟩
  wp_walk using 1,kZ3,iSeq,rLeF
  refine⟨by omega,by omega,by omega,by omega,?_⟩
  rw[show ((7:Int)-(doors:Nat)).toNat=7-doors by omega,kKo,show ((List.range (7-doors)).map fun (k:Nat)=>T.int ((doors+k:Nat):Int))=((List.range (7-doors)).map (· +doors)).map fun m:Nat=>T.int m by rw[lJ4];exact lVq fun k _=>by simp[Nat.add_comm]]
  generalize hes:(List.range (7-doors)).map (· +doors)=es
  have hel:es.length<=7:=by rw[<-hes,lJf,lKi];omega
  have hem:∀m,m∈es->m<14:=fun m hmm=>by
   rw[<-hes] at hmm
   obtain⟨k,hk,rfl⟩:=lJj.mp hmm
   have:=lJt.mp hk;omega
  refine jYf (es:=es) (enc:=fun m:Nat=>T.int m) (fun m=>if decide ((w+1)*m<=most)=true then some (T.int (m:Nat)) else none) (by omega) (fun _ _=>trivial) ?_ ?_
  ·intro j m hj G2 K K0 s2 hK hK0
   have hm14:=hem m (lJx hj)
   wp_walk using 1,rLeF
   refine⟨.inl ⟨by omega,by omega⟩,?_⟩
   have e:(((1+w:Nat):Int)*((m:Nat):Int)<=((most:Nat):Int))↔(w+1)*m<=most:=by
    rw[<-Int.natCast_mul,Int.ofNat_le,Nat.add_comm]
   by_cases h:(w+1)*m<=most
   ·rw[lJc (e.mpr h)];exact hK _ _ (by rw[lJc (lJ5 h)]) (.refl _)
   ·rw[lJb (fun z=>h (e.mp z))];exact hK0 (by rw[lJb (by simpa using h)]) _ (.refl _)
  intro E G2 hE hE2 s2
  rw[jUy (p:=fun m=>decide ((w+1)*m<=most))] at hE2
  generalize hfs:es.filter (fun m=>decide ((w+1)*m<=most))=fs at hE2
  have hfl:fs.length<=7:=by rw[<-hfs];exact lKd (lXs _ _) hel
  have q2:=s2 _ _ h1
  wp_walk using 1,jK2 q2,iSeq
  refine⟨_,jJh hE2,?_⟩
  refine jYf (es:=fs) (enc:=fun m:Nat=>T.int m) (fun m=>if (decide (m>0)||decide (w+1<4))=true then some (encE (w+1,m)) else none) (by omega) (fun G' s=>jJh (s _ _ hE2)) ?_ ?_
  ·intro j m hj G3 K K0 s3 hK hK0
   wp_walk using 1,tSeq
   have fin:(decide (m>0)||decide (w+1<4))=true->2<=sizeLine/\K (.tup [.int ((1+w:Nat):Int),.int (m:Nat)]) G3:=fun h=>⟨by omega,by
    have:=hK _ G3 (lJc h) (.refl _)
    rw[Nat.add_comm 1 w];exact this⟩
   by_cases h1:m>0
   ·rw[lJc (by omega)]
    exact fin (by simp[h1])
   ·rw[lJb (by omega)]
    by_cases h2:w+1<4
    ·rw[lJc (by omega)]
     exact fin (by simp[h2])
    ·rw[lJb (by omega)]
     exact hK0 (lJb (by simp[h1];omega)) _ (.refl _)
  intro F G3 hF hF3 s3
  rw[jUy (p:=fun m=>decide (m>0)||decide (w+1<4)),<-hfs,List.filter_filter] at hF3
  have hrow:(es.filter fun m=>(decide (m>0)||decide (w+1<4))&&decide ((w+1)*m<=most)).map (fun m=>encE (w+1,m))=(szR most doors w).map encE:=by
   unfold szR
   rw[lJ4,hes]
   congr 1
   refine List.filter_congr fun m _=>Bool.and_comm ..
  rw[hrow] at hF3
  have hfw:((List.range w).flatMap (szR most doors)).length<=(List.range w).length*7:=qJe fun a _=>kYe
  have hrl:=kYe (most:=most) (doors:=doors) (w:=w)
  rw[lKi] at hfw
  refine⟨q,F,_,_,rfl,rfl,s3 _ _ q2,hF3,by rw[lJf,lJf];omega,?_⟩
  exact xi2 _ _ rfl ⟨by rw[jJd,lXl,lV4,lKr];simp,((h2.trans s2).trans s3).over hq⟩
 ·intro τ G1 h_;apply xe2 h_;clear h_;intro v3 v4 h_;apply ae2 h_;clear h_;intro h1 h2
  rw[lJf,lKi] at h1
  wp_walk using 1,tSeq
  exact kk q G1 hq h1 h2
def encK (p:Nat×List Nat):T:= .tup [.int (p.1:Nat),.tup (jJo p.2)]
def encS (s:WS):T:= .tup (s.map encK)
noncomputable def jU2:Sp3:=fun xs G Q=>∃(x:T) (a:Nat) (l:List Nat),xs=[x,.int (a:Nat)]/\(∀G',Sub G G'->seqT G' x=some (jJo l))/\l.length<=100/\∀G',Sub G G'->Q (.tup (jJo (wout l a))) G'
def qKe:List Str:=["rooms","room","other"]
noncomputable def jXh:TS3:=
 (tRet (tCB jKe (jJc (jKn [false,false,true] (iSeq (tVar 0)) (jJg 2) (jKp (tOp rNeA (tVar 2) (tVar 1))) (tVar 2)) tNil)))
theorem kKp:RdOk jU2 jXh qKe:=by
 intro xs G Q h_;apply xe3 h_;clear h_;intro x a l h_;apply ae3 h_;clear h_;intro hx hl kk
 show jXh _ [some x,some (.int (a:Nat)),none] G
 have hs:=sz
 wp_walk using 1,jXh,iSeq
 refine⟨_,hx _ (.refl _),?_⟩
 refine jYf (es:=l) (enc:=fun k:Nat=>T.int k) (fun b=>if decide (b≠a)=true then some (T.int (b:Nat)) else none) (by omega) (fun G' s=>hx G' s) ?_ ?_
 ·intro i b hb G' K K0 s hK hK0
  wp_walk using 1,rNeA
  refine⟨_,qJk,?_⟩
  by_cases h:b=a
  ·rw[lJb (by simp[h])]
   exact hK0 (by rw[lJb (by simp[h])]) _ (.refl _)
  ·rw[lJc (by simp[h])]
   exact hK _ _ (by rw[lJc (by simp[h])]) (.refl _)
 ·intro D G' hD h1 h2
  refine⟨_,jJh h1,?_⟩
  rw[jUy (p:=fun b=>decide (b≠a))]
  exact kk G' h2
def jQy:Sp3:=fun xs G Q=>∃(W:Web),xs=[encW W]/\W.length<=60/\∀G',Sub G G'->Q (encS (begW W.length)) G'
def kKi:List Str:=["web","rooms","room"]
noncomputable def jQz:TS3:=
 (tSeq (tAsg (jQ2 (jJc (tCB rLen (jJc (tVar 0) tNil)) tNil)) (jJg 1))
 (tRet (tCB jKe (jJc (jKn [false,false,true] (iSeq (tVar 1)) (jJg 2) jK4 (tTup (jJc (tVar 2) (jJc (jK0 jU2 (jJc (tVar 1) (jJc (tVar 2) tNil))) tNil)))) tNil))))
theorem jXx:RdOk jQy jQz kKi:=by
 intro xs G Q h_;apply xe1 h_;clear h_;intro W h_;apply ae2 h_;clear h_;intro hW kk
 show jQz _ [some (.tup (W.map encR)),none,none] G
 have hs:=sz
 wp_walk using 1,jQz,iSeq,jQ2,List.length_map
 refine⟨by omega,by omega,fun L hL=> ?_⟩
 rw[show ((W.length:Nat):Int).toNat=W.length by omega,jKz]
 have h1:∀ {G':Gp},Sub (gup G L (.lst ((List.range W.length).map fun k:Nat=>T.int k))) G'->G' L=some (.lst (jJo (List.range W.length))):=fun {G'} s=>s _ _ jJd
 have s1:Sub G (gup G L (.lst ((List.range W.length).map fun k:Nat=>T.int k))):= .new hL
 generalize gup G L (.lst ((List.range W.length).map fun k:Nat=>T.int k))=G1 at h1 s1 ⊢
 refine jJ5 (es:=List.range W.length) (enc:=fun k:Nat=>T.int k) (fun a=>encK (a,wout (List.range W.length) a)) (by simp;omega) (fun G' s=>jJh (h1 s)) ?_ ?_
 ·intro i a ha G' K K0 s hK
  wp_walk using 1,tSeq
  refine⟨_,a,List.range W.length,rfl,fun G3 s3=>jJh (h1 (s.trans s3)),by simp;omega,fun G3 s3=>⟨by omega,hK G3 s3⟩⟩
 ·intro D G2 hD h2 s2
  refine⟨_,jJh h2,?_⟩
  have:=kk G2 (s1.trans s2)
  unfold encS begW at this
  rw[lJ4] at this
  exact this
noncomputable def jVh:Sp3:=fun xs G Q=>∃(d:Nat) (W:Web) (s:WS) (i:Nat),xs=[encW W,encS s,.int (i:Nat)]/\EvW d W/\i<d/\s.length<=60/\(∀p,p∈s->p.1<W.length/\p.2.length<=60)/\∀G',Sub G G'->Q (encS (stpW W s i)) G'
def kX0:List Str:=["web","walks","door","further","room","left","there"]
noncomputable def jVk:TS3:=
 (tSeq (tAsg (tLst tNil) (jJg 3))
 (tSeq (tFor (iSeq (tVar 1)) (gTup 2 (jJ8 (jJg 4) (jJ8 (jJg 5) gNil))) (tSeq (tAsg (tOp rIxF (tOp rIxF (tOp rIxF (tVar 0) (tVar 4)) (tVar 2)) (tC (.int 0))) (jJg 6))
 (jXa (tBM "list" jQo (tVar 3) (jJc (tTup (jJc (tVar 6) (jJc (jK0 jU2 (jJc (tVar 5) (jJc (tVar 6) tNil))) tNil))) tNil)))))
 (tRet (tCB jKe (jJc (tVar 3) tNil)))))
theorem kJu:RdOk jVh jVk kX0:=by
 intro xs G Q h_;apply xe4 h_;clear h_;intro d W s i h_;apply ae5 h_;clear h_;intro ev hi hsl hp kk
 show jVk _ [some (.tup (W.map encR)),some (.tup (s.map encK)),some (.int (i:Nat)),none,none,none,none] G
 have hs:=sz
 wp_walk using 1,jVk,jKq,iSeq
 refine⟨by omega,fun p hp0=> ?_⟩
 let J:Nat->St3->Gp->Prop:=fun j τ G'=>∃(v4 v5 v6:Option T),τ=[some (.tup (W.map encR)),some (.tup (s.map encK)),some (.int (i:Nat)),some (.ref p),v4,v5,v6]/\G' p=some (.lst ((stpW W (s.take j) i).map encK))/\Sub G G'
 refine⟨J,?_,?_,?_,?_⟩
 ·exact⟨none,none,none,rfl,jJd,.new hp0⟩
 ·intros;trivial
 ·intro j y τ G1 hy h_;apply xe3 h_;clear h_;intro v4 v5 v6 h_;apply ae2 h_;clear h_;intro h1 h2
  obtain⟨u,hu,rfl⟩:=jKk hy
  obtain⟨a,l⟩:=u
  obtain⟨ha,hl⟩:=hp _ (lJx hu)
  obtain⟨row,hrow,hen⟩:=jXt ha
  obtain⟨x,hx,hx2,hx3⟩:=qJo ev ha hi
  have hed:row[i]? =some x:=by rw[<-hen i];exact hx
  have heR:=qJn hed
  wp_walk using 1,encK,jXq hrow,encR,heR,encE
  have hj:j<s.length:=(lJq.mp hu).1
  have tk:s.take (j+1)=s.take j++[(a,l)]:=by rw[lK3,hu];rfl
  refine⟨by rw[jK2 h1];trivial,_,x.1,l,rfl,(fun _ _=>rfl),by have:l.length<=60:=hl;omega,fun G2 s2=>⟨by omega,_,s2 _ _ h1,by rw[lJf,stpW,lJf,lK1];omega,_,_,_,rfl,?_,(h2.trans s2).over hp0⟩⟩
  rw[jJd,tk]
  unfold stpW
  rw[lKr,lKr]
  have e:nxt W a i=x.1:=hx3
  show some (GO.lst (_++[encK (x.1,wout l x.1)]))=some (GO.lst (_++[encK (nxt W a i,wout l (nxt W a i))]))
  rw[e]
 ·intro τ G1 h_;apply xe3 h_;clear h_;intro v4 v5 v6 h_;apply ae2 h_;clear h_;intro h1 h2
  wp_walk using 1,tSeq
  refine⟨_,jJh h1,?_⟩
  rw[lJf,lQo]
  exact kk G1 h2
structure WOk (W:Web) (s:WS):Prop where
 len:s.length<=60
 at_:∀p,p∈s->p.1<W.length/\p.2.length<=60
noncomputable def jVv:Sp3:=fun xs G Q=>∃(d:Nat) (W:Web) (s:WS),xs=[encS s,encW W]/\EvW d W/\WOk W s/\∀p G',G p=none->G' p=some (.lst ((List.range d).map fun i=>encS (stpW W s i)))->Sub G G'->Q (.ref p) G'
def N_beyond:List Str:=["walks","web","door"]
noncomputable def jYy:TS3:=
 (tRet (jKn [false,false,true] (jUf (jJc (tCB rLen (jJc (tOp rIxF (tVar 1) (tC (.int 0))) tNil)) tNil)) (jJg 2) jK4 (jK0 jVh (jJc (tVar 1) (jJc (tVar 0) (jJc (tVar 2) tNil))))))
theorem kQ7:RdOk jVv jYy N_beyond:=by
 intro xs G Q h_;apply xe3 h_;clear h_;intro d W s h_;apply ae3 h_;clear h_;intro ev ok kk
 show jYy _ [some (encS s),some (.tup (W.map encR)),none] G
 have hs:=sz
 obtain⟨row,hrow,_⟩:=jXt (W:=W) (r:=0) (by have:=ev.pos;omega)
 have hrl:=ev.row 0 row hrow
 have h0:=jXq hrow
 have hd:=ev.d6
 wp_walk using 1,jYy,jUf
 refine⟨_,h0,_,rfl,by simp,by simp;omega,?_⟩
 rw[show ((row.map encE).length:Int).toNat=d by rw[lJf,hrl,lXg],jKz]
 refine jJ5 (es:=List.range d) (enc:=fun k:Nat=>T.int k) (fun i=>encS (stpW W s i)) (by simp;omega) (fun _ _=>trivial) ?_ ?_
 ·intro j i hi G' K K0 s1 hK
  have hid:i<d:=by have:=lJx hi;simpa using this
  wp_walk using 1,tSeq
  exact⟨d,W,s,i,rfl,ev,hid,ok.len,ok.at_,fun G3 s3=>hK G3 s3⟩
 ·intro D G2 hD h2 s2
  exact kk D G2 hD h2 s2
def jKa:Sp3:=fun xs G Q=>∃(s:WS),xs=[encS s]/\s.length<=60/\∀G',Sub G G'->Q (.bl (okW s)) G'
def N_lam_least_seeing:List Str:=["walks","room","left"]
noncomputable def jKj:TE3:=
 (qVm (tCB rAnyT (jJc (jKn [false,true,true] (iSeq (tVar 0)) (gTup 2 (jJ8 (jJg 1) (jJ8 (jJg 2) gNil))) jK4 (tVar 2)) tNil)))
theorem jUt:∀xs G Q,jKa xs G Q->jKj (jKc N_lam_least_seeing xs) G Q:=by
 intro xs G Q h_;apply xe1 h_;clear h_;intro s h_;apply ae2 h_;clear h_;intro hl kk
 show jKj [some (.tup (s.map encK)),none,none] G Q
 have hs:=sz
 wp_walk using 1,jKj,iSeq
 refine jJ5 (es:=s) (enc:=encK) (fun p=>T.tup (jJo p.2)) (by omega) (fun _ _=>trivial) ?_ ?_
 ·intro j p hp G' K K0 s1 hK
  wp_walk using 1,encK
  exact hK G' (.refl _)
 ·intro D G2 hD h2 s2
  refine⟨D,s.map fun p=>jJo p.2,rfl,by rw[h2,lJ4];rfl,_,rfl,?_⟩
  have:=kk G2 s2
  have e:∀l:WS,(!((l.map fun p=>jJo p.2).any fun l=> !l.isEmpty))=okW l:=by
   intro l
   unfold okW
   induction l with
   | nil=>rfl
   | cons a l ih=>rw[lJo,lKv,lQv,Bool.not_or,ih];simp[jJo]
  rw[e]
  exact this
def qQt (p:Nat×List Nat):L2.K2:= .inr [.inl (.inl (p.1:Int)),.inr (p.2.map fun n:Nat=>(.inl (n:Int):L2.Key))]
def keyS (s:WS):L2.TKey:=s.map qQt
theorem qXj (s:WS):jUj (s.map encK)=some (keyS s):=jV7 (fun p=>by
 have h:allK jXz (jJo p.2)=some (p.2.map fun n:Nat=>(.inl (n:Int):L2.Key)):=jV7 (f:=jXz) (enc:=fun n:Nat=>T.int (n:Nat)) (g:=fun n:Nat=>(.inl (n:Int):L2.Key)) (fun n=>rfl) p.2
 show (allK key1 _).map Sum.inr=_
 simp only[allK,key1,jXz,h]
 rfl) s
theorem kZw {p q:Nat×List Nat} (h:qQt p=qQt q):p=q:=by
 unfold qQt at h
 have h:=Sum.inr.inj h
 have h1:=(List.cons.inj h).1
 have h2:=(List.cons.inj (List.cons.inj h).2).1
 have e1:p.1=q.1:=by have:=Sum.inl.inj (Sum.inl.inj h1);omega
 have e2:p.2=q.2:=List.map_inj_right (f:=fun n:Nat=>(.inl (n:Int):L2.Key)) (fun a b z=>by have:=Sum.inl.inj z;omega) |>.mp (Sum.inr.inj h2)
 exact Prod.ext e1 e2
theorem keyS_iff {s t:WS}:keyS s=keyS t↔s=t:=⟨fun h=>List.map_inj_right (fun _ _=>kZw) |>.mp h,fun h=>by rw[h]⟩
abbrev KvS:=List (L2.TKey×T)
def kvK (K:List WS):KvS:=K.map fun s=>(keyS s,T.bl true)
theorem valT_K {K:List WS} {s:WS}:valT (kvK K) (keyS s)=if s∈K then some (.bl true) else none:=by
 unfold valT kvK
 rw[List.find?_map,show ((fun kv:L2.TKey×T=>decide (kv.1=keyS s))∘fun s:WS=>(keyS s,T.bl true))=fun x=>decide (x=s) from funext fun x=>decide_eq_decide.mpr keyS_iff]
 by_cases h:s∈K
 ·rw[lJc h]
  have:(K.find? fun x=>decide (x=s)).isSome=true:=by rw[List.find?_isSome];exact⟨s,h,by simp⟩
  obtain⟨w,hw⟩:=lVe.mp this
  rw[hw];rfl
 ·rw[lJb h]
  have:K.find? (fun x=>decide (x=s))=none:=by rw[lVl];intro x hx;simp;rintro rfl;exact h hx
  rw[this];rfl
theorem inR_K {G:Gp} {p:Addr} {K:List WS} {s:WS} (h:G p=some (.dct (kvK K))):inR G (encS s) (.ref p)=some (decide (s∈K)):=by
 simp only[inR,encS,seqT,h,asL,dAt,qXj,valT_K]
 by_cases hm:s∈K<;>simp[hm]
theorem setR_K {G:Gp} {p:Addr} {K:List WS} {s:WS} (h:G p=some (.dct (kvK K))) (hm:s∉K) (hl:K.length<sizeLine):setR G (.ref p) (encS s) (.bl true)=some (gup G p (.dct (kvK (K++[s])))):=by
 have hl':(kvK K).length<sizeLine:=by unfold kvK;rw[lJf];exact hl
 have e:putT (kvK K) (keyS s) (.bl true)=kvK (K++[s]):=by
  unfold putT kvK
  rw[lJb,lKr];rfl
  rw[List.any_map,Bool.not_eq_true,List.any_eq_false]
  intro x hx
  simp only[Function.comp_apply,lQg]
  intro z
  exact hm (keyS_iff.mp z▸hx)
 simp only[setR,h,encS,qXj,lJc hl',e]
def encV (x:List Nat×WS):T:= .tup [.tup (jJo x.1),encS x.2]
theorem ok_stp {d:Nat} {W:Web} (ev:EvW d W) {s:WS} (ok:WOk W s) {i:Nat} (hi:i<d):WOk W (stpW W s i):=by
 refine⟨by unfold stpW;rw[lJf];exact ok.len,fun p hp=> ?_⟩
 unfold stpW at hp
 obtain⟨q,hq,rfl⟩:=lJj.mp hp
 obtain⟨x,h1,h2,h3⟩:=qJo ev (ok.at_ q hq).1 hi
 refine⟨by show nxt W q.1 i<_;rw[h3];exact h2,?_⟩
 exact lKd (lXs _ _) (ok.at_ q hq).2
theorem ok_beg {W:Web} (h:W.length<=60):WOk W (begW W.length):=by
 refine⟨by unfold begW;rw[lJf,lKi];exact h,fun p hp=> ?_⟩
 unfold begW at hp
 obtain⟨a,ha,rfl⟩:=lJj.mp hp
 exact⟨lJt.mp ha,lKd (lXs _ _) (by rw[lKi];exact h)⟩
theorem qU2 {d:Nat} {W:Web} (ev:EvW d W):∀k x,x∈(lvl (stpW W) d (begW W.length) k).2->WOk W x.2/\x.1.length=k/\∀i,i∈x.1->i<d
 | 0,x,h=>by
  rw[lJs.mp (show x∈[([],begW W.length)] from h)]
  exact⟨ok_beg (by have:=ev.le;omega),rfl,(fun i z=>nomatch z)⟩
 | k+1,x,h=>by
  rcases (jU7 ((lvl (stpW W) d (begW W.length) k).2.flatMap (kids (stpW W) d)) (lvl (stpW W) d (begW W.length) k).1 []).2.2.2.2 x h with z | z
  ·cases z
  ·obtain⟨u,hu,hx⟩:=lQ9.mp z
   obtain⟨i,hi,rfl⟩:=lJj.mp hx
   have hid:=lJt.mp hi
   obtain⟨a1,a2,a3⟩:=qU2 ev k u hu
   refine⟨ok_stp ev a1 hid,by simp[a2],fun j hj=> ?_⟩
   rcases (lJr.mp hj) with q | q
   ·exact a3 j q
   ·rw[lJs.mp q];exact hid
theorem kK3 {d:Nat} {W:Web} (hd:d<=6):∀k,5*(lvl (stpW W) d (begW W.length) k).1.length+1<=6^(k+1)
 | 0=>lJg _
 | k+1=>by
  have h1:=(jU8 ((lvl (stpW W) d (begW W.length) k).2.flatMap (kids (stpW W) d)) (lvl (stpW W) d (begW W.length) k).1 []).1
  have h2:=kK3 (W:=W) hd k
  rw[jQv] at h1
  have h3:=kUe (st:=stpW W) (d:=d) (begW W.length) k
  have h4:(lvl (stpW W) d (begW W.length) k).2.length*d<=6^(k+1):=by
   rw[lVz]
   exact lYe (lKd h3 (Nat.pow_le_pow_left hd k)) hd
  have h5:6^(k+1+1)=6^(k+1)*6:=lVz ..
  show 5*(List.foldl addK _ _).1.length+1<=_
  omega
def nfD (st:Stmt) (q:Str):NF:=match st with
 | .FunctionDef _ ps b _ _ _ sc _ _ _=>⟨q,ps,.stmts b,sc⟩
 | _=>⟨q,default,.stmts [],default⟩
noncomputable def nfL (st:Stmt) (k:Nat) (q:Str):NF:=match st with
 | .Return (some (.Call _ es _ _)) _=>(match es[k]? with
  | some (.Lambda ps b sc _)=>⟨q,ps,.expr b,sc⟩
  | _=>⟨q,default,.stmts [],default⟩)
 | _=>⟨q,default,.stmts [],default⟩
def st_ls:Stmt:=PySem.Challenge.pw_stonewalker_k46_the_least_walk.main.body.getD 6 (.Pass ⟨0,0,0,0⟩)
def q_ls:Str:=("least_seeing":Str)++".<locals>."
def jKh:NF:=nfD ((L2.defBody st_ls).getD 0 (.Pass ⟨0,0,0,0⟩)) (q_ls++"beyond")
def jJs:NF:=nfL ((L2.defBody st_ls).getD 1 (.Pass ⟨0,0,0,0⟩)) 2 (q_ls++"<lambda>")
def jJz:List (Nat×Nat×Str):=[(30,4,q_ls++"beyond"),(32,47,q_ls++"<lambda>")]
abbrev pS:Addr:=40
def tabs:List (Addr×Addr):=[(44,pS)]
def G0:Gp:=fun b=>if b=pS then some (.tbs jJz) else none
theorem tbs0:G0 pS=some (.tbs jJz):=lJc rfl
theorem g0_rel {K:PySem.W.Frag} {H:L2.Hp} (h:∀b,b∈tabs.map (·.2)->H b=some (.tbl #[])):GRel K H G0:=by
 intro a o e
 unfold G0 at e
 split at e
 ·rename_i z;subst z;cases e
  exact⟨#[],h pS (by decide),.nil⟩
 ·cases e
theorem kt {K:PySem.W.Frag} (a:K.lookup pS=none):∀c,c∈tabs.map (·.2)->K.lookup c=none:=fun c hc=>by
 rw[lJs.mp (show c∈[pS] from hc)];exact a
theorem un2a {l c l' c':Nat} {q1 q2:Str} (h:(l,c)≠(l',c')):∀q,((l,c,q):Nat×Nat×Str)∈[(l,c,q1),(l',c',q2)]->q=q1:=fun q hq=>by
 rcases (lJk.mp hq) with e | hq
 ·exact (lQp (lQp e).2).2
 ·have e:=lQp (lJs.mp hq)
  exact absurd (Prod.ext e.1 (lQp e.2).1) h
theorem un2b {l c l' c':Nat} {q1 q2:Str} (h:(l,c)≠(l',c')):∀q,((l,c,q):Nat×Nat×Str)∈[(l',c',q1),(l,c,q2)]->q=q2:=fun q hq=>by
 rcases (lJk.mp hq) with e | hq
 ·have e:=lQp e
  exact absurd (Prod.ext e.1 (lQp e.2).1) h
 ·exact (lQp (lQp (lJs.mp hq)).2).2
theorem kZj {S:Type} [DecidableEq S] {st:S->Nat->S} {d:Nat} {s0:S} {k:Nat} (h:(lvl st d s0 k).2=[]):∀i,(lvl st d s0 (k+i)).2=[]
 | 0=>h
 | i+1=>by
  show (((lvl st d s0 (k+i)).2.flatMap (kids st d)).foldl addK ((lvl st d s0 (k+i)).1,[])).2=[]
  rw[kZj h i];rfl
noncomputable def jUq:Sp3:=fun xs G Q=>∃(d k:Nat) (W:Web) (ds:List Nat) (fb fl c:Addr),xs=[encS (begW W.length),.ref fb,.ref fl]/\EvW d W/\LeastAt d W k ds/\G fb=some (.fn jKh [("web",c)])/\G fl=some (.fn jJs [])/\G c=some (.cel (encW W))/\∀G',Sub G G'->Q (.tup (jJo ds)) G'
def kUu:List Str:=["begun","beyond","is_there","level","known","further","way","here","door","there"]
noncomputable def jUu:TS3:=
 (tSeq (tAsg (tLst (jJc (tTup (jJc (tTup tNil) (jJc (tVar 0) tNil))) tNil)) (jJg 3))
 (tSeq (tAsg (kJn (tVar 0) (tC (.bl true))) (jJg 4))
 (tSeq (jVr (tTru rTru (tVar 3)) (tSeq (tAsg (tLst tNil) (jJg 5))
 (tSeq (tFor (iSeq (tVar 3)) (gTup 2 (jJ8 (jJg 6) (jJ8 (jJg 7) gNil))) (tSeq (tIfS (jKp (jYm jJs [] jKa (tVar 2) (jJc (tVar 7) tNil))) (tRet (tVar 6)) jU9)
 (tFor (jZd (jJc (jYm jKh ["web"] jVv (tVar 1) (jJc (tVar 7) tNil)) tNil)) (gTup 2 (jJ8 (jJg 8) (jJ8 (jJg 9) gNil))) (tIfS (jKp (tOp jQu (tVar 9) (tVar 4))) (tSeq (tAsg (tC (.bl true)) (gSub (tVar 4) (tVar 9) kJx))
 (jXa (tBM "list" jQo (tVar 5) (jJc (tTup (jJc (tOp kYw (tVar 6) (tTup (jJc (tVar 8) tNil))) (jJc (tVar 9) tNil))) tNil)))) jU9))))
 (tAsg (tVar 5) (jJg 3)))))
 (tRet (tC .non)))))
theorem jXl {d k:Nat} {W:Web} {ds:List Nat} (ls:LeastAt d W k ds) {j:Nat} (hj:j<=k):(lvl (stpW W) d (begW W.length) j).2.find? (fun x=>okW x.2)=(jQc (stpW W) d (begW W.length) j).find? fun x=>okW x.2:=kZk _ ls.none j hj
theorem qQ0 {d k j i:Nat} {W:Web} {ds:List Nat} (ls:LeastAt d W k ds) (hj:j<=k) {x:List Nat×WS} (hx:(lvl (stpW W) d (begW W.length) j).2[i]? =some x) (ho:okW x.2=true) (hn:∀y,y∈(lvl (stpW W) d (begW W.length) j).2.take i->okW y.2=false):x.1=ds:=by
 have hf:(lvl (stpW W) d (begW W.length) j).2.find? (fun x=>okW x.2)=some x:=by
  have e:(lvl (stpW W) d (begW W.length) j).2=(lvl (stpW W) d (begW W.length) j).2.take i++x::(lvl (stpW W) d (begW W.length) j).2.drop (i+1):=by
   obtain⟨h1,h2⟩:=lJq.mp hx
   rw[<-h2,<-lVm h1,lKx]
  rw[e,lYd,lVl.mpr (fun y hy=>by rw[hn y hy];decide),lQc,ho];rfl
 rw[jXl ls hj] at hf
 rcases lQe hj with h | h
 ·rw[ls.none j h] at hf;cases hf
 ·subst h
  obtain⟨s,h2⟩:=ls.one
  rw[h2] at hf;cases hf;rfl
theorem qV9 {d k j:Nat} {W:Web} {ds:List Nat} (ls:LeastAt d W k ds) (hj:j<=k) (hn:∀y,y∈(lvl (stpW W) d (begW W.length) j).2->okW y.2=false):j<k:=by
 rcases lQe hj with h | h
 ·exact h
 ·subst h
  obtain⟨s,h2⟩:=ls.one
  rw[<-jXl ls (lJg _),lVl.mpr (fun y hy=>by rw[hn y hy];decide)] at h2
  cases h2
theorem qKc {G:Gp} {u:List Nat} {j:Nat} {Q:VK3} (h:u.length+1<=sizeLine) (q:Q (.tup (jJo (u++[j]))) G):kYw (.tup (jJo u)) (.tup [.int (j:Nat)]) G Q:=by
 have e:jJo u++[T.int (j:Nat)]=jJo (u++[j]):=by simp[jJo]
 by_cases hl:u=[]
 ·subst hl;exact .inr ⟨_,rfl,rfl,q⟩
 ·refine .inl ⟨.val (.tup (jJo u++[.int (j:Nat)])),?_,?_⟩
  ·simp only[addR]
   rw[lJc ⟨by simp[jJo,hl],by simp[jJo];omega⟩]
  ·rw[e];exact q
noncomputable def jZ5:TS3:=(tSeq (jVr (tTru rTru (tVar 3)) (tSeq (tAsg (tLst tNil) (jJg 5))
 (tSeq (tFor (iSeq (tVar 3)) (gTup 2 (jJ8 (jJg 6) (jJ8 (jJg 7) gNil))) (tSeq (tIfS (jKp (jYm jJs [] jKa (tVar 2) (jJc (tVar 7) tNil))) (tRet (tVar 6)) jU9)
 (tFor (jZd (jJc (jYm jKh ["web"] jVv (tVar 1) (jJc (tVar 7) tNil)) tNil)) (gTup 2 (jJ8 (jJg 8) (jJ8 (jJg 9) gNil))) (tIfS (jKp (tOp jQu (tVar 9) (tVar 4))) (tSeq (tAsg (tC (.bl true)) (gSub (tVar 4) (tVar 9) kJx))
 (jXa (tBM "list" jQo (tVar 5) (jJc (tTup (jJc (tOp kYw (tVar 6) (tTup (jJc (tVar 8) tNil))) (jJc (tVar 9) tNil))) tNil)))) jU9))))
 (tAsg (tVar 5) (jJg 3)))))
 (tRet (tC .non)))
theorem qK5:jUu=tSeq (tAsg (tLst (jJc (tTup (jJc (tTup tNil) (jJc (tVar 0) tNil))) tNil)) (jJg 3)) (tSeq (tAsg (kJn (tVar 0) (tC (.bl true))) (jJg 4)) jZ5):=rfl
structure LW (G0 G:Gp) (W:Web) (d k:Nat) (lv kn:Addr):Prop where
 hl:G lv=some (.lst ((lvl (stpW W) d (begW W.length) k).2.map encV))
 hk:G kn=some (.dct (kvK (lvl (stpW W) d (begW W.length) k).1))
 sub:Sub G0 G
 k0:G0 kn=none
 l0:G0 lv=none
structure AC (G0 G:Gp) (LV:List (List Nat×WS)) (lv kn fu:Addr) (a:List WS×List (List Nat×WS)):Prop where
 hl:G lv=some (.lst (LV.map encV))
 hk:G kn=some (.dct (kvK a.1))
 hf:G fu=some (.lst (a.2.map encV))
 sub:Sub G0 G
theorem jZr:RdOk jUq jUu kUu:=by
 intro xs G Q h_;apply xe7 h_;clear h_;intro d k0 W ds fb fl c h_;apply ae6 h_;clear h_;intro ev ls hfb hfl hc kk
 show jUu _ [some (.tup ((begW W.length).map encK)),some (.ref fb),some (.ref fl),none,none,none,none,none,none,none] G
 have hs:=sz
 wp_walk using 1,qK5,kJn,qXj
 refine⟨by omega,by omega,by omega,fun p hp p1 hp1=> ?_⟩
 have hpp:p≠p1:=jJi jJd hp1
 have hp1':G p1=none:=by rw[jJp (Ne.symm hpp)] at hp1;exact hp1
 have L0:LW G (gup (gup G p (.lst [.tup [.tup [],.tup ((begW W.length).map encK)]])) p1 (.dct [(keyS (begW W.length),.bl true)])) W d 0 p p1:=by
  refine⟨by rw[jJp hpp,jJd];rfl,jJd,(Sub.new hp).trans (.new hp1),hp1',hp⟩
 generalize gup (gup G p (.lst [.tup [.tup [],.tup ((begW W.length).map encK)]])) p1 (.dct [(keyS (begW W.length),.bl true)])=G1 at L0 ⊢
 wp_walk using 1,jZ5,jVr
 let J:Nat->St3->Gp->Prop:=fun m τ G'=>∃(k:Nat) (lv:Addr) (v5 v6 v7 v8 v9:Option T),τ=[some (.tup ((begW W.length).map encK)),some (.ref fb),some (.ref fl),some (.ref lv),some (.ref p1),v5,v6,v7,v8,v9]/\m+k=9/\k<=k0/\LW G G' W d k lv p1
 refine⟨J,⟨9,0,p,none,none,none,none,none,rfl,rfl,lJ6 _,L0⟩,?_⟩
 intro m τ G2 h_;apply xe7 h_;clear h_;intro k lv v5 v6 v7 v8 v9 h_;apply ae3 h_;clear h_;intro hm hk L
 have hk8:=ls.k8
 wp_walk using 1,L.hl
 by_cases he:(lvl (stpW W) d (begW W.length) k).2=[]
 ·exfalso
  have h0:=kZj he (k0-k)
  rw[show k+(k0-k)=k0 by omega] at h0
  obtain⟨z,hz⟩:=ls.one
  rw[<-jXl ls (lJg _),h0] at hz
  cases hz
 rw[lJc (by simp[he])]
 refine⟨fun τ' G'=>J (m-1) τ' G',fun τ' G' h=>⟨m-1,by omega,h⟩,by omega,fun fu hfu=> ?_⟩
 have lf:lv≠fu:=jJi L.hl hfu
 have kf:p1≠fu:=jJi L.hk hfu
 have l1:lv≠p1:=fun e=>by have h1:=L.hl;rw[e,L.hk] at h1;cases h1
 have fu0:G fu=none:=L.sub.none hfu
 wp_walk using 1,jKq,iSeq,jJp lf,L.hl
 have hfb':∀ {G':Gp},Sub G G'->G' fb=some (.fn jKh [("web",c)]):=fun {G'} s=>s _ _ hfb
 have hkl:=kK3 (W:=W) (d:=d) ev.d6
 generalize hLV:(lvl (stpW W) d (begW W.length) k).2=LV at he
 have hLl:LV.length<=6^k:=by rw[<-hLV];exact lKd (kUe _ k) (Nat.pow_le_pow_left ev.d6 k)
 have h68:6^k<=6^8:=lYz (by decide) (by omega)
 have okL:∀x,x∈LV->WOk W x.2/\x.1.length=k/\∀i,i∈x.1->i<d:=fun x hx=>qU2 ev k x (hLV▸hx)
 refine⟨_,jJh (by rw[jJp lf,L.hl,hLV]),?_⟩
 let J1:Nat->St3->Gp->Prop:=fun j τ G'=>∃(v6 v7 v8 v9:Option T),τ=[some (.tup ((begW W.length).map encK)),some (.ref fb),some (.ref fl),some (.ref lv),some (.ref p1),some (.ref fu),v6,v7,v8,v9]/\AC G G' LV lv p1 fu (((LV.take j).flatMap (kids (stpW W) d)).foldl addK ((lvl (stpW W) d (begW W.length) k).1,[]))/\∀y,y∈LV.take j->okW y.2=false
 refine⟨J1,?_,?_,?_,?_⟩
 ·refine⟨v6,v7,v8,v9,rfl,⟨by rw[jJp lf,L.hl,hLV],by rw[jJp kf,L.hk];rfl,jJd,L.sub.over fu0⟩,(fun y hy=>nomatch hy)⟩
 ·intro j τ G' hi h_;apply xe4 h_;clear h_;intro v6 v7 v8 v9 h_;apply ae2 h_;clear h_;intro A hno
  exact jJh A.hl
 ·intro j y τ G3 hy h_;apply xe4 h_;clear h_;intro v6 v7 v8 v9 h_;apply ae2 h_;clear h_;intro A hno
  obtain⟨u,hu,rfl⟩:=jKk hy
  obtain⟨w,s⟩:=u
  obtain⟨wok,wl,wd⟩:=okL _ (lJx hu)
  wp_walk using 1,encV,jYm
  refine⟨[],A.sub _ _ hfl,A.sub _ _ hfl,[],.nil,s,rfl,wok.len,fun G4 s4=>⟨_,rfl,?_⟩⟩
  by_cases ho:okW s=true
  ·rw[lJc ho]
   have e:w=ds:=qQ0 (x:=(w,s)) (i:=j) ls hk (by rw[hLV];exact hu) ho (by rw[hLV];exact hno)
   rw[e]
   exact kk _ (A.sub.trans s4)
  rw[lJb ho]
  wp_walk using 1,jKq,jZd,jYm,(A.sub.trans s4) _ _ hfb,(A.sub.trans s4) _ _ hc
  refine⟨[("web",c)],rfl,rfl,[encW W],.cons ((A.sub.trans s4) _ _ hc) (by simp) .nil,d,W,s,rfl,ev,wok,fun q G5 hq hq5 s5=>⟨(List.range d).map fun i=>encS (stpW W s i),by simp only[jKt,hq5,asL],?_⟩⟩
  have s35:=s4.trans s5
  have AC5:AC G G5 LV lv p1 fu (((LV.take j).flatMap (kids (stpW W) d)).foldl addK ((lvl (stpW W) d (begW W.length) k).1,[])):=⟨s35 _ _ A.hl,s35 _ _ A.hk,s35 _ _ A.hf,A.sub.trans s35⟩
  generalize hAA:((LV.take j).flatMap (kids (stpW W) d)).foldl addK ((lvl (stpW W) d (begW W.length) k).1,[])=AA at AC5
  have qp:q≠p1:=(jJi (s4 _ _ A.hk) hq).symm
  have qf:q≠fu:=(jJi (s4 _ _ A.hf) hq).symm
  have len0:5*AA.1.length<=6^(k+1)+5*6^(k+1)/\AA.2.length<=6^(k+1):=by
   have h1:=jU8 ((LV.take j).flatMap (kids (stpW W) d)) (lvl (stpW W) d (begW W.length) k).1 []
   rw[hAA,jQv] at h1
   have h2:(LV.take j).length*d<=6^(k+1):=by
    rw[lVz]
    exact lYe (lKd (by rw[lK1];omega) hLl) ev.d6
   have h3:=hkl k
   (simp only[lQa] at h1)
   omega
  have h69:6^(k+1)<=6^9:=lYz (by decide) (by omega)
  let J2:Nat->St3->Gp->Prop:=fun i τ G'=>∃(v8 v9:Option T),τ=[some (.tup ((begW W.length).map encK)),some (.ref fb),some (.ref fl),some (.ref lv),some (.ref p1),some (.ref fu),some (.tup (jJo w)),some (encS s),v8,v9]/\AC G G' LV lv p1 fu (((kids (stpW W) d (w,s)).take i).foldl addK AA)/\G' q=some (.lst ((List.range d).map fun i=>encS (stpW W s i)))
  have d6:=ev.d6
  refine⟨J2,?_,?_,?_,?_⟩
  ·exact⟨v8,v9,rfl,AC5,hq5⟩
  ·intro i τ G' hi h_;apply xe2 h_;clear h_;intro v8 v9 h_;apply ae2 h_;clear h_;intro B hB
   simp only[jKt,hB,asL]
  ·intro i y τ G6 hy h_;apply xe2 h_;clear h_;intro v8 v9 h_;apply ae2 h_;clear h_;intro B hB
   obtain⟨z,hz,rfl⟩:=kZe hy
   obtain⟨i',hi',rfl⟩:=jKk hz
   obtain⟨hil,hie⟩:=lJq.mp hi'
   rw[lKi] at hil
   rw[lYx] at hie
   subst hie
   have hkid:(kids (stpW W) d (w,s))[i]? =some (w++[i],stpW W s i):=by
    unfold kids
    rw[lJz,lVk hil];rfl
   have tk:(kids (stpW W) d (w,s)).take (i+1)=(kids (stpW W) d (w,s)).take i++[(w++[i],stpW W s i)]:=by rw[lK3,hkid];rfl
   have lenB:=jU8 ((kids (stpW W) d (w,s)).take i) AA.1 AA.2
   have lt:((kids (stpW W) d (w,s)).take i).length<=i:=by rw[lK1];omega
   generalize hBB:((kids (stpW W) d (w,s)).take i).foldl addK AA=BB at B
   rw[show ((AA.1,AA.2):List WS×List (List Nat×WS))=AA from rfl,hBB] at lenB
   wp_walk using 1,jQu
   refine⟨_,inR_K B.hk,?_⟩
   by_cases hm:stpW W s i∈BB.1
   ·rw[lJb (by simp[hm])]
    refine⟨_,_,rfl,?_,hB⟩
    rw[tk,lQ8,hBB]
    show AC G G6 LV lv p1 fu (addK BB _)
    unfold addK
    rw[lJc hm]
    exact B
   ·rw[lJc (by simp[hm])]
    have h2l:BB.2.length<sizeLine:=by omega
    have e1:gup G6 p1 (.dct (kvK (BB.1++[stpW W s i]))) fu=some (.lst (BB.2.map encV)):=by rw[jJp kf.symm];exact B.hf
    refine⟨_,setR_K B.hk hm (by omega),by rw[jK2 e1];trivial,by omega,qKc (by rw[hs];have:w.length=k:=wl;omega) ⟨by omega,_,e1,by rw[lJf];exact h2l,?_⟩⟩
    refine⟨_,_,rfl,?_,by rw[jJp qf,jJp qp];exact hB⟩
    rw[tk,lQ8,hBB]
    show AC G _ LV lv p1 fu (addK BB _)
    unfold addK
    rw[lJb hm]
    refine⟨by rw[jJp lf,jJp l1];exact B.hl,by rw[jJp kf,jJd],by rw[jJd,lKr];rfl,(B.sub.over hp1').over fu0⟩
  ·intro τ G6 h_;apply xe2 h_;clear h_;intro v8 v9 h_;apply ae2 h_;clear h_;intro B hB
   wp_walk using 1,tSeq
   have kl:(kids (stpW W) d (w,s)).length=d:=by simp[kids]
   rw[jKx,lJf,lKi,lQd (by omega)] at B
   have tkj:LV.take (j+1)=LV.take j++[(w,s)]:=by rw[lK3,hu];rfl
   refine⟨_,_,_,_,rfl,?_,fun y hy=> ?_⟩
   ·rw[tkj,lV4,lQ8,hAA]
    rw[show [(w,s)].flatMap (kids (stpW W) d)=kids (stpW W) d (w,s) by simp]
    exact B
   ·rw[tkj] at hy
    rcases (lJr.mp hy) with z | z
    ·exact hno y z
    ·rw[lJs.mp z];simpa using ho
 ·intro τ G3 h_;apply xe4 h_;clear h_;intro v6 v7 v8 v9 h_;apply ae2 h_;clear h_;intro A hno
  rw[lJf,lQo] at A hno
  wp_walk using 1,tSeq
  have hlt:=qV9 ls hk (by rw[hLV];exact hno)
  refine⟨k+1,fu,_,v6,v7,v8,v9,rfl,by omega,by omega,⟨?_,?_,A.sub,hp1',fu0⟩⟩
  ·rw[A.hf,<-hLV];rfl
  ·rw[A.hk,<-hLV];rfl
def jXw (W:Web) (r:Nat) (ds:List Nat) (k:Nat):List Nat:=(List.range (k+1)).map fun j=>posN W r (ds.take j)
theorem kXe {W:Web} {r k:Nat} {ds:List Nat}:jXw W r ds (k+1)=jXw W r ds k++[posN W r (ds.take (k+1))]:=by unfold jXw;rw[lXl,lKr];rfl
theorem seen_mem {W:Web} {r b:Nat} {ds:List Nat}:b∈jXw W r ds ds.length↔visB W r ds b=true:=by
 unfold jXw visB
 rw[lJj,lQ7]
 constructor
 ·rintro⟨j,hj,rfl⟩;exact⟨j,hj,beq_self_eq_true _⟩
 ·rintro⟨j,hj,h⟩;exact⟨j,hj,eq_of_beq h⟩
theorem qUs {d:Nat} {W:Web} (ev:EvW d W) {r b:Nat} (hr:r<W.length) {ds:List Nat} (hd:∀i,i∈ds->i<d) (h:visB W r ds b=true):b<W.length:=by
 unfold visB at h
 obtain⟨j,_,hj⟩:=lQ7.mp h
 rw[<-eq_of_beq hj]
 exact kYz ev hr _ fun i hi=>hd i (lQk hi)
noncomputable def jQj:Sp3:=fun xs G Q=>∃(d:Nat) (W:Web) (r:Nat) (ds:List Nat),xs=[encW W,.int (r:Nat),.tup (jJo ds)]/\EvW d W/\r<W.length/\ds.length<=60/\(∀i,i∈ds->i<d)/\∀q (ys:List Int) G',ys.Nodup->(∀z,z∈ys↔∃b:Nat,z=b/\visB W r ds b=true)->G' q=some (.lst (ys.map T.int))->Sub G G'->Q (.ref q) G'
def jZx:List Str:=["_law_web","_law_room","_law_way","_law_found","_law_door"]
noncomputable def jQn:TS3:=
 (tSeq (tAsg (tLst (jJc (tVar 1) tNil)) (jJg 3))
 (tSeq (tFor (iSeq (tVar 2)) (jJg 4) (tSeq (tAsg (tOp rIxF (tOp rIxF (tOp rIxF (tVar 0) (tVar 1)) (tVar 4)) (tC (.int 0))) (jJg 1))
 (jXa (tBM "list" jQo (tVar 3) (jJc (tVar 1) tNil)))))
 (tRet (kYc (jJc (tVar 3) tNil)))))
theorem jXg:RdOk jQj jQn jZx:=by
 intro xs G Q h_;apply xe4 h_;clear h_;intro d W r ds h_;apply ae5 h_;clear h_;intro ev hr hl hd kk
 show jQn _ [some (.tup (W.map encR)),some (.int r),some (.tup (jJo ds)),none,none] G
 have hs:=sz
 wp_walk using 1,jQn,jKq,iSeq
 refine⟨by omega,fun q hq=> ?_⟩
 let J1:Nat->St3->Gp->Prop:=fun i τ G'=>∃(v4:Option T),τ=[some (.tup (W.map encR)),some (.int (posN W r (ds.take i):Nat)),some (.tup (jJo ds)),some (.ref q),v4]/\G' q=some (.lst (jJo (jXw W r ds i)))/\Sub G G'
 have dt:∀i,∀j,j∈ds.take i->j<d:=fun i j hj=>hd j (lQk hj)
 refine⟨J1,?_,?_,?_,?_⟩
 ·exact⟨none,rfl,jJd,.new hq⟩
 ·intro i τ G' hi h_;apply xe1 h_;clear h_;intro v4 h_;apply ae2 h_;clear h_;intro h2 h3
  trivial
 ·intro i y τ G1 hy h_;apply xe1 h_;clear h_;intro v4 h_;apply ae2 h_;clear h_;intro h2 h3
  obtain⟨o,ho,rfl⟩:=jKk hy
  have hi:i<ds.length:=(lJq.mp ho).1
  have b1:=kYz ev hr (ds.take i) (dt i)
  obtain⟨row,hrow,hen⟩:=jXt b1
  obtain⟨x,hx,hx2,hx3⟩:=qJo ev b1 (hd o (lJx ho))
  have hed:row[o]? =some x:=by rw[<-hen o];exact hx
  have heR:=qJn hed
  have tk:ds.take (i+1)=ds.take i++[o]:=by rw[lK3,ho];rfl
  have pn:posN W r (ds.take (i+1))=x.1:=by rw[tk,jQ4,hx3]
  have sl:(jXw W r ds i).length=i+1:=by simp[jXw]
  wp_walk using 1,jXq hrow,encR,heR,encE,jK2 h2,h2
  refine⟨by rw[jJo,lJf,sl];omega,⟨_,by rw[pn],?_,h3.over hq⟩⟩
  rw[jJd,kXe,pn];simp[jJo]
 ·intro τ G1 h_;apply xe1 h_;clear h_;intro v4 h_;apply ae2 h_;clear h_;intro h2 h3
  rw[show (jJo ds).length=ds.length by rw[jJo,lJf]] at h2
  have sl:(jXw W r ds ds.length).length=ds.length+1:=by simp[jXw]
  have e:jJo (jXw W r ds ds.length)=((jXw W r ds ds.length).map fun n:Nat=>(n:Int)).map T.int:=by rw[jJo,lJ4];rfl
  have hW:=ev.le
  wp_walk using 1,kYc
  refine⟨_,by simp only[jKt,h2,asL];rw[e],by rw[lJf,sl];omega,⟨(List.range W.length).map fun n:Nat=>(n:Int),by rw[lJf,lKi];omega,fun z hz=> ?_⟩,fun p2 ys hp2 hn hm=>kk p2 ys _ hn (fun z=> ?_) jJd (h3.trans (.new hp2))⟩
  ·obtain⟨n,hn,rfl⟩:=lJj.mp hz
   exact lJj.mpr ⟨n,lJt.mpr (qUs ev hr hd (seen_mem.mp hn)),rfl⟩
  ·rw[hm z,lJj]
   constructor
   ·rintro⟨b,hb,rfl⟩;exact⟨b,rfl,seen_mem.mp hb⟩
   ·rintro⟨b,rfl,hb⟩;exact⟨b,seen_mem.mpr hb,rfl⟩
theorem qKz {d:Nat} {W:Web} (ev:EvW d W) {r:Nat} (hr:r<W.length) {ds:List Nat} (hd:∀i,i∈ds->i<d) {ys:List Int} (hn:ys.Nodup) (hm:∀z,z∈ys↔∃b:Nat,z=b/\visB W r ds b=true):ys.length=W.length↔∀b,b<W.length->visB W r ds b=true:=by
 have p:ys.Perm (((List.range W.length).filter (visB W r ds)).map fun n:Nat=>(n:Int)):=(List.perm_ext_iff_of_nodup hn (by
  rw[List.nodup_iff_pairwise_ne,lXm]
  exact (List.nodup_iff_pairwise_ne.mp (lXk.filter _)).imp fun h z=>h (by omega))).mpr fun z=>by
   rw[hm z,lJj]
   constructor
   ·rintro⟨b,rfl,hb⟩;exact⟨b,lVv.mpr ⟨lJt.mpr (qUs ev hr hd hb),hb⟩,rfl⟩
   ·rintro⟨b,hb,rfl⟩;exact⟨b,rfl,(lVv.mp hb).2⟩
 have e:=p.length_eq
 rw[lJf] at e
 have h:=List.length_filter_eq_length_iff (p:=visB W r ds) (l:=List.range W.length)
 rw[lKi] at h
 rw[e,h]
 exact⟨fun z b hb=>z b (lJt.mpr hb),fun z b hb=>z b (lJt.mp hb)⟩
theorem kV3 {α:Type} (f:α->Bool):∀l:List α,kKh (l.map fun a=>T.bl (f a))=some (l.all f)
 | []=>rfl
 | a::l=>by
  rw[lJo,lQv]
  unfold kKh
  rw[kV3 f l]
noncomputable def jYo:Sp3:=fun xs G Q=>∃(d:Nat) (W:Web) (ds:List Nat),xs=[encW W,.tup (jJo ds)]/\EvW d W/\ds.length<=60/\(∀i,i∈ds->i<d)/\∀G',Sub G G'->Q (.bl (okW (ds.foldl (stpW W) (begW W.length)))) G'
def qUj:List Str:=["_law_web","_law_way","_law_room"]
noncomputable def jYw:TS3:=
 (tRet (tCB rAll (jJc (jKn [false,false,true] (jUf (jJc (tCB rLen (jJc (tVar 0) tNil)) tNil)) (jJg 2) jK4 (tOp rEqA (tCB rLen (jJc (jK0 jQj (jJc (tVar 0) (jJc (tVar 2) (jJc (tVar 1) tNil)))) tNil)) (tCB rLen (jJc (tVar 0) tNil)))) tNil)))
theorem kQ5:RdOk jYo jYw qUj:=by
 intro xs G Q h_;apply xe3 h_;clear h_;intro d W ds h_;apply ae4 h_;clear h_;intro ev hl hd kk
 show jYw _ [some (.tup (W.map encR)),some (.tup (jJo ds)),none] G
 have hs:=sz
 have hW:=ev.le
 wp_walk using 1,jYw,jUf,List.length_map
 refine⟨by omega,by omega,?_⟩
 rw[show ((W.length:Nat):Int).toNat=W.length by omega,jKz]
 refine jJ5 (es:=List.range W.length) (enc:=fun k:Nat=>T.int k) (fun r=>T.bl (decide (∀b,b<W.length->visB W r ds b=true))) (by simp;omega) (fun _ _=>trivial) ?_ ?_
 ·intro i r hr G' K K0 s hK
  have hrW:r<W.length:=by have:=lJx hr;simpa using this
  wp_walk using 1,rEqA
  refine⟨d,W,r,ds,rfl,ev,hrW,hl,hd,fun q ys G2 hn hm hq s2=> ?_⟩
  refine⟨ys.map T.int,jJh hq,_,qJk,?_⟩
  have e:decide ((ys.map T.int).length=(W.map encR).length)=decide (∀b,b<W.length->visB W r ds b=true):=by
   rw[lJf,lJf]
   exact decide_eq_decide.mpr (qKz ev hrW hd hn hm)
  rw[e]
  exact hK _ s2
 ·intro D G2 hD h2 s2
  refine⟨D,_,_,rfl,h2,kV3 _ _,?_⟩
  have e:((List.range W.length).all fun r=>decide (∀b,b<W.length->visB W r ds b=true))=okW (ds.foldl (stpW W) (begW W.length)):=by
   rw[Bool.eq_iff_iff,ok_sees,lKk]
   exact⟨fun h a b ha hb=>lYh (h a (lJt.mpr ha)) b hb,fun h a ha=>lJ5 fun b hb=>h a b (lJt.mp ha) hb⟩
  rw[e]
  exact kk G2 s2
def eW (x:List Nat×WS):T:= .tup (jJo x.1)
theorem qX0 {α:Type} {p:α->Bool} {l:List α} {i:Nat} {x:α} (hx:l[i]? =some x) (ho:p x=true) (hn:∀y,y∈l.take i->p y=false):l.find? p=some x:=by
 have e:l=l.take i++x::l.drop (i+1):=by
  obtain⟨h1,h2⟩:=lJq.mp hx
  rw[<-h2,<-lVm h1,lKx]
 rw[e,lYd,lVl.mpr (fun y hy=>by rw[hn y hy];decide),lQc,ho];rfl
def jXc:Sp3:=fun xs G Q=>∃(d k:Nat) (W:Web) (ds:List Nat),xs=[encW W]/\EvW d W/\LeastAt d W k ds/\∀G',Sub G G'->Q (.tup (jJo ds)) G'
def qKg:List Str:=["_law_web","_law_row","_law_way","_law_longer","_law_door"]
noncomputable def jXj:TS3:=
 (tSeq (tAsg (tLst (jJc (tTup tNil) tNil)) (jJg 1))
 (jVr (jKp (tC (.bl true))) (tSeq (tFor (iSeq (tVar 1)) (jJg 2) (tIfS (jKp (jK0 jYo (jJc (tVar 0) (jJc (tVar 2) tNil)))) (tRet (tVar 2)) jU9))
 (tSeq (tAsg (tLst tNil) (jJg 3))
 (tSeq (tFor (iSeq (tVar 1)) (jJg 2) (jXa (tBM "list" jY0 (tVar 3) (jJc (jKn [false,false,false,false,true] (jUf (jJc (tCB rLen (jJc (tOp rIxF (tVar 0) (tC (.int 0))) tNil)) tNil)) (jJg 4) jK4 (tOp kYw (tVar 2) (tTup (jJc (tVar 4) tNil)))) tNil))))
 (tAsg (tVar 3) (jJg 1)))))))
theorem kKr:RdOk jXc jXj qKg:=by
 intro xs G Q h_;apply xe4 h_;clear h_;intro d k0 W ds h_;apply ae3 h_;clear h_;intro ev ls kk
 show jXj _ [some (.tup (W.map encR)),none,none,none,none] G
 have hs:=sz
 have hk8:=ls.k8
 have hd6:=ev.d6
 obtain⟨row,hrow,_⟩:=jXt (W:=W) (r:=0) (by have:=ev.pos;omega)
 have hrl:=ev.row 0 row hrow
 have h0:=jXq hrow
 wp_walk using 1,jXj,jVr
 refine⟨by omega,by omega,fun p hp=> ?_⟩
 let J:Nat->St3->Gp->Prop:=fun m τ G'=>∃(k:Nat) (rw:Addr) (v2 v3 v4:Option T),τ=[some (.tup (W.map encR)),some (.ref rw),v2,v3,v4]/\m+k=9/\k<=k0/\G' rw=some (.lst ((jQc (stpW W) d (begW W.length) k).map eW))/\Sub G G'
 refine⟨J,⟨9,0,p,none,none,none,rfl,rfl,lJ6 _,jJd,.new hp⟩,?_⟩
 intro m τ G2 h_;apply xe5 h_;clear h_;intro k rw' v2 v3 v4 h_;apply ae4 h_;clear h_;intro hm hk h1 h2
 generalize hL:jQc (stpW W) d (begW W.length) k=L at h1
 have hLl:L.length<=6^k:=by rw[<-hL,kVv];exact Nat.pow_le_pow_left hd6 k
 have h68:6^k<=6^8:=lYz (by decide) (by omega)
 have okL:∀x,x∈L->x.1.length=k/\(∀i,i∈x.1->i<d)/\x.2=x.1.foldl (stpW W) (begW W.length):=fun x hx=>(jU3 k x).mp (hL▸hx)
 refine⟨fun τ' G'=>J (m-1) τ' G',fun τ' G' h=>⟨m-1,by omega,h⟩,?_⟩
 wp_walk using 1,jKq,iSeq
 refine⟨_,jJh h1,?_⟩
 let J1:Nat->St3->Gp->Prop:=fun j τ G'=>∃(v2:Option T),τ=[some (.tup (W.map encR)),some (.ref rw'),v2,v3,v4]/\G' rw'=some (.lst (L.map eW))/\Sub G G'/\∀y,y∈L.take j->okW y.2=false
 refine⟨J1,?_,?_,?_,?_⟩
 ·exact⟨v2,rfl,h1,h2,fun y hy=>nomatch hy⟩
 ·intro i τ G' hi h_;apply xe1 h_;clear h_;intro v2 h_;apply ae3 h_;clear h_;intro q1 q2 q3
  exact jJh q1
 ·intro i y τ G3 hy h_;apply xe1 h_;clear h_;intro v2 h_;apply ae3 h_;clear h_;intro q1 q2 q3
  obtain⟨x,hx,rfl⟩:=jKk hy
  obtain⟨o1,o2,o3⟩:=okL x (lJx hx)
  have tk:L.take (i+1)=L.take i++[x]:=by rw[lK3,hx];rfl
  wp_walk using 1,eW
  refine⟨d,W,x.1,rfl,ev,by omega,o2,fun G4 s4=> ?_⟩
  rw[<-o3]
  refine⟨_,rfl,?_⟩
  by_cases ho:okW x.2=true
  ·rw[lJc ho]
   have hf:=qX0 (p:=fun x:List Nat×WS=>okW x.2) hx ho q3
   have e:x.1=ds:=by
    rw[<-hL] at hf
    rcases lQe hk with h | h
    ·rw[ls.none k h] at hf;cases hf
    ·subst h
     obtain⟨s,h2⟩:=ls.one
     rw[h2] at hf;cases hf;rfl
   rw[e]
   exact kk _ (q2.trans s4)
  ·rw[lJb ho]
   refine⟨_,rfl,s4 _ _ q1,q2.trans s4,fun y hy=> ?_⟩
   rw[tk] at hy
   rcases (lJr.mp hy) with z | z
   ·exact q3 y z
   ·rw[lJs.mp z];simpa using ho
 ·intro τ G3 h_;apply xe1 h_;clear h_;intro v2 h_;apply ae3 h_;clear h_;intro q1 q2 q3
  rw[lJf,lQo] at q3
  have hlt:k<k0:=by
   rcases lQe hk with h | h
   ·exact h
   ·subst h
    obtain⟨s,h2⟩:=ls.one
    rw[hL,lVl.mpr (fun y hy=>by rw[q3 y hy];decide)] at h2
    cases h2
  have h69:6^(k+1)<=6^8:=lYz (by decide) (by omega)
  have hlk:(L.flatMap (kids (stpW W) d)).length<=6^8:=by
   rw[jQv]
   refine lKd ?_ h69
   rw[lVz]
   exact lYe hLl hd6
  wp_walk using 1,jKq,iSeq
  refine⟨by omega,fun lo hlo=> ?_⟩
  have rl:rw'≠lo:=jJi q1 hlo
  refine⟨_,jJh (by rw[jJp rl];exact q1),?_⟩
  have lo0:G lo=none:=q2.none hlo
  let J2:Nat->St3->Gp->Prop:=fun j τ G'=>∃(v2:Option T),τ=[some (.tup (W.map encR)),some (.ref rw'),v2,some (.ref lo),v4]/\G' rw'=some (.lst (L.map eW))/\Sub G G'/\G' lo=some (.lst (((L.take j).flatMap (kids (stpW W) d)).map eW))
  refine⟨J2,?_,?_,?_,?_⟩
  ·exact⟨v2,rfl,by rw[jJp rl];exact q1,q2.over lo0,jJd⟩
  ·intro i τ G' hi h_;apply xe1 h_;clear h_;intro v2 h_;apply ae3 h_;clear h_;intro z1 z2 z3
   exact jJh z1
  ·intro i y τ G4 hy h_;apply xe1 h_;clear h_;intro v2 h_;apply ae3 h_;clear h_;intro z1 z2 z3
   obtain⟨x,hx,rfl⟩:=jKk hy
   obtain⟨o1,o2,o3⟩:=okL x (lJx hx)
   have tk:L.take (i+1)=L.take i++[x]:=by rw[lK3,hx];rfl
   wp_walk using 1,eW,jK2 z3,jUf
   refine⟨_,h0,_,rfl,by simp,by simp;omega,?_⟩
   rw[show ((row.map encE).length:Int).toNat=d by rw[lJf,hrl,lXg],jKz]
   refine jJ5 (es:=List.range d) (enc:=fun k:Nat=>T.int k) (fun i=>eW (x.1++[i],stpW W x.2 i)) (by simp;omega) (fun _ _=>trivial) ?_ ?_
   ·intro j i' hi' G' K K0 s1 hK
    wp_walk using 1,tSeq
    exact⟨by omega,qKc (by omega) (hK G' (.refl _))⟩
   ·intro D G5 hD h5 s5
    have hp1:((L.take (i+1)).flatMap (kids (stpW W) d)).length<=6^8:=by
     refine lKd ?_ hlk
     rw[jQv,jQv,lK1]
     exact Nat.mul_le_mul_right _ (Nat.min_le_right ..)
    rw[tk,lV4,lKb,List.flatMap_singleton] at hp1
    have kl:(kids (stpW W) d x).length=d:=by simp[kids]
    refine⟨lo,D,_,_,rfl,rfl,s5 _ _ z3,h5,by rw[lJf,lJf,lKi];omega,?_⟩
    refine⟨_,rfl,by rw[jJp rl];exact s5 _ _ z1,(z2.trans s5).over lo0,?_⟩
    rw[jJd,tk,lV4,lKr,List.flatMap_singleton]
    unfold kids
    rw[lJ4];rfl
  ·intro τ G4 h_;apply xe1 h_;clear h_;intro v2 h_;apply ae3 h_;clear h_;intro z1 z2 z3
   rw[lJf,lQo] at z3
   wp_walk using 1,tSeq
   refine⟨k+1,lo,_,_,_,rfl,by omega,by omega,?_,z2⟩
   rw[z3,<-hL];rfl
theorem kXu {l:List Nat} {k:Nat}:(jJo l).eraseIdx k=jJo (l.eraseIdx k):=by
 unfold jJo
 rw[lYc,lYc,lKr,lXp,List.map_drop]
noncomputable def jQ9:Sp3:=fun xs G Q=>∃(d:Nat) (b:Addr) (n:Nat) (V:Web),xs=[.ref b,encW V]/\EvW d V/\BoxAt G b n/\n<2^30/\∀(p:List Nat) G',Prm V.length p->Keep b G G'->Q (encW (numW V p)) G'
def kQp:List Str:=["_law_box_here","_law_web","_law_left","_law_places","_law_ends","_law_room","_law_other","_law_door","_law_k"]
noncomputable def jUb:TS3:=
 (tSeq (tAsg (jQ2 (jJc (tCB rLen (jJc (tVar 1) tNil)) tNil)) (jJg 2))
 (tSeq (tAsg (jKn [false,false,false,false,false,true,false,false,false] (iSeq (tVar 1)) (jJg 5) jK4 (tBM "list" rPopN (tVar 2) (jJc (jK0 jUr (jJc (tVar 0) (jJc (tCB rLen (jJc (tVar 2) tNil)) tNil))) tNil))) (jJg 3))
 (tSeq (tAsg (jKn [false,false,false,false,false,true,false,false,false] (iSeq (tVar 1)) (jJg 5) jK4 (tCB jKe (jJc (jKn [false,false,false,false,false,false,true,true,false] (iSeq (tVar 5)) (gTup 2 (jJ8 (jJg 6) (jJ8 (jJg 7) gNil))) jK4 (tTup (jJc (tOp rIxF (tVar 3) (tVar 6)) (jJc (tVar 7) tNil)))) tNil))) (jJg 4))
 (tRet (tCB jKe (jJc (jKn [false,false,false,false,false,false,false,false,true] (jUf (jJc (tCB rLen (jJc (tVar 1) tNil)) tNil)) (jJg 8) jK4 (tOp rIxF (tVar 4) (tBM "list" qUv (tVar 3) (jJc (tVar 8) tNil)))) tNil))))))
theorem jYt:RdOk jQ9 jUb kQp:=by
 intro xs G Q h_;apply xe4 h_;clear h_;intro d b n V h_;apply ae4 h_;clear h_;intro ev hb hn kk
 show jUb _ [some (.ref b),some (.tup (V.map encR)),none,none,none,none,none,none,none] G
 have hs:=sz
 have hN:=ev.le
 wp_walk using 1,jUb,jQ2,jKq,iSeq,List.length_map
 refine⟨by omega,by omega,fun L hL=> ?_⟩
 rw[show ((V.length:Nat):Int).toNat=V.length by omega,jKz]
 obtain⟨bo,hbo⟩:=hb.some
 have bL:b≠L:=jJi hbo hL
 have hb1:BoxAt (gup G L (.lst ((List.range V.length).map fun k:Nat=>T.int k))) b n:=hb.gup bL
 have k1:Keep b G (gup G L (.lst ((List.range V.length).map fun k:Nat=>T.int k))):= .new hL
 have h1:gup G L (.lst ((List.range V.length).map fun k:Nat=>T.int k)) L=some (.lst (jJo (List.range V.length))):=jJd
 generalize gup G L (.lst ((List.range V.length).map fun k:Nat=>T.int k))=G1 at hb1 k1 h1 ⊢
 intro D hD
 obtain⟨bo1,hbo1⟩:=hb1.some
 have bD:b≠D:=jJi hbo1 hD
 have LD:L≠D:=jJi h1 hD
 have hDG:G D=none:=k1.none bD.symm hD
 refine⟨fun i acc G'=>∃(ps lf:List Nat),acc=jJo ps/\ps.length=i/\(ps++lf).Perm (List.range V.length)/\G' L=some (.lst (jJo lf))/\BoxAt G' b (n+i)/\Keep b G G'/\G' D=some (.lst acc),?_,?_,?_,?_⟩
 ·exact⟨[],List.range V.length,rfl,rfl,.refl _,by rw[jJp LD];exact h1,hb1.gup bD,k1.over hDG,jJd⟩
 ·rintro i acc G' hi ⟨ps,lf,rfl,h2,h3,h4,h5,h6,h7⟩
  exact⟨trivial,h7⟩
 ·rintro i x acc G3 hx ⟨ps,lf,rfl,h2,h3,h4,h5,h6,h7⟩
  obtain⟨es,hes,rfl⟩:=jKk hx
  have hi:i<V.length:=(lJq.mp hes).1
  have hpl:=h3.length_eq
  rw[lKb,lKi] at hpl
  have lenl:(jJo lf).length=lf.length:=by simp[jJo]
  wp_walk using 1,encR,jK2 h4,jJh h4,lenl
  refine⟨b,_,n+i,rfl,h5,by omega,by omega,by omega,fun r G4 r0 r1 b4 k4=> ?_⟩
  obtain⟨k,rfl⟩:=lYn r0
  have hk:k<lf.length:=by omega
  have L4:=k4 _ _ bL.symm h4
  have D4:=k4 _ _ bD.symm h7
  have pl:(jJo ps).length=ps.length:=by simp[jJo]
  refine⟨L,jJo lf,.int (lf[k]:Nat),k,rfl,rfl,L4,by omega,by unfold jJo;rw[lJz,lJp hk];rfl,?_⟩
  have e:jJo ps++[T.int (lf[k]:Nat)]=jJo (ps++[lf[k]]):=by simp[jJo]
  refine⟨by rw[jJp LD.symm];exact D4,by rw[pl];omega,ps++[lf[k]],e,by simp[h2],lf.eraseIdx k,?_,by rw[jJp LD,jJd,kXu],?_,((h6.trans k4).over hL).over hDG⟩
  ·refine List.Perm.trans ?_ h3
   rw[lJn]
   (refine lV3 _ ?_)
   have e2:lf=lf.take k++lf[k]::lf.drop (k+1):=by rw[<-lVm hk,lKx]
   rw[lYc]
   exact (List.perm_middle (l₁:=lf.take k) (l₂:=lf.drop (k+1))).symm.trans (.of_eq e2.symm)
  ·rw[show n+(i+1)=n+i+1 by omega]
   exact (b4.gup bL).gup bD
 ·rintro acc G3 ⟨p,lf,rfl,h2,h3,h4,h5,h6,h7⟩
  have hlf:lf=[]:=by
   have:=h3.length_eq
   rw[lKb,lKi,h2,lJf] at this
   exact lQx.mp (by omega)
  subst hlf
  rw[lKz] at h3
  rw[lJf] at h2
  have P:Prm V.length p:=⟨h2,h3.nodup_iff.mpr lXk,fun x hx=>lJt.mp (h3.mem_iff.mp hx)⟩
  have atp:∀ {G':Gp},Sub G3 G'->∀ {k:Nat},k<V.length->ixR G' (.ref D) (.int (k:Nat))=some (.int (p.getD k 0:Nat)):=fun {G'} s {k} hk=>by
   rw[jQ0 (s _ _ h7),atN]
   unfold jJo
   rw[lJz,lJp (by omega)]
   simp[List.getD,h2,hk]
  let f:List (Nat×Nat)->List (Nat×Nat):=fun es=>es.map fun e=>(p.getD e.1 0,e.2)
  refine jJ5 (es:=V) (enc:=encR) (fun es=>encR (f es)) (by omega) (fun _ _=>trivial) ?_ ?_
  ·intro i es hes G4 K K0 s4 hK
   have hel:es.length=d:=ev.row i es hes
   have hd:=ev.d6
   wp_walk using 1,iSeq,encR
   refine jJ5 (es:=es) (enc:=encE) (fun e=>encE (p.getD e.1 0,e.2)) (by omega) (fun _ _=>trivial) ?_ ?_
   ·intro j e he G5 K' K0' s5 hK'
    have hlt:e.1<V.length:=ev.fine.rng i j e.1 e.2 (by rw[qX4 hes he])
    wp_walk using 1,encE
    exact⟨_,atp (s4.trans s5) hlt,by omega,hK' G5 (.refl _)⟩
   ·intro E G5 hE h5 s5
    refine⟨_,jJh h5,?_⟩
    have:=hK G5 s5
    unfold encR at this
    rw[lJ4] at this
    exact this
  ·intro E G4 hE h8 s4
   wp_walk using 1,jUf,List.length_map
   refine⟨by omega,by omega,?_⟩
   rw[show ((V.length:Nat):Int).toNat=V.length by omega,jKz]
   refine jJ5 (es:=List.range V.length) (enc:=fun k:Nat=>T.int k) (fun k=>encR (f (row V (p.idxOf k)))) (by simp;omega) (fun _ _=>trivial) ?_ ?_
   ·intro i k hk G5 K K0 s5 hK
    have hkV:k<V.length:=by have:=lJx hk;simpa using this
    have hix:p.idxOf k<p.length:=List.idxOf_lt_length_of_mem (P.mem hkV)
    have D5:=s5 _ _ (s4 _ _ h7)
    wp_walk using 1,jK2 D5
    obtain⟨es,hes,_⟩:=jXt (W:=V) (r:=p.idxOf k) (by omega)
    have E5:=s5 _ _ h8
    refine⟨D,_,.int (k:Nat),.int (k:Nat),p.idxOf k,rfl,rfl,D5,rfl,?_,?_,?_,fun m t hm ht=> ?_,_,?_,hK G5 (.refl _)⟩
    ·simp[jJo,jVp]
    ·unfold jJo
     rw[lJz,lJp hix,List.getElem_idxOf hix];rfl
    ·simp[eqT]
    ·unfold jJo at ht
     obtain⟨q,hq,rfl⟩:=jKk ht
     have hne:q≠k:=fun z=>by
      subst z
      have h1:=(lJq.mp hq)
      obtain⟨h1,h2⟩:=h1
      have:=List.Nodup.idxOf_getElem P.nd m h1
      rw[h2] at this
      omega
     simp[eqT];omega
    ·rw[jQ0 E5,atN,lJz,jYs hes,hes];rfl
   ·intro D2 G5 hD2 h9 s5
    refine⟨_,jJh h9,?_⟩
    have:=kk p G5 P ((h6.trans (.sub s4)).trans (.sub s5))
    unfold encW numW at this
    rw[lJ4] at this
    exact this
noncomputable def jQi:Sp3:=fun xs G Q=>∃(d k:Nat) (W:Web) (ds:List Nat),xs=[encW W]/\EvW d W/\LeastAt d W k ds/\G pS=some (.tbs jJz)/\∀G',Sub G G'->Q (.tup (jJo ds)) G'
def jZw:List Str:=["web","beyond"]
noncomputable def jQm (z:Nat):TS3:=
 (tSeq (qVn 1 pS jJz jKh [("web",z)])
 (tRet (kYd [(0,z)] jUq (jJc (jK0 jQy (jJc (tVar 0) tNil)) (jJc (tVar 1) (jJc (tMkF pS jJz jJs []) tNil))))))
theorem jXf (z:Nat):∀xs G Q,jQi xs G Q->jQm z {nx:=fun _ G'=>Q .non G',rt:=Q} (jKc jZw xs) G:=by
 intro xs G Q h_;apply xe4 h_;clear h_;intro d k W ds h_;apply ae4 h_;clear h_;intro ev ls hS kk
 show jQm _ _ [some (encW W),none] G
 have hs:=sz
 wp_walk using 1,jQm,qVn,tMkF,mkF,kYd
 refine⟨hS,fun fb hfb=> ?_⟩
 have s1:Sub G (gup G fb (.fn jKh [("web",z)])):= .new hfb
 have b1:gup G fb (.fn jKh [("web",z)]) fb=some (.fn jKh [("web",z)]):=jJd
 generalize gup G fb (.fn jKh [("web",z)])=G1 at s1 b1 ⊢
 refine⟨W,rfl,by have:=ev.le;omega,fun G2 s2=>⟨s2 _ _ (s1 _ _ hS),fun fl hfl hz=> ?_⟩⟩
 have hz':gup G2 fl (.fn jJs []) z=none:=hz (0,z) (by simp)
 refine⟨[encW W],.cons rfl .nil,?_⟩
 have zl:z≠fl:=fun e=>by rw[e,jJd] at hz';cases hz'
 have b2:=s2 _ _ b1
 have zb:fb≠z:=fun e=>by rw[<-e,jJp (jJi b2 hfl),b2] at hz';cases hz'
 have lb:fb≠fl:=jJi b2 hfl
 have sG:Sub G (gup G2 fl (.fn jJs [])):=(s1.trans s2).trans (.new hfl)
 refine⟨d,k,W,ds,fb,fl,z,rfl,ev,ls,?_,?_,?_,fun G3 s3=>kk _ fun a o h=> ?_⟩
 ·show gup (gup G2 fl _) z _ fb=_
  rw[jJp zb,jJp lb];exact b2
 ·show gup (gup G2 fl _) z _ fl=_
  rw[jJp zl.symm,jJd]
 ·exact jJd
 ·have h1:=sG _ _ h
  have ne:a≠z:=fun e=>by rw[e,hz'] at h1;cases h1
  show gdel G3 z a=_
  rw[kZ7 ne]
  refine s3 _ _ ?_
  show gup (gup G2 fl _) z _ a=_
  rw[jJp ne];exact h1
theorem box_ne {G:Gp} {b p:Addr} {n:Nat} {xs:List T} (h:BoxAt G b n) (hp:G p=some (.lst xs)) (hx:∀x y z:Int,xs≠[.int x,.int y,.int z]):p≠b:=by
 rintro rfl
 obtain⟨x,y,z,h1,_⟩:=h
 rw[h1] at hp
 cases hp
 exact hx x y z rfl
theorem qX3 {ms:List (Nat×Nat)}:∀x y z:Int,ms.map encE≠[.int x,.int y,.int z]:=by
 intro x y z h
 cases ms with
 | nil=>cases h
 | cons a ms=>cases h
theorem sz_len:(szF 9 1).length=19:=by rw[qUq];rfl
theorem qVi {s:Nat×Nat} (h:s∈szF 9 1):Chk s.1 s.2/\Chk 1 s.2/\1<=(evL 1 s.2).length:=by
 obtain⟨⟨h1,h2,h3,h4,h5⟩,h6,h7⟩:=che_of h
 refine⟨qVc h1 h2 h4 h5 h6,qVc (by decide) (by decide) h4 (by omega) h7,?_⟩
 rcases (by omega:s.2=1\/s.2=2\/s.2=3\/s.2=4\/s.2=5\/s.2=6) with e | e | e | e | e | e<;>rw[e]<;>decide +kernel
def kYg:Sp3:=fun xs G Q=>∃ns:List Int,xs=[.scr (jK9 ns)]/\ns.length<=63/\G pS=some (.tbs jJz)/\∀G',Q (.bl true) G'
def N_law:List Str:=["_law_script","_law_sizes_here","_law_box_here","_law_wide","_law_doors","_law_webs","_law_web","_law_handed"]
noncomputable def kU5:TS3:=
 (tSeq (tAsg (jK0 jXb (jJc (tC (.int 9)) (jJc (tC (.int 1)) tNil))) (jJg 1))
 (tSeq (tFor (iSeq (jK0 jVi (jJc (tVar 0) (jJc (tC (.int 6)) tNil)))) (jJg 2) (tSeq (tAsg (tOp rIxF (tVar 1) (jK0 jUr (jJc (tVar 2) (jJc (tCB rLen (jJc (tVar 1) tNil)) tNil)))) (gTup 2 (jJ8 (jJg 3) (jJ8 (jJg 4) gNil))))
 (tSeq (tAsg (tOp jQr (jK0 jVu (jJc (tVar 3) (jJc (tVar 4) tNil))) (jK0 jVu (jJc (tC (.int 1)) (jJc (tVar 4) tNil)))) (jJg 5))
 (tSeq (tAsg (jK0 jQ9 (jJc (tVar 2) (jJc (tOp rIxF (tVar 5) (jK0 jUr (jJc (tVar 2) (jJc (tCB rLen (jJc (tVar 5) tNil)) tNil)))) tNil))) (jJg 6))
 (tSeq (tAsg (tVar 6) (jJg 7))
 (tIfS (tOr (tNot (jKp (jK0 jXd (jJc (jK0 jQi (jJc (tVar 7) tNil)) (jJc (jK0 jXc (jJc (tVar 6) tNil)) tNil))))) (jKp (tOp rNeA (tVar 7) (tVar 6)))) (tRet (tC (.bl false))) jU9))))))
 (tRet (tC (.bl true)))))
theorem qK3:RdOk kYg kU5 N_law:=by
 intro xs G Q h_;apply xe1 h_;clear h_;intro ns h_;apply ae3 h_;clear h_;intro hns hS kk
 show kU5 _ [some (.scr (jK9 ns)),none,none,none,none,none,none,none] G
 have hs:=sz
 have hsl:=sz_len
 wp_walk using 1,kU5,jKq,iSeq
 refine⟨9,1,rfl,by decide,by decide,fun S G1 hSz hS1 s1=> ?_⟩
 refine⟨ns,6,rfl,hns,by decide,by decide,fun D rs G3 hD hD3 hl hnd hbx s3=>⟨_,jJh hD3,?_⟩⟩
 rw[lKu] at hnd
 let J1:Nat->St3->Gp->Prop:=fun i τ G'=>∃(v2 v3 v4 v5 v6 v7:Option T),τ=[some (.scr (jK9 ns)),some (.ref S),v2,v3,v4,v5,v6,v7]/\G' S=some (.lst ((szF 9 1).map encE))/\G' pS=some (.tbs jJz)/\G' D=some (.lst (rs.map T.ref))/\∀(j:Nat) (r:Addr),i<=j->rs[j]? =some r->BoxAt G' r 0
 refine⟨J1,?_,?_,?_,?_⟩
 ·exact⟨none,none,none,none,none,none,rfl,s3 _ _ hS1,s3 _ _ (s1 _ _ hS),hD3,fun j r _ hj=>hbx r (lJx hj)⟩
 ·intro i τ G' hi h_;apply xe6 h_;clear h_;intro v2 v3 v4 v5 v6 v7 h_;apply ae4 h_;clear h_;intro h1 h2 h4 h5
  exact jJh h4
 ·intro i y τ G4 hy h_;apply xe6 h_;clear h_;intro v2 v3 v4 v5 v6 v7 h_;apply ae4 h_;clear h_;intro h1 h2 h4 h5
  obtain⟨b,hbi,rfl⟩:=jKk hy
  have hb4:=h5 i b (lJg _) hbi
  have hil:i<rs.length:=(lJq.mp hbi).1
  have hbm:=lJx hbi
  have hDb:D≠b:=fun e=>hnd.1 (e▸hbm)
  have hSb:S≠b:=box_ne hb4 h1 qX3
  have hPb:pS≠b:=fun e=>by obtain⟨x,y,z,q,_⟩:=hb4;rw[<-e,h2] at q;cases q
  have ob:∀(j:Nat) (r:Addr),i+1<=j->rs[j]? =some r->r≠b:=fun j r hj hr e=>by
   have:=(List.getElem?_inj hil hnd.2).mp (hbi.trans (e▸hr.symm))
   omega
  have kp:∀ {G':Gp},Keep b G4 G'->G' S=some (.lst ((szF 9 1).map encE))/\G' pS=some (.tbs jJz)/\G' D=some (.lst (rs.map T.ref))/\∀(j:Nat) (r:Addr),i+1<=j->rs[j]? =some r->BoxAt G' r 0:=fun {G'} k=>⟨k _ _ hSb h1,k _ _ hPb h2,k _ _ hDb h4,fun j r hj hr=>by
   obtain⟨a1,a2,a3,h,h'⟩:=h5 j r (by omega) hr
   exact⟨a1,a2,a3,k _ _ (ob j r hj hr) h,h'⟩⟩
  wp_walk using 1,tSeq
  refine⟨_,jJh h1,b,_,0,rfl,hb4,by decide,by rw[lJf,hsl];decide,by rw[lJf,hsl];decide,fun x G6 x0 x1 b6 k6=> ?_⟩
  rw[lJf,hsl] at x1
  obtain⟨x,rfl⟩:=lYn x0
  have hx19:x<(szF 9 1).length:=by rw[hsl];omega
  obtain⟨S6,P6,D6,B6⟩:=kp k6
  refine⟨encE (szF 9 1)[x],by rw[jQ0 S6,atN,lJz,lJp hx19];rfl,?_⟩
  have hsm:=lXn hx19
  generalize (szF 9 1)[x]=z' at hsm ⊢
  obtain⟨c1,c2,e1⟩:=qVi hsm
  refine⟨_,rfl,rfl,_,_,rfl,_,_,rfl,rfl,z'.1,z'.2,rfl,c1,fun q G7 Ws hW hWl hWn hq hq7 s7=> ?_⟩
  refine⟨1,z'.2,rfl,c2,fun q2 G8 Ws2 hW2 hWl2 hWn2 hq2 hq8 s8=> ?_⟩
  refine⟨_,jYj (s8 _ _ hq7) hq8 (by rw[lJf,lJf];omega),?_⟩
  intro w hw
  rw[<-lKr]
  have hw9:gup G8 w (.lst ((Ws++Ws2).map encW)) w=some (.lst ((Ws++Ws2).map encW)):=jJd
  have s9:Sub G6 (gup G8 w (.lst ((Ws++Ws2).map encW))):=(s7.trans s8).trans (.new hw)
  have b9:=b6.sub s9
  have k9:Keep b G4 (gup G8 w (.lst ((Ws++Ws2).map encW))):=k6.trans (.sub s9)
  generalize gup G8 w (.lst ((Ws++Ws2).map encW))=G9 at hw9 s9 b9 k9 ⊢
  have wb:w≠b:=by
   obtain⟨bo,hbo⟩:=(b6.sub (s7.trans s8)).some
   exact (jJi hbo hw).symm
  have hln:(Ws++Ws2).length=Ws.length+Ws2.length:=lKb
  have hmem:∀V,V∈Ws++Ws2->EvW z'.2 V/\qKd z'.2 V:=fun V hV=>by
   rcases (lJr.mp hV) with h | h
   ·exact⟨(c1.good V (hW V h)).1,(c1.good V (hW V h)).2.1⟩
   ·exact⟨(c2.good V (hW2 V h)).1,(c2.good V (hW2 V h)).2.1⟩
  generalize Ws++Ws2=Vs at hw9 hln hmem
  refine⟨_,jJh hw9,b,_,1,rfl,b9,by decide,by rw[lJf];omega,by rw[lJf];omega,fun y G10 y0 y1 b10 k10=> ?_⟩
  rw[lJf] at y1
  obtain⟨y,rfl⟩:=lYn y0
  have hy2:y<Vs.length:=by omega
  have w10:=k10 _ _ wb hw9
  refine⟨encW Vs[y],by rw[jQ0 w10,atN,lJz,lJp hy2];rfl,?_⟩
  obtain⟨ev,re⟩:=hmem _ (lXn hy2)
  generalize Vs[y]=V at ev re
  refine⟨z'.2,b,2,V,rfl,ev,b10,by decide,fun p G11 P k11=> ?_⟩
  have ev':=qV7 P ev
  have re':=kYq P ev re
  generalize numW V p=W at ev' re'
  obtain⟨k,ds,ls⟩:=qQo re'
  have kf:Keep b G4 G11:=(k9.trans k10).trans k11
  have hdl:ds.length<=1000:=by
   obtain⟨s,h⟩:=ls.one
   have h1:=List.mem_of_find?_eq_some h
   have h2:=((jU3 _ _).mp h1).1
   have:=ls.k8
   have h3:ds.length=k:=h2
   omega
  refine⟨z'.2,k,W,ds,rfl,ev',ls,(kp kf).2.1,fun G12 s12=> ?_⟩
  refine⟨z'.2,k,W,ds,rfl,ev',ls,fun G13 s13=> ?_⟩
  refine⟨_,_,rfl,.inl ⟨rfl,.inr ⟨_,rfl,by simp[jJo];omega,fun u hu=> ?_⟩⟩,fun G14 s14=>⟨_,rfl,?_⟩⟩
  ·obtain⟨i,_,rfl⟩:=lJj.mp hu
   exact .inl ⟨_,rfl⟩
  rw[lJb (by decide)]
  refine⟨_,kVy,?_⟩
  have kf2:Keep b G4 G14:=((kf.trans (.sub s12)).trans (.sub s13)).trans (.sub s14)
  refine⟨_,rfl,?_⟩
  rw[lJb (by simp)]
  obtain⟨S14,P14,D14,B14⟩:=kp kf2
  exact⟨_,_,_,_,_,_,rfl,S14,P14,D14,B14⟩
 ·intro τ G4 h_;apply xe6 h_;clear h_;intro v2 v3 v4 v5 v6 v7 h_;apply ae4 h_;clear h_;intro h1 h2 h4 h5
  wp_walk using 1,tSeq
  exact kk G4
end W
namespace W
open PySem PySem.Spec PyProof.Rows L2 L3
theorem ln1 {α:Type} {us:List α} {C:List α->Prop} (h:us.length=1) (k:∀a0,C [a0]):C us:=by
 obtain⟨a0,us,rfl⟩:=lXt h
 replace h:=lXu h
 cases lQx.mp h
 exact k a0
theorem ln2 {α:Type} {us:List α} {C:List α->Prop} (h:us.length=2) (k:∀a0 a1,C [a0,a1]):C us:=by
 obtain⟨a0,us,rfl⟩:=lXt h
 replace h:=lXu h
 obtain⟨a1,us,rfl⟩:=lXt h
 replace h:=lXu h
 cases lQx.mp h
 exact k a0 a1
theorem ln3 {α:Type} {us:List α} {C:List α->Prop} (h:us.length=3) (k:∀a0 a1 a2,C [a0,a1,a2]):C us:=by
 obtain⟨a0,us,rfl⟩:=lXt h
 replace h:=lXu h
 obtain⟨a1,us,rfl⟩:=lXt h
 replace h:=lXu h
 obtain⟨a2,us,rfl⟩:=lXt h
 replace h:=lXu h
 cases lQx.mp h
 exact k a0 a1 a2
def top (i:Nat):Stmt:=PySem.Challenge.pw_stonewalker_k46_the_least_walk.main.body.getD i (.Pass ⟨0,0,0,0⟩)
def FnAt (K:PySem.W.Frag) (mg:Str->Option Value) (x:Str) (i:Nat):Prop:=∃f fd,mg x=some (.ref f)/\Fun K x x (top i) f fd
structure Txt (K:PySem.W.Frag) (mg:Str->Option Value):Prop where
 n_abs:mg "abs"=none
 n_all:mg "all"=none
 n_any:mg "any"=none
 n_bool:mg "bool"=none
 n_dict:mg "dict"=none
 n_enumerate:mg "enumerate"=none
 n_int:mg "int"=none
 n_isinstance:mg "isinstance"=none
 n_len:mg "len"=none
 n_list:mg "list"=none
 n_max:mg "max"=none
 n_range:mg "range"=none
 n_set:mg "set"=none
 n_sorted:mg "sorted"=none
 n_str:mg "str"=none
 n_tuple:mg "tuple"=none
 n_zip:mg "zip"=none
 lm_least_seeing:LamK K mg "least_seeing" pS
 f_without:FnAt K mg "without" 3
 f_walks_by:FnAt K mg "walks_by" 5
 f_least_way:FnAt K mg "least_way" 1
 f_walks_begun:FnAt K mg "walks_begun" 4
 f_least_seeing:FnAt K mg "least_seeing" 6
 f_l_box:FnAt K mg "_law_box" 8
 f_l_take:FnAt K mg "_law_take" 9
 f_l_alike:FnAt K mg "_law_alike" 10
 f_l_told:FnAt K mg "_law_told" 11
 f_l_pairings:FnAt K mg "_law_pairings" 12
 f_l_all_ends:FnAt K mg "_law_all_ends" 13
 f_l_even:FnAt K mg "_law_even" 14
 f_l_sizes:FnAt K mg "_law_sizes" 15
 f_l_seen_rooms:FnAt K mg "_law_seen_rooms" 16
 f_l_folded:FnAt K mg "_law_folded" 17
 f_l_numbered:FnAt K mg "_law_numbered" 18
 f_l_sees:FnAt K mg "_law_sees" 19
 f_l_least:FnAt K mg "_law_least" 20
 f_law:FnAt K mg "law" 21
variable {P:Program} {w:World} {K:PySem.W.Frag} {mg:Str->Option Value} {base:Heap}
theorem cl1_of {cl:List (Str×Addr)} {y0:Str} (h:cl.map (·.1)=[y0]):∃z0,cl=[(y0,z0)]:=by
 obtain⟨e0,rfl⟩:∃e0,cl=[e0]:=by
  apply ln1 (us:=cl) (C:=fun us=>∃e0,us=[e0]) (by rw[<-lJf,h];rfl)
  intros
  exact⟨_,rfl⟩
 simp only[lJo,List.map_nil,lXo,and_true] at h
 exact⟨e0.2,by simp[<-h]⟩
theorem cal3 {x:Str} {i k:Nat} {N ps:List Str} {sp:Sp3} {t:TS3} (F:FnAt K mg x i) (h:∀xs G Q,sp xs G Q->t {nx:=fun _ G'=>Q .non G',rt:=Q} (jKc N xs) G)
  (d:∀(f:Addr) (cdv:Value) (A:Around) (outer:List Env) (s:Shared) (H:Hp) (E:XK),Room k (A.deeper (envOfC x (jJk (top i)) s.heap.objs.size f cdv))->(A.deeper (envOfC x (jJk (top i)) s.heap.objs.size f cdv)).units+20<cLine->N.Nodup->PSs3 (cxOf CX0 P w K mg base N x (jJk (top i)) f cdv A outer s H E).nox (defBody (top i)) t)
  (S:FnScope N ps (jJk (top i)):=by exact⟨rfl,rfl,rfl,by decide +kernel,rfl,by decide +kernel,by decide +kernel⟩)
  (b:∀(kV doc pm:Value) (an:Option Addr) (cdv ct:Value) (us:List Value),us.length=ps.length->bindArgs (PySem.W.fnOf x x (jUz (top i)) (defBody (top i)) (jJk (top i)) .none kV doc pm an cdv ct) ⟨us,[]⟩=pure (ps.zip us):=by (intro _ _ _ _ _ _ us hl;first | (apply ln1 hl;intros;rfl) | (apply ln2 hl;intros;rfl) | (apply ln3 hl;intros;rfl)))
  (m:Mono sp:=by (intro xs G Q Q' hq;(repeat' (first | (refine Exists.imp fun _=> ?_) | (refine And.imp_right ?_)));intro k;intros;apply hq;apply k<;>assumption))
  (n:∀xs G Q,sp xs G Q->xs.length=ps.length:=by (intro xs G Q h;repeat (first | exact (lKo List.length h.1).trans rfl | obtain⟨_,h⟩:=h))):Cal P w K mg base (k+1) x ps sp:=by
 obtain⟨f,fd,a,F⟩:=F
 exact⟨⟨f,fd,fn3 F S fun cdv A outer s H E hr=>⟨t,d f cdv A outer s H E hr (kZ4 hr) S.nd,h⟩,a,F.kp,F.binds b⟩,m,n⟩
theorem cal3Z {x:Str} {i k:Nat} {Pt:Addr} {N ps:List Str} {sp:Sp3} {t:Nat->TS3} [B:BuB base mg] (F:FnAt K mg x i) (L:LamK K mg x Pt) (h:∀z xs G Q,sp xs G Q->t z {nx:=fun _ G'=>Q .non G',rt:=Q} (jKc N xs) G)
  (d:∀(f:Addr) (cdv:Value) (A:Around) (outer:List Env) (s:Shared) (H:Hp) (E:XK),LamAt (cxOf CX0 P w K mg base N x (jJk (top i)) f cdv A outer s H E).nox Pt->Room k (A.deeper (envOfC x (jJk (top i)) s.heap.objs.size f cdv))->(A.deeper (envOfC x (jJk (top i)) s.heap.objs.size f cdv)).units+20<cLine->N.Nodup->PSs3 (cxOf CX0 P w K mg base N x (jJk (top i)) f cdv A outer s H E).nox (defBody (top i)) (t (s.heap.objs.size+1)))
  (S:FnScope N ps (jJk (top i)):=by exact⟨rfl,rfl,rfl,by decide +kernel,rfl,by decide +kernel,by decide +kernel⟩)
  (b:∀(kV doc pm:Value) (an:Option Addr) (cdv ct:Value) (us:List Value),us.length=ps.length->bindArgs (PySem.W.fnOf x x (jUz (top i)) (defBody (top i)) (jJk (top i)) .none kV doc pm an cdv ct) ⟨us,[]⟩=pure (ps.zip us):=by (intro _ _ _ _ _ _ us hl;first | (apply ln1 hl;intros;rfl) | (apply ln2 hl;intros;rfl) | (apply ln3 hl;intros;rfl)))
  (m:Mono sp:=by (intro xs G Q Q' hq;(repeat' (first | (refine Exists.imp fun _=> ?_) | (refine And.imp_right ?_)));intro k;intros;apply hq;apply k<;>assumption))
  (n:∀xs G Q,sp xs G Q->xs.length=ps.length:=by (intro xs G Q h;repeat (first | exact (lKo List.length h.1).trans rfl | obtain⟨_,h⟩:=h))):Cal P w K mg base (k+1) x ps sp:=by
 obtain⟨f,fd,a,F⟩:=F
 exact⟨⟨f,fd,fn3L L a F S fun cdv A outer s H E hr hL=>⟨t (s.heap.objs.size+1),d f cdv A outer s H E hL hr (kZ4 hr) S.nd,h _⟩,a,F.kp,F.binds b⟩,m,n⟩
theorem cal0 {x:Str} {i k:Nat} {ps:List Str} (F:FnAt K mg x i) (b:∀(kV doc pm:Value) (an:Option Addr) (cdv ct:Value) (us:List Value),us.length=ps.length->bindArgs (PySem.W.fnOf x x (jUz (top i)) (defBody (top i)) (jJk (top i)) .none kV doc pm an cdv ct) ⟨us,[]⟩=pure (ps.zip us):=by (intro _ _ _ _ _ _ us hl;first | (apply ln1 hl;intros;rfl) | (apply ln2 hl;intros;rfl) | (apply ln3 hl;intros;rfl))):Cal P w K mg base k x ps (fun _ _ _=>False):=by
 obtain⟨f,fd,a,F⟩:=F
 refine⟨⟨f,fd,⟨fun vs H Q E h=>h.1,?_⟩,a,F.kp,F.binds b⟩,fun _ _ _ _ _ h=>h,fun _ _ _ h=>h.elim⟩
 intros
 rename_i h
 exact absurd h (by rintro⟨_,_,_,_,_,h⟩;exact h)
theorem jVo (T:Txt K mg):FvC P w K mg base 1 jJs [] jKa:=
 qXz (NN:=N_lam_least_seeing) (x:="walks") rfl ⟨rfl,rfl,rfl,by decide +kernel,rfl,by first | exact .inl rfl | exact .inr rfl,by decide +kernel,by decide +kernel,by decide +kernel⟩
  (by intro fd h1 h2 h3 u;cases fd;dsimp only at h1 h2 h3;subst h1 h2 h3;rfl)
  (fun cl f c' A outer s H hcl hr=>by
   have hu:=kZ4 hr
   have nd:N_lam_least_seeing.Nodup:=by decide +kernel
   obtain rfl:=List.map_eq_nil_iff.mp hcl
   exact (e_not (jJq (c_anyT rfl) (by rfl) T.n_any rfl (jJa (jKm (mask:=[false,true,true]) rfl ⟨rfl,rfl,rfl,rfl,rfl,rfl,rfl⟩ (jQ5 (jJb 0)) (kJb (jK5 jJv jKd (jK5 jJv jKd kJc jUk) (jXp jKd jUk))) (fun C fp s H=>(jV3 rfl (jJw (jJj (i:=1) nd) (jJw (jJj (i:=2) nd) jQw)))) (fun C fp s H=>jKl) (fun C fp s H=>(jJb 2))) jJe)))) jUt
theorem jZ8 (T:Txt K mg):Cal P w K mg base 1 "without" ["rooms","room"] jU2:=
 cal3 T.f_without kKp fun _ _ _ _ _ _ _ hr hu nd=>
  (jJn (jKv (jKi jUh (by rfl) T.n_tuple rfl (jJa (jKm (mask:=[false,false,true]) rfl ⟨rfl,rfl,rfl,rfl,rfl,rfl,rfl⟩ (jQ5 (jJb 0)) jJv (fun C fp s H=>(jJj (i:=2) nd)) (fun C fp s H=>(kZ2 (jVg (qV6 hr.units) (jJb 2) (jJb 1) (jJ6 _)))) (fun C fp s H=>(jJb 2))) jJe))))
theorem kUa (T:Txt K mg):Cal P w K mg base 2 "walks_by" ["web","walks","door"] jVh:=
 cal3 T.f_walks_by kJu fun _ _ _ _ _ _ _ hr hu nd=>
  (jJf (jKg (i:=3) nd (jVc jJe))
   (jJf (jXe lK4 rfl (jQ5 (jJb 1)) (jV3 rfl (jJw (jJj (i:=4) nd) (jJw (jJj (i:=5) nd) jQw))) (jJf (jKg (i:=6) nd (e_ix (ix_F hu) (e_ix (ix_F hu) (e_ix (ix_F hu) (jJb 0) (jJb 4) (fun _ _=>rfl)) (jJb 2) (fun _ _=>rfl)) jJx (fun _ _=>rfl)))
   (jJn (jVx (e_bm lQr lYf lYg jUe (jJb 3) (jJa (jQ7 (jJa (jJb 6) (jJa (jQd (jZ8 T) (hr.mono (by decide)) (jJa (jJb 5) (jJa (jJb 6) jJe))) jJe))) jJe))))))
   (jJn (jKv (jKi jUh (by rfl) T.n_tuple rfl (jJa (jJb 3) jJe))))))
theorem kY9 (T:Txt K mg):FvC P w K mg base 3 jKh ["web"] jVv:=
 qQz (NN:=N_beyond) (x:="walks") rfl ⟨rfl,rfl,rfl,by decide +kernel,rfl,by first | exact .inl rfl | exact .inr rfl,by decide +kernel,by decide +kernel,by decide +kernel⟩
  (by intro fd h1 h2 h3 u;cases fd;dsimp only at h1 h2 h3;subst h1 h2 h3;rfl)
  (fun cl f c' A outer s H hcl hr=>by
   have hu:=kZ4 hr
   have nd:N_beyond.Nodup:=by decide +kernel
   obtain⟨z0,rfl⟩:∃z0,cl=[(("web":Str),z0)]:=W.cl1_of hcl
   exact (jJn (jKv (jKm (mask:=[false,false,true]) rfl ⟨rfl,rfl,rfl,rfl,rfl,rfl,rfl⟩ (jQa rfl T.n_range (jJa (jJq jVd (by rfl) T.n_len lK5 (jJa (e_ix (ix_F hu) (jJb 1) jJx (fun _ _=>rfl)) jJe)) jJe)) jJv (fun C fp s H=>(jJj (i:=2) nd)) (fun C fp s H=>jKl) (fun C fp s H=>(jQd (kUa T) (hr.mono (by decide)) (jJa (jJb 1) (jJa (jJb 0) (jJa (jJb 2) jJe))))))))) kQ7
theorem kKu (T:Txt K mg):Cal P w K mg base 4 "least_way" ["begun","beyond","is_there"] jUq:=
 cal3 T.f_least_way jZr fun _ _ _ _ _ _ _ hr hu nd=>
  (jJf (jKg (i:=3) nd (jVc (jJa (jQ7 (jJa (jQ7 jJe) (jJa (jJb 0) jJe))) jJe)))
   (jJf (jKg (i:=4) nd (qQ6 hu (jJb 0) e_bl))
   (jJf (kQz lK4 (t_tru qVl (jJb 3)) (jJf (jKg (i:=5) nd (jVc jJe))
   (jJf (jXe lK4 rfl (jQ5 (jJb 3)) (jV3 rfl (jJw (jJj (i:=6) nd) (jJw (jJj (i:=7) nd) jQw))) (jJf (s_if (kQv (qJq (jVo T) (hr.mono (by decide)) (jJb 2) (jJa (jJb 7) jJe))) (jJn (jKv (jJb 6))) jUp)
   (jJn (jXe lK4 rfl (kVq rfl T.n_enumerate rfl (jJa (qJq (kY9 T) (hr.mono (by decide)) (jJb 1) (jJa (jJb 7) jJe)) jJe)) (jV3 rfl (jJw (jJj (i:=8) nd) (jJw (jJj (i:=9) nd) jQw))) (jJn (s_if (jVg (kKw hu) (jJb 9) (jJb 4) (jJ6 _)) (jJf (kQ0 e_bl (kZ8 (jJb 4) (jJb 9) (s_F hu)))
   (jJn (jVx (e_bm lQr lYf lYg jUe (jJb 5) (jJa (jQ7 (jJa (e_op qU4 (jJb 6) (jQ7 (jJa (jJb 8) jJe))) (jJa (jJb 9) jJe))) jJe))))) jUp))))))
   (jJn (jKg (i:=3) nd (jJb 5))))))
   (jJn (jKv e_non)))))
theorem jZs (T:Txt K mg):Cal P w K mg base 2 "walks_begun" ["web"] jQy:=
 cal3 T.f_walks_begun jXx fun _ _ _ _ _ _ _ hr hu nd=>
  (jJf (jKg (i:=1) nd (jZh rfl T.n_list rfl T.n_range rfl (jJa (jJq jVd (by rfl) T.n_len lK5 (jJa (jJb 0) jJe)) jJe)))
   (jJn (jKv (jKi jUh (by rfl) T.n_tuple rfl (jJa (jKm (mask:=[false,false,true]) rfl ⟨rfl,rfl,rfl,rfl,rfl,rfl,rfl⟩ (jQ5 (jJb 1)) jJv (fun C fp s H=>(jJj (i:=2) nd)) (fun C fp s H=>jKl) (fun C fp s H=>(jQ7 (jJa (jJb 2) (jJa (jQd (jZ8 T) (hr.mono (by decide)) (jJa (jJb 1) (jJa (jJb 2) jJe))) jJe))))) jJe)))))
theorem jY2 [BuB base mg] (T:Txt K mg):Cal P w K mg base 5 "least_seeing" ["web"] jQi:=
 cal3Z T.f_least_seeing T.lm_least_seeing jXf fun _ _ _ _ _ _ _ Lm hr hu nd=>
  (jJf (s_defF nd Lm rfl rfl (.inl rfl) rfl rfl rfl rfl (.head _) (un2a (by decide)))
   (jJn (jKv (e_calZ (kKu T) (hr.mono (by decide)) (.cons rfl rfl rfl rfl (by simp) ZX.nil) (jJa (jQd (jZs T) (hr.mono (by decide)) (jJa (jJb 0) jJe)) (jJa (jJb 1) (jJa (e_lamF Lm rfl rfl rfl (.tail _ (.head _)) (un2b (by decide))) jJe)))))))
theorem qQd (T:Txt K mg):Cal P w K mg base 1 "_law_box" ["_law_script","_law_k"] kJs:=
 cal3 T.f_l_box kXg fun _ _ _ _ _ _ _ hr hu nd=>
  (jJf (jKg (i:=2) nd (qJp (jVg o_lt (jJb 1) (jJq jVd (by rfl) T.n_len lK5 (jJa (jJb 0) jJe)) (jJ6 _)) (e_ix (ix_F hu) (jJb 0) (jJb 1) (fun _ _=>rfl)) jJx))
   (jJf (jKg (i:=3) nd (qJp (jVg o_ge (jJq c_abs (by rfl) T.n_abs rfl (jJa (jJb 2) jJe)) (e_op o_pow jJx jJx) (jJ6 _)) (jJq c_abs (by rfl) T.n_abs rfl (jJa (jJb 2) jJe)) jJx))
   (jJn (jKv (jVc (jJa (jJb 3) (jJa (e_op jY5 (e_op jXv (e_op o_addF (e_op o_addF (e_op jY5 (jJb 2) jJx) (e_op jXv jJx (jJb 1))) jJx) jJx) jJx) (jJa jJx jJe))))))))
theorem jY3 (T:Txt K mg):Cal P w K mg base 1 "_law_take" ["_law_box_here","_law_many"] jUr:=
 cal3 T.f_l_take kQ4 fun _ _ _ _ _ _ _ hr hu nd=>
  (jJf (s_if (jVg o_gt (e_ix (ix_F hu) (jJb 0) jJx (fun _ _=>rfl)) jJx (jJ6 _)) (jJf (jKg (i:=2) nd (e_op jY5 (e_ix (ix_F hu) (jJb 0) jJx (fun _ _=>rfl)) (jJb 1)))
   (jJf (kQ0 (e_op qU3 (e_ix (ix_F hu) (jJb 0) jJx (fun _ _=>rfl)) (jJb 1)) (kZ8 (jJb 0) jJx (s_F hu)))
   (jJn (jKv (jJb 2))))) jUp)
   (jJf (kQ0 (e_op o_addF (e_ix (ix_F hu) (jJb 0) jJx (fun _ _=>rfl)) jJx) (kZ8 (jJb 0) jJx (s_F hu)))
   (jJf (jKg (i:=3) nd (e_op jY5 (e_op jXv (e_op o_addF (e_ix (ix_F hu) (jJb 0) jJx (fun _ _=>rfl)) (e_op jXv jJx (e_ix (ix_F hu) (jJb 0) jJx (fun _ _=>rfl)))) (e_op o_addF jJx (e_ix (ix_F hu) (jJb 0) jJx (fun _ _=>rfl)))) jJx))
   (jJf (kQ0 (e_op jY5 (e_op o_addF (e_op jXv (jJb 3) (e_op o_addF (e_op jY5 (jJb 3) jJx) jJx)) (e_ix (ix_F hu) (jJb 0) jJx (fun _ _=>rfl))) jJx) (kZ8 (jJb 0) jJx (s_F hu)))
   (jJn (jKv (e_op jY5 (e_op qU3 (e_op jY5 (e_op jXv (e_ix (ix_F hu) (jJb 0) jJx (fun _ _=>rfl)) (e_op o_addF (e_op jY5 (e_ix (ix_F hu) (jJb 0) jJx (fun _ _=>rfl)) jJx) jJx)) jJx) jJx) (jJb 1))))))))
theorem jQl {j:Nat} {sp sp':Sp3} (T:Txt K mg) (C_l_alike:Cal P w K mg base (j) "_law_alike" ["_law_found","_law_due"] sp) (h:∀xs G Q,sp' xs G Q->jKw sp {nx:=fun _ G'=>Q .non G',rt:=Q} (jKc jU1 xs) G) (m:Mono sp':=by unfold jYp;(intro xs G Q Q' hq;(repeat' (first | (refine Exists.imp fun _=> ?_) | (refine And.imp_right ?_)));intro k;intros;apply hq;apply k<;>assumption)) (n:∀xs G Q,sp' xs G Q->xs.length=(["_law_found","_law_due"]:List Str).length:=by (intro xs G Q h;repeat (first | exact (lKo List.length h.1).trans rfl | obtain⟨_,h⟩:=h))):Cal P w K mg base (j+1) "_law_alike" ["_law_found","_law_due"] sp':=
 cal3 T.f_l_alike h (fun _ _ _ _ _ _ _ hr hu nd=>(jJf (s_if (kQv (jJq jZv (by rfl) T.n_isinstance rfl (jJa (jJb 1) (jJa (jQ7 (jJa (e_ty rfl T.n_list rfl) (jJa (e_ty rfl T.n_tuple rfl) jJe))) jJe)))) (jJf (s_if (PW3.pt (w_or (t_not (kQv (jJq jZv (by rfl) T.n_isinstance rfl (jJa (jJb 0) (jJa (jQ7 (jJa (e_ty rfl T.n_list rfl) (jJa (e_ty rfl T.n_tuple rfl) jJe))) jJe))))) (qKk (jVg (qV6 hr.units) (jJq jZv (by rfl) T.n_isinstance rfl (jJa (jJb 0) (jJa (e_ty rfl T.n_list rfl) jJe))) (jJq jZv (by rfl) T.n_isinstance rfl (jJa (jJb 1) (jJa (e_ty rfl T.n_list rfl) jJe))) (jJ6 _))))) (jJn (jKv e_bl)) jUp)
   (jJn (jKv (qQ7 (kXw (kKx hr.units) (jJq jVd (by rfl) T.n_len lK5 (jJa (jJb 0) jJe)) (jJq jVd (by rfl) T.n_len lK5 (jJa (jJb 1) jJe)) (jJ6 _)) (qX6 (jJq (c_all rfl) (by rfl) T.n_all rfl (jJa (jKm (mask:=[false,false,true,true]) rfl ⟨rfl,rfl,rfl,rfl,rfl,rfl,rfl⟩ (i_zipB rfl T.n_zip rfl (jJa (jJb 0) (jJa (jJb 1) jJe))) (kJb (jK5 jJv jKd (jK5 jJv jKd kJc jUk) (jXp jKd jUk))) (fun C fp s H=>(jV3 rfl (jJw (jJj (i:=2) nd) (jJw (jJj (i:=3) nd) jQw)))) (fun C fp s H=>jKl) (fun C fp s H=>(jQd C_l_alike hr (jJa (jJb 2) (jJa (jJb 3) jJe))))) jJe))))))) jUp)
   (jJf (s_if (PW3.pt (w_or (jVg o_isN (jJb 1) e_non (jJ6 _)) (qKk (kQv (jJq jZv (by rfl) T.n_isinstance rfl (jJa (jJb 1) (jJa (e_ty rfl T.n_str rfl) jJe))))))) (jJn (jKv (qQ7 (kXw (kKx hr.units) (jJb 0) (jJb 1) (jJ6 _)) (qX6 (kXw (kKx hr.units) (jJq jZv (by rfl) T.n_isinstance rfl (jJa (jJb 0) (jJa (e_ty rfl T.n_str rfl) jJe))) (jJq jZv (by rfl) T.n_isinstance rfl (jJa (jJb 1) (jJa (e_ty rfl T.n_str rfl) jJe))) (jJ6 _)))))) jUp)
   (jJn (jKv (qQ7 (jJq jZv (by rfl) T.n_isinstance rfl (jJa (jJb 0) (jJa (e_ty rfl T.n_int rfl) jJe))) (qQ7 (kXw (kKx hr.units) (jJq jZv (by rfl) T.n_isinstance rfl (jJa (jJb 0) (jJa (e_ty rfl T.n_bool rfl) jJe))) (jJq jZv (by rfl) T.n_isinstance rfl (jJa (jJb 1) (jJa (e_ty rfl T.n_bool rfl) jJe))) (jJ6 _)) (qX6 (kXw (kKx hr.units) (jJb 0) (jJb 1) (jJ6 _)))))))))) (m:=m) (n:=n)
theorem kXk (T:Txt K mg):Cal P w K mg base 5 "_law_alike" ["_law_found","_law_due"] (jYp 4):=
 jQl (j:=4) (sp':=jYp 4) T (jQl (j:=3) (sp':=jYp 3) T (jQl (j:=2) (sp':=jYp 2) T (jQl (j:=1) (sp':=jYp 1) T (jQl (j:=0) (sp':=jYp 0) T (cal0 T.f_l_alike) (jVy _)) (jQt 0)) (jQt 1)) (jQt 2)) (jQt 3)
theorem kY7 (T:Txt K mg):Cal P w K mg base 1 "_law_told" ["_law_web","_law_room"] jYn:=
 cal3 T.f_l_told kQ3 fun _ _ _ _ _ _ _ hr hu nd=>
  (jJf (jKg (i:=2) nd (jVc (jJa (jJb 1) jJe)))
   (jJf (jKg (i:=3) nd jJx)
   (jJf (kQz lK4 (jVg o_lt (jJb 3) (jJq jVd (by rfl) T.n_len lK5 (jJa (jJb 2) jJe)) (jJ6 _)) (jJf (jXe lK4 rfl (jQ5 (e_ix (ix_F hu) (jJb 0) (e_ix (ix_F hu) (jJb 2) (jJb 3) (fun _ _=>rfl)) (fun _ _=>rfl))) (jV3 rfl (jJw (jJj (i:=4) nd) (jJw (jJj (i:=5) nd) jQw))) (jJn (s_if (jVg (kKw hu) (jJb 4) (jJb 2) (jJ6 _)) (jJn (jVx (e_bm lQr lYf lYg jUe (jJb 2) (jJa (jJb 4) jJe)))) jUp)))
   (jJn (jKg (i:=3) nd (e_op o_addF (jJb 3) jJx)))))
   (jJf (jKg (i:=6) nd (jKi (qYm rfl) (by rfl) T.n_dict rfl (jJa (jKm (mask:=[false,false,false,false,false,false,false,true,true]) rfl ⟨rfl,rfl,rfl,rfl,rfl,rfl,rfl⟩ (kVq rfl T.n_enumerate rfl (jJa (jJb 2) jJe)) (kJb (jK5 jJv jKd (jK5 jJv jKd kJc jUk) (jXp jKd jUk))) (fun C fp s H=>(jV3 rfl (jJw (jJj (i:=7) nd) (jJw (jJj (i:=8) nd) jQw)))) (fun C fp s H=>jKl) (fun C fp s H=>(jQ7 (jJa (jJb 8) (jJa (jJb 7) jJe))))) jJe)))
   (jJn (jKv (jKi jUh (by rfl) T.n_tuple rfl (jJa (jKm (mask:=[false,false,false,false,false,false,false,false,true]) rfl ⟨rfl,rfl,rfl,rfl,rfl,rfl,rfl⟩ (jQ5 (jJb 2)) jJv (fun C fp s H=>(jJj (i:=8) nd)) (fun C fp s H=>jKl) (fun C fp s H=>(jKi jUh (by rfl) T.n_tuple rfl (jJa (jKm (mask:=[false,false,false,false,true,true,false,false,false]) rfl ⟨rfl,rfl,rfl,rfl,rfl,rfl,rfl⟩ (jQ5 (e_ix (ix_F hu) (jJb 0) (jJb 8) (fun _ _=>rfl))) (kJb (jK5 jJv jKd (jK5 jJv jKd kJc jUk) (jXp jKd jUk))) (fun C fp s H=>(jV3 rfl (jJw (jJj (i:=4) nd) (jJw (jJj (i:=5) nd) jQw)))) (fun C fp s H=>jKl) (fun C fp s H=>(jQ7 (jJa (e_ix (ix_F hu) (jJb 6) (jJb 4) (fun _ _=>rfl)) (jJa (jJb 5) jJe))))) jJe)))) jJe))))))))
theorem jJt {j:Nat} {sp sp':Sp3} (T:Txt K mg) (C_l_pairings:Cal P w K mg base (j) "_law_pairings" ["_law_ends"] sp) (h:∀xs G Q,sp' xs G Q->jKb sp {nx:=fun _ G'=>Q .non G',rt:=Q} (jKc jU0 xs) G) (m:Mono sp':=by unfold jVa;(intro xs G Q Q' hq;(repeat' (first | (refine Exists.imp fun _=> ?_) | (refine And.imp_right ?_)));intro k;intros;apply hq;apply k<;>assumption)) (n:∀xs G Q,sp' xs G Q->xs.length=(["_law_ends"]:List Str).length:=by (intro xs G Q h;repeat (first | exact (lKo List.length h.1).trans rfl | obtain⟨_,h⟩:=h))):Cal P w K mg base (j+1) "_law_pairings" ["_law_ends"] sp':=
 cal3 T.f_l_pairings h (fun _ _ _ _ _ _ _ hr hu nd=>(jJf (s_if (jVg (kKx hr.units) (jJb 0) (jVc jJe) (jJ6 _)) (jJn (jKv (jVc (jJa (jVc jJe) jJe)))) jUp)
   (jJf (kQ0 (jQ7 (jJa (e_ix (ix_F hu) (jJb 0) jJx (fun _ _=>rfl)) (jJa (jZg sl_F (jJb 0) (jZ6 jJx) kVc) jJe))) (jV3 rfl (jJw (jJj (i:=1) nd) (jJw (jJj (i:=2) nd) jQw))))
   (jJf (qUt (i:=3) (mask:=[false,false,false,false,false,false,true]) rfl nd ⟨rfl,rfl,rfl,rfl,rfl,rfl,rfl⟩ (jQ5 (jQd C_l_pairings hr (jJa (jJb 2) jJe))) jJv (fun C fp s H=>(jJj (i:=6) nd)) (fun C fp s H=>jKl) (fun C fp s H=>(e_op o_addF (jVc (jJa (jQ7 (jJa (jJb 1) (jJa (jJb 1) jJe))) jJe)) (jJb 6))))
   (jJf (jXe lK4 rfl (kVq rfl T.n_enumerate rfl (jJa (jJb 2) jJe)) (jV3 rfl (jJw (jJj (i:=4) nd) (jJw (jJj (i:=5) nd) jQw))) (jJn (jVx (e_bm lQr lY0 lY1 jX8 (jJb 3) (jJa (jKm (mask:=[false,false,false,false,false,false,true]) rfl ⟨rfl,rfl,rfl,rfl,rfl,rfl,rfl⟩ (jQ5 (jQd C_l_pairings hr (jJa (e_op o_addF (jZg sl_F (jJb 2) kVc (jZ6 (jJb 4))) (jZg sl_F (jJb 2) (jZ6 (e_op o_addF (jJb 4) jJx)) kVc)) jJe))) jJv (fun C fp s H=>(jJj (i:=6) nd)) (fun C fp s H=>jKl) (fun C fp s H=>(e_op o_addF (jVc (jJa (jQ7 (jJa (jJb 1) (jJa (jJb 5) jJe))) jJe)) (jJb 6)))) jJe)))))
   (jJn (jKv (jJb 3)))))))) (m:=m) (n:=n)
theorem kJz (T:Txt K mg):Cal P w K mg base 10 "_law_pairings" ["_law_ends"] (jVa 9):=
 jJt (j:=9) (sp':=jVa 9) T (jJt (j:=8) (sp':=jVa 8) T (jJt (j:=7) (sp':=jVa 7) T (jJt (j:=6) (sp':=jVa 6) T (jJt (j:=5) (sp':=jVa 5) T (jJt (j:=4) (sp':=jVa 4) T (jJt (j:=3) (sp':=jVa 3) T (jJt (j:=2) (sp':=jVa 2) T (jJt (j:=1) (sp':=jVa 1) T (jJt (j:=0) (sp':=jVa 0) T (cal0 T.f_l_pairings) (jXy _)) (jJu 0)) (jJu 1)) (jJu 2)) (jJu 3)) (jJu 4)) (jJu 5)) (jJu 6)) (jJu 7)) (jJu 8)
theorem kJ1 (T:Txt K mg):Cal P w K mg base 1 "_law_all_ends" ["_law_wide","_law_doors"] jUa:=
 cal3 T.f_l_all_ends jYu fun _ _ _ _ _ _ _ hr hu nd=>
  (jJf (jKg (i:=2) nd (jVc jJe))
   (jJf (jXe lK4 rfl (jQa rfl T.n_range (jJa (jJb 0) jJe)) (jJj (i:=3) nd) (jJn (jVx (e_bm lQr lY0 lY1 jX8 (jJb 2) (jJa (jKm (mask:=[false,false,false,false,true]) rfl ⟨rfl,rfl,rfl,rfl,rfl,rfl,rfl⟩ (jQa rfl T.n_range (jJa (jJb 1) jJe)) jJv (fun C fp s H=>(jJj (i:=4) nd)) (fun C fp s H=>jKl) (fun C fp s H=>(jQ7 (jJa (jJb 3) (jJa (jJb 4) jJe))))) jJe)))))
   (jJn (jKv (jJb 2)))))
theorem kKv (T:Txt K mg):Cal P w K mg base 11 "_law_even" ["_law_wide","_law_doors"] jVu:=
 cal3 T.f_l_even kQ6 fun _ _ _ _ _ _ _ hr hu nd=>
  (jJf (jKg (i:=2) nd (jVc jJe))
   (jJf (jXe lK4 rfl (jQ5 (jQd (kJz T) (hr.mono (by decide)) (jJa (jQd (kJ1 T) (hr.mono (by decide)) (jJa (jJb 0) (jJa (jJb 1) jJe))) jJe))) (jJj (i:=3) nd) (jJf (jKg (i:=4) nd (jKi (qYl rfl hu) (by rfl) T.n_dict rfl (jJa (e_op o_addF (jJb 3) (jKm (mask:=[false,false,false,false,false,false,true,true,false,false]) rfl ⟨rfl,rfl,rfl,rfl,rfl,rfl,rfl⟩ (jQ5 (jJb 3)) (kJb (jK5 jJv jKd (jK5 jJv jKd kJc jUk) (jXp jKd jUk))) (fun C fp s H=>(jV3 rfl (jJw (jJj (i:=6) nd) (jJw (jJj (i:=7) nd) jQw)))) (fun C fp s H=>jKl) (fun C fp s H=>(jQ7 (jJa (jJb 7) (jJa (jJb 6) jJe)))))) jJe)))
   (jJf (jKg (i:=5) nd (jKi jUh (by rfl) T.n_tuple rfl (jJa (qX7 (mask:=[false,false,false,false,false,false,false,false,true,false]) rfl ⟨rfl,rfl,rfl,rfl,rfl,rfl,rfl⟩ (jQa rfl T.n_range (jJa (jJb 0) jJe)) jJv (fun C fp s H=>(jJj (i:=8) nd)) (fun C fp s H=>jKl) (fun C fp s H=>(jKi jUh (by rfl) T.n_tuple rfl (jJa (jKm (mask:=[false,false,false,false,false,false,false,false,false,true]) rfl ⟨rfl,rfl,rfl,rfl,rfl,rfl,rfl⟩ (jQa rfl T.n_range (jJa (jJb 1) jJe)) jJv (fun C fp s H=>(jJj (i:=9) nd)) (fun C fp s H=>jKl) (fun C fp s H=>(e_ix (ix_F hu) (jJb 4) (jQ7 (jJa (jJb 8) (jJa (jJb 9) jJe))) (fun _ _=>rfl)))) jJe)))) jJe)))
   (jJn (s_if (jVg (kKx hr.units) (jQd (kY7 T) (hr.mono (by decide)) (jJa (jJb 5) (jJa jJx jJe))) (jJb 5) (jJ6 _)) (jJn (jVx (e_bm lQr lYf lYg jUe (jJb 2) (jJa (jJb 5) jJe)))) jUp)))))
   (jJn (jKv (jJq (qYj hu) (by rfl) T.n_sorted rfl (jJa (jJb 2) jJe))))))
theorem kXi (T:Txt K mg):Cal P w K mg base 1 "_law_sizes" ["_law_most","_law_doors"] jXb:=
 cal3 T.f_l_sizes kKq fun _ _ _ _ _ _ _ hr hu nd=>
  (jJf (jKg (i:=2) nd (jVc jJe))
   (jJf (jXe lK4 rfl (kVp rfl T.n_range (jJa jJx (jJa jJx jJe))) (jJj (i:=3) nd) (jJf (qUt (i:=4) (mask:=[false,false,false,false,false,true]) rfl nd ⟨rfl,rfl,rfl,rfl,rfl,rfl,rfl⟩ (kVp rfl T.n_range (jJa (jJb 1) (jJa jJx jJe))) jJv (fun C fp s H=>(jJj (i:=5) nd)) (fun C fp s H=>(kZ2 (jVg (o_leF hu) (e_op jXv (jJb 3) (jJb 5)) (jJb 0) (jJ6 _)))) (fun C fp s H=>(jJb 5)))
   (jJn (jVx (e_bm lQr lY0 lY1 jX8 (jJb 2) (jJa (jKm (mask:=[false,false,false,false,false,true]) rfl ⟨rfl,rfl,rfl,rfl,rfl,rfl,rfl⟩ (jQ5 (jJb 4)) jJv (fun C fp s H=>(jJj (i:=5) nd)) (fun C fp s H=>(kZ2 (PW3.pt (w_or (jVg o_gt (jJb 5) jJx (jJ6 _)) (qKk (jVg o_lt (jJb 3) jJx (jJ6 _))))))) (fun C fp s H=>(jQ7 (jJa (jJb 3) (jJa (jJb 5) jJe))))) jJe))))))
   (jJn (jKv (jJb 2)))))
theorem jY4 (T:Txt K mg):Cal P w K mg base 1 "_law_seen_rooms" ["_law_web","_law_room","_law_way"] jQj:=
 cal3 T.f_l_seen_rooms jXg fun _ _ _ _ _ _ _ hr hu nd=>
  (jJf (jKg (i:=3) nd (jVc (jJa (jJb 1) jJe)))
   (jJf (jXe lK4 rfl (jQ5 (jJb 2)) (jJj (i:=4) nd) (jJf (jKg (i:=1) nd (e_ix (ix_F hu) (e_ix (ix_F hu) (e_ix (ix_F hu) (jJb 0) (jJb 1) (fun _ _=>rfl)) (jJb 4) (fun _ _=>rfl)) jJx (fun _ _=>rfl)))
   (jJn (jVx (e_bm lQr lYf lYg jUe (jJb 3) (jJa (jJb 1) jJe))))))
   (jJn (jKv (qX5 rfl hu (by rfl) T.n_sorted rfl (by rfl) T.n_set rfl (jJa (jJb 3) jJe))))))
theorem kUb (T:Txt K mg):Cal P w K mg base 2 "_law_folded" ["_law_script","_law_many"] jVi:=
 cal3 T.f_l_folded kJv fun _ _ _ _ _ _ _ hr hu nd=>
  (jJf (jKg (i:=2) nd (jKi qYk (by rfl) T.n_list rfl (jJa (jZg sl_F (jJb 0) kVc (jZ6 (jJb 1))) jJe)))
   (jJf (jXe lK4 rfl (kVq rfl T.n_enumerate rfl (jJa (jZg sl_F (jJb 0) (jZ6 (jJb 1)) (jZ6 jJx)) jJe)) (jV3 rfl (jJw (jJj (i:=3) nd) (jJw (jJj (i:=4) nd) jQw))) (jJn (kQ0 (e_op o_addF (e_ix (ix_F hu) (jJb 2) (e_op jY5 (jJb 3) (jJb 1)) (fun _ _=>rfl)) (e_op jXv (jJb 4) (e_op o_addF (jJb 3) jJx))) (kZ8 (jJb 2) (e_op jY5 (jJb 3) (jJb 1)) (s_F hu)))))
   (jJn (jKv (jKm (mask:=[false,false,false,true,false]) rfl ⟨rfl,rfl,rfl,rfl,rfl,rfl,rfl⟩ (jQa rfl T.n_range (jJa (jJq (c_max rfl) (by rfl) T.n_max rfl (jJa jJx (jJa (jJq jVd (by rfl) T.n_len lK5 (jJa (jJb 2) jJe)) jJe))) jJe)) jJv (fun C fp s H=>(jJj (i:=3) nd)) (fun C fp s H=>jKl) (fun C fp s H=>(jQd (qQd T) (hr.mono (by decide)) (jJa (jJb 2) (jJa (jJb 3) jJe)))))))))
theorem kJ0 (T:Txt K mg):Cal P w K mg base 2 "_law_numbered" ["_law_box_here","_law_web"] jQ9:=
 cal3 T.f_l_numbered jYt fun _ _ _ _ _ _ _ hr hu nd=>
  (jJf (jKg (i:=2) nd (jZh rfl T.n_list rfl T.n_range rfl (jJa (jJq jVd (by rfl) T.n_len lK5 (jJa (jJb 1) jJe)) jJe)))
   (jJf (jKg (i:=3) nd (jKm (mask:=[false,false,false,false,false,true,false,false,false]) rfl ⟨rfl,rfl,rfl,rfl,rfl,rfl,rfl⟩ (jQ5 (jJb 1)) jJv (fun C fp s H=>(jJj (i:=5) nd)) (fun C fp s H=>jKl) (fun C fp s H=>(e_bm lQr PySem.F.slot_list_pop PySem.F.type_list_pop m_popN (jJb 2) (jJa (jQd (jY3 T) (hr.mono (by decide)) (jJa (jJb 0) (jJa (jJq jVd (by rfl) T.n_len lK5 (jJa (jJb 2) jJe)) jJe))) jJe)))))
   (jJf (jKg (i:=4) nd (jKm (mask:=[false,false,false,false,false,true,false,false,false]) rfl ⟨rfl,rfl,rfl,rfl,rfl,rfl,rfl⟩ (jQ5 (jJb 1)) jJv (fun C fp s H=>(jJj (i:=5) nd)) (fun C fp s H=>jKl) (fun C fp s H=>(jKi jUh (by rfl) T.n_tuple rfl (jJa (jKm (mask:=[false,false,false,false,false,false,true,true,false]) rfl ⟨rfl,rfl,rfl,rfl,rfl,rfl,rfl⟩ (jQ5 (jJb 5)) (kJb (jK5 jJv jKd (jK5 jJv jKd kJc jUk) (jXp jKd jUk))) (fun C fp s H=>(jV3 rfl (jJw (jJj (i:=6) nd) (jJw (jJj (i:=7) nd) jQw)))) (fun C fp s H=>jKl) (fun C fp s H=>(jQ7 (jJa (e_ix (ix_F hu) (jJb 3) (jJb 6) (fun _ _=>rfl)) (jJa (jJb 7) jJe))))) jJe)))))
   (jJn (jKv (jKi jUh (by rfl) T.n_tuple rfl (jJa (jKm (mask:=[false,false,false,false,false,false,false,false,true]) rfl ⟨rfl,rfl,rfl,rfl,rfl,rfl,rfl⟩ (jQa rfl T.n_range (jJa (jJq jVd (by rfl) T.n_len lK5 (jJa (jJb 1) jJe)) jJe)) jJv (fun C fp s H=>(jJj (i:=8) nd)) (fun C fp s H=>jKl) (fun C fp s H=>(e_ix (ix_F hu) (jJb 4) (e_bm lQr PySem.F.slot_list_index PySem.F.type_list_index qXd (jJb 3) (jJa (jJb 8) jJe)) (fun _ _=>rfl)))) jJe)))))))
theorem kY8 (T:Txt K mg):Cal P w K mg base 2 "_law_sees" ["_law_web","_law_way"] jYo:=
 cal3 T.f_l_sees kQ5 fun _ _ _ _ _ _ _ hr hu nd=>
  (jJn (jKv (jJq (c_all rfl) (by rfl) T.n_all rfl (jJa (jKm (mask:=[false,false,true]) rfl ⟨rfl,rfl,rfl,rfl,rfl,rfl,rfl⟩ (jQa rfl T.n_range (jJa (jJq jVd (by rfl) T.n_len lK5 (jJa (jJb 0) jJe)) jJe)) jJv (fun C fp s H=>(jJj (i:=2) nd)) (fun C fp s H=>jKl) (fun C fp s H=>(kXw (kKx hr.units) (jJq jVd (by rfl) T.n_len lK5 (jJa (jQd (jY4 T) (hr.mono (by decide)) (jJa (jJb 0) (jJa (jJb 2) (jJa (jJb 1) jJe)))) jJe)) (jJq jVd (by rfl) T.n_len lK5 (jJa (jJb 0) jJe)) (jJ6 _)))) jJe))))
theorem kXj (T:Txt K mg):Cal P w K mg base 3 "_law_least" ["_law_web"] jXc:=
 cal3 T.f_l_least kKr fun _ _ _ _ _ _ _ hr hu nd=>
  (jJf (jKg (i:=1) nd (jVc (jJa (jQ7 jJe) jJe)))
   (jJn (kQz lK4 (kQv e_bl) (jJf (jXe lK4 rfl (jQ5 (jJb 1)) (jJj (i:=2) nd) (jJn (s_if (kQv (jQd (kY8 T) (hr.mono (by decide)) (jJa (jJb 0) (jJa (jJb 2) jJe)))) (jJn (jKv (jJb 2))) jUp)))
   (jJf (jKg (i:=3) nd (jVc jJe))
   (jJf (jXe lK4 rfl (jQ5 (jJb 1)) (jJj (i:=2) nd) (jJn (jVx (e_bm lQr lY0 lY1 jX8 (jJb 3) (jJa (jKm (mask:=[false,false,false,false,true]) rfl ⟨rfl,rfl,rfl,rfl,rfl,rfl,rfl⟩ (jQa rfl T.n_range (jJa (jJq jVd (by rfl) T.n_len lK5 (jJa (e_ix (ix_F hu) (jJb 0) jJx (fun _ _=>rfl)) jJe)) jJe)) jJv (fun C fp s H=>(jJj (i:=4) nd)) (fun C fp s H=>jKl) (fun C fp s H=>(e_op qU4 (jJb 2) (jQ7 (jJa (jJb 4) jJe))))) jJe)))))
   (jJn (jKg (i:=1) nd (jJb 3)))))))))
theorem ok_law [BuB base mg] (T:Txt K mg) {f:Addr} {fd:FuncData} (F:Fun K "law" "law" (top 21) f fd):Fn3 P w K mg base 12 f fd ["_law_script"] kYg:=by
 have S:FnScope N_law ["_law_script"] (jJk (top 21)):=⟨rfl,rfl,rfl,by decide +kernel,rfl,by decide +kernel,by decide +kernel⟩
 refine fn3 F S fun cdv A outer s H E hr=>⟨kU5,?_,qK3⟩
 have hu:=kZ4 hr
 have nd:=S.nd
 exact (jJf (jKg (i:=1) nd (jQd (kXi T) (hr.mono (by decide)) (jJa jJx (jJa jJx jJe))))
   (jJf (jXe lK4 rfl (jQ5 (jQd (kUb T) (hr.mono (by decide)) (jJa (jJb 0) (jJa jJx jJe)))) (jJj (i:=2) nd) (jJf (kQ0 (e_ix (ix_F hu) (jJb 1) (jQd (jY3 T) (hr.mono (by decide)) (jJa (jJb 2) (jJa (jJq jVd (by rfl) T.n_len lK5 (jJa (jJb 1) jJe)) jJe))) (fun _ _=>rfl)) (jV3 rfl (jJw (jJj (i:=3) nd) (jJw (jJj (i:=4) nd) jQw))))
   (jJf (jKg (i:=5) nd (e_op o_addF (jQd (kKv T) (hr.mono (by decide)) (jJa (jJb 3) (jJa (jJb 4) jJe))) (jQd (kKv T) (hr.mono (by decide)) (jJa jJx (jJa (jJb 4) jJe)))))
   (jJf (jKg (i:=6) nd (jQd (kJ0 T) (hr.mono (by decide)) (jJa (jJb 2) (jJa (e_ix (ix_F hu) (jJb 5) (jQd (jY3 T) (hr.mono (by decide)) (jJa (jJb 2) (jJa (jJq jVd (by rfl) T.n_len lK5 (jJa (jJb 5) jJe)) jJe))) (fun _ _=>rfl)) jJe))))
   (jJf (jKg (i:=7) nd (jJb 6))
   (jJn (s_if (PW3.pt (w_or (t_not (kQv (jQd (kXk T) (hr.mono (by decide)) (jJa (jQd (jY2 (mg:=mg) (base:=base) T) (hr.mono (by decide)) (jJa (jJb 7) jJe)) (jJa (jQd (kXj T) (hr.mono (by decide)) (jJa (jJb 6) jJe)) jJe))))) (qKk (jVg (qV6 hr.units) (jJb 7) (jJb 6) (jJ6 _))))) (jJn (jKv e_bl)) jUp)))))))
   (jJn (jKv e_bl))))
def qVp (K:PySem.W.Frag):Sp:=dn K 1 kYg
theorem fn_at {K:PySem.W.Frag} {h:Heap} {mg:Str->Option Value} {x:Str} {i:Nat} {f:Addr} {oc:Value} {od an:Option Addr} {osl:Array (Option Value)} {kV doc pm cdv ct:Value} (X:K.In h) (G:h.Ns mainGlobals mg) (a:PySem.W.nsIn K mainGlobals x=some (some (.ref f)))
  (l:K.lookup f=some ⟨oc,od,.func (PySem.W.fnOf x x (jUz (top i)) (defBody (top i)) (jJk (top i)) .none kV doc pm an cdv ct),osl⟩) (c:PySem.W.codeIn K cdv x=true) (k:PySem.W.keepIn K (.ref f)=true):FnAt K mg x i:=⟨f,_,PySem.W.mg_of X G a,fun_mk l c k⟩
theorem all_mk {l:PySem.W.OpenLaw} {w:World} {K:PySem.W.Frag} {mg:Str->Option Value} {fa:Addr} (hfa:mg "law"=some (.ref fa)) (T:Txt K mg):
  ∃fd:FuncData,(∀(s:Shared) (v:Value),BindsTo s fd ⟨[v],[]⟩ [("_law_script",v)])/\∀base:Heap,K.In base->base.Ns mainGlobals mg->BuB base mg->FnOk l.prog w K mg base CX0 12 fa fd ["_law_script"] (qVp K):=by
 obtain⟨f,fd,a,F⟩:=T.f_law
 cases hfa.symm.trans a
 refine⟨fd,fun s v=> ?_,fun base _ _ B=>ok_law T F⟩
 obtain⟨_,_,kV,doc,pm,an,cdv,ct,_,e,_⟩:=F.ex
 subst e
 exact .of_eq rfl
theorem fr_ofT {K:PySem.W.Frag} {H:Hp} {a:Addr} {xs:List V} (hO:qUh tabs H) (hS:SqL K H a xs):FrL K H a xs:=by
 rcases hS with h | h
 ·rcases h with h | ⟨ob,h⟩
  ·rcases hO a with z | ⟨o,ys,z⟩ | ⟨_,z⟩
   ·rw[z] at h;cases h
   ·rw[z] at h;cases h
   ·rw[z] at h;cases h
  ·exact .inl ⟨ob,h⟩
 ·exact .inr h
theorem jQk {K:PySem.W.Frag} {H:Hp}:∀ns:List Int,Reps K H (jK9 ns) (ns.map V.int)
 | []=>rfl
 | n::ns=>⟨_,_,rfl,rfl,jQk ns⟩
theorem walk {l:PySem.W.OpenLaw} {q:Program} {loose:List Str} {XP:(Str->Option Value)->Heap->Prop} {YP:World->Heap->Prop} {d:DefRec} {K:Params->PySem.W.Frag} (hn:l.most=some 63) (hdf:d.params.defaults=[])
  (hY:∀(w:World) (h:Heap),YP w h->(K w.params).In h/\PySem.W.TabsAt tabs h) (hKT:∀(w:World) b,b∈tabs.map (·.2)->(K w.params).lookup b=none)
  (F:∀(w:World) (mg:Str->Option Value) (fa:Addr) (h:Heap),(K w.params).In h->h.Ns mainGlobals mg->mg d.name=some (.ref fa)->
   ∃fd:FuncData,(∀(s:Shared) (u:Value),BindsTo s fd ⟨[u],[]⟩ [("_law_script",u)])/\∀base:Heap,(K w.params).In base->base.Ns mainGlobals mg->BuB base mg->FnOk l.prog w (K w.params) mg base CX0 12 fa fd ["_law_script"] (qVp (K w.params))):
  PySem.W.WalkO q loose XP YP l.row.toRowW d [] (fun f vs=>PySem.call f vs):=
 L2.walk_ofT tabs (n:=63) (k:=12) (x:="_law_script") (CX:=fun _=>CX0) (sp:=fun w=>qVp (K w.params)) hn (by decide) hdf ⟨rfl,rfl,by decide,by decide⟩ hY hKT F
  (fun _ _ a ns hl hO hO2 hS=>⟨rfl,[.scr (jK9 ns)],G0,⟨_,_,rfl,⟨a,_,rfl,fr_ofT hO hS,jQk ns⟩,rfl⟩,g0_rel hO2,ns,rfl,hl,tbs0,fun G' v H' _ _ r=>r⟩) fun _ _ _ _ _ z=>z
end W
def PySem.W.Fast.tw13359434130402520702 : Unit := ()
def PySem.W.Fast.tw13401684343265091803 : Unit := ()
def PySem.W.Fast.tw11896709374989642544 : Unit := ()
def PySem.W.Fast.tw8009875751644944647 : Unit := ()
def PySem.W.Fast.tw18029588539490561695 : Unit := ()
def PySem.W.Fast.tw5999970956674103323 : Unit := ()
def PySem.W.Fast.tw2722155676808575436 : Unit := ()
def PySem.W.Fast.tw16842169340293781107 : Unit := ()
def PySem.W.Fast.tw11938440774573169585 : Unit := ()
def PySem.W.Fast.tw8330465252232997885 : Unit := ()
def PySem.W.Fast.tw12096346801338306422 : Unit := ()
def PySem.W.Fast.tw12239106890846897132 : Unit := ()
def PySem.W.Fast.tw739704314227286487 : Unit := ()
def PySem.W.Fast.tw16249928720904731881 : Unit := ()
def PySem.W.Fast.tw10664553996312106647 : Unit := ()
def PySem.W.Fast.tw4080986640938983234 : Unit := ()
def PySem.W.Fast.tw896782400180596319 : Unit := ()
def PySem.W.Fast.tw13151658995923986623 : Unit := ()
def PySem.W.Fast.tw15193710725377707435 : Unit := ()
def PySem.W.Fast.tw5303096251951291935 : Unit := ()
def PySem.W.Fast.tw7580111202696957703 : Unit := ()
def PySem.W.Fast.tw2464252878537649388 : Unit := ()
def PySem.W.Fast.tw17397299187210075050 : Unit := ()
def PySem.W.Fast.tw31215044355044746 : Unit := ()
def PySem.W.Fast.tw1946570706560317457 : Unit := ()
def PySem.W.Fast.tw13586343222710789615 : Unit := ()
def PySem.W.Fast.tw16897211410044860862 : Unit := ()
def PySem.W.Fast.tw9788579620034632880 : Unit := ()
def PySem.W.Fast.tw13998854251193855171 : Unit := ()
def PySem.W.Fast.tw9662646881058313048 : Unit := ()
def PySem.W.Fast.tw8209835585090115915 : Unit := ()
def PySem.W.Fast.tw17153226568994055230 : Unit := ()
def PySem.W.Fast.tw14601388415806958155 : Unit := ()
def PySem.W.Fast.tw918205369917712703 : Unit := ()
def PySem.W.Fast.tw1010613185398749201 : Unit := ()
def PySem.W.Fast.tw11709505194499398722 : Unit := ()
def PySem.W.Fast.tw16044421175390227267 : Unit := ()
def PySem.W.Fast.tw16223591892357949808 : Unit := ()
def PySem.W.Fast.tw1359013742397179819 : Unit := ()
def PySem.W.Fast.tw3483748918440162602 : Unit := ()
def PySem.W.Fast.tw11499221289250129195 : Unit := ()
def PySem.W.Fast.tw10486197511179135925 : Unit := ()
def PySem.W.Fast.tw3896282952060007238 : Unit := ()
def PySem.W.Fast.tw11049811708059732758 : Unit := ()
def PySem.W.Fast.tw14801960731418090998 : Unit := ()
def PySem.W.Fast.tw11275626734307924999 : Unit := ()
def PySem.W.Fast.tw16557679018413001212 : Unit := ()
def PySem.W.Fast.tw1568204068990324930 : Unit := ()
def PySem.W.Fast.tw9608521909817180891 : Unit := ()
def PySem.W.Fast.tw16709539217034439838 : Unit := ()
def PySem.W.Fast.tw15243098011020499519 : Unit := ()
def PySem.W.Fast.tw4938141381069723227 : Unit := ()
def PySem.W.Fast.tw9242853168296850574 : Unit := ()
def PySem.W.Fast.tw1433737726457358854 : Unit := ()
def PySem.W.Fast.tw8039943817321418528 : Unit := ()
def PySem.W.Fast.tw17503134639925935779 : Unit := ()
def PySem.W.Fast.tw8804550710897976882 : Unit := ()
open PySem PySem.W PyProof.Rows
set_option maxRecDepth 100000 in
set_option maxHeartbeats 0 in
theorem PySem.Challenge.cw_stonewalker_k46_the_least_walk_holds : PySem.Challenge.rw_stonewalker_k46_the_least_walk.Holds := by
 w_on;o_law;k_head;(case hw=>w_witness2)
 k_fill
 refine W.walk (l:=PySem.Challenge.rw_stonewalker_k46_the_least_walk) rfl rfl (fun w h Y=>⟨km_in_of Y,?TT⟩) ?KT ?F
 case TT=>exact List.forall_mem_cons.mpr ⟨⟨codeHd_of_K (c:=44) (P:=40) (km_in_of Y) (by kernel_rfl),km_tabs_of Y 40 (by k_mem)⟩,fun _ h=>nomatch h⟩
 case KT=>intro w;exact W.kt (by kernel_rfl)
 case F=>
  intro w mg fa h KX G hmg
  refine W.all_mk hmg ?T
  constructor
  iterate 17 (refine PySem.W.mg_none_of KX G ?_;k_is)
  (refine' L3.lam_at KX G ?x0_a ?x0_l ?x0_e ?x0_d;(case x0_a=>k_is);(case x0_l=>k_is);(case x0_e=>rfl);(case x0_d=>kernel_rfl))
  iterate 19 (refine' W.fn_at KX G ?a ?l ?c ?k;(case a=>k_is);(case l=>k_is);(case c=>k_is);(case k=>k_is))
